import PyProof.Rows.All
import Wide.All
import OpenK.AllK
import Wide.FinOn
import HandS.ForMost
import HandS.Walk
import HandS.SetFor
import HandS.Strs
import HandS.TupMul
import HandS.TupAny
import HandS.TupLe
import HandS.Style
import HandS.SortInts
import HandS.IsInst
import HandS.Conv
import KE.GoesEnum
import HandS.Evl
import PySem.Challenge.RW_staletags_k05_whole_keepers_led
import HandS.Zip
import KE.GoesZip
import HandS.Base
import HandS.Call
import HandS.Words
import HandS.ExcInit
import KE.KExcSuper
import HandS.ExcValue
import HandS.ExcIs
import HandS.ExcField
import KE.KExcIs
import KE.DataFind
import HandS.Iter
import HandS.Nested
import HandS.WordsExc
import HandS.Exc
import HandS.ExcOwn
import HandS.ExcBuiltin
import HandS.IterVal
import HandS.TryOnly
import KE.KTupSum
import HandS.EndOwn
set_option Elab.async false
set_option linter.all false
set_option maxRecDepth 100000
set_option maxHeartbeats 4000000
/-! own rules: enumerate over a tuple, set of a list of ints, a tuple times one -/
namespace PySem
section
open Builtin
theorem en1_new {v : Value} {o : Obj} {G : Heap → Prop} (B : Begins v o G) :
    Meets (Builtin.«enumerate.__new__» ⟨[.type "enumerate", v], []⟩) (fun _ R s => G s.heap ∧
      R (.ok (.ret (.ref (s.heap.push o).objs.size)))
        { s with heap := (s.heap.push o).push { cls := .type "enumerate", data := .fields #[.none, .bool false, .ref s.heap.objs.size, rawInt 0, .none, .none] } }) := by
  refine .of_wp fun prog w A R s h => ?_
  obtain ⟨hp, g, d, tk, os⟩ := s
  obtain ⟨h1, h⟩ := h
  have hsb := sub_enumerate
  have qi : ∀ {A' : Around} {E : Value → Shared → Prop} {Q : Value → Shared → Prop},
      Q (.ref hp.objs.size) ⟨hp.push o, g, d, tk, os⟩ → wpAny (model prog w) A' (pyIter v) Q E ⟨hp, g, d, tk, os⟩ := fun {A'} {E} {Q} q =>
    B.iter prog w _ _ ⟨hp, g, d, tk, os⟩ _ h1 q
  wp_walk using qi
  refine wpAny_stack_any fun st => ?_
  refine wpAny_pure ?_
  split
  · rename_i c _ _ _ _ _
    cases (c == Value.type "enumerate") <;> (wp_walk using qi; exact ⟨_, rfl, h⟩)
  · wp_walk using qi
    exact ⟨_, rfl, h⟩
end
theorem en1_call {prog : Program} {w : World} {A : Around} {E : Value → Shared → Prop} {s : Shared} {v : Value} {o : Obj} {G : Heap → Prop} {Q : Value → Shared → Prop} (B : Begins v o G) (hG : G s.heap)
    (hq : ∀ h', IsEnum h' (s.heap.objs.size + 1) s.heap.objs.size 0 .none → h'.get? s.heap.objs.size = some o → (∀ b u, s.heap.get? b = some u → h'.get? b = some u) →
      Q (.ref (s.heap.objs.size + 1)) { s with heap := h' }) :
    wpAny (model prog w) A (call (.type "enumerate") [v]) Q E s := by
  have hz : (s.heap.push o).objs.size = s.heap.objs.size + 1 := Heap.size_push ..
  refine callType_new F.called_enumerate (by decide) (F.typeCall_enumerate_1 v) (F.newCall_enumerate_1 v)
    (fun obj => F.args_object_init_2 obj v) F.entry_enumerate_new (en1_new B) ⟨hG, ?_⟩
  show _ ∧ _
  rw [hz]
  have e0 := Heap.get?_push_size (s.heap.push o)
    (o := { cls := .type "enumerate", data := .fields #[.none, .bool false, .ref s.heap.objs.size, rawInt 0, .none, .none] }) rfl
  rw [hz] at e0
  have he : IsEnum ((s.heap.push o).push { cls := .type "enumerate", data := .fields #[.none, .bool false, .ref s.heap.objs.size, rawInt 0, .none, .none] })
    (s.heap.objs.size + 1) s.heap.objs.size 0 .none := e0
  refine ⟨⟨_, he, rfl⟩, hq _ he ?_ ?_⟩
  · exact Heap.get?_push_of_some _ (Heap.get?_push_size _ B.free)
  · intro b u x
    exact Heap.get?_push_of_some _ (Heap.get?_push_of_some _ x)
end PySem
namespace L2
open PySem PySem.Spec PyProof.Rows
/-- the tuple at a, each item in a new pair with its place -/
def IteT (K : PySem.W.Frag) (a : Addr) : It where
  go := fun i H => ∃ (xs : List V) (x : V), SqT K H a xs ∧ xs[i]? = some x
  yld := fun i H v H' => ∃ T x, v = .ref T ∧ H T = none ∧ H' = upd H T (.tup [.int (i : Nat), x]) ∧ ∀ xs, SqT K H a xs → xs[i]? = some x
  stop := fun i H => ∃ xs : List V, SqT K H a xs ∧ xs.length ≤ i
theorem isTup_isTuple {h : Heap} {a : Addr} {its : Array Value} (x : IsTup h a its) : h.IsTuple a its := by
  obtain ⟨o, ho, hc, n, hd⟩ := x
  exact ⟨o, ho, hc, n, hd⟩

theorem turn_enT {P : Program} {w : World} {K : PySem.W.Frag} {elts : List Expr} {kk : Nat} {tp : Pos} (a e it : Addr) (hai : a ≠ it) (hea : e ≠ a) :
    Turn P w K (.Tuple elts kk tp) (IteT K a) [e, it] e (fun i h => (∃ old, IsEnum h e it ((i : Nat) : Int) old) ∧ h.IsTupleIter it a i ∧ e ≠ it) := by
  refine ⟨by simp, ?_, ?_, ?_, ?_, ?_⟩
  · rintro i h ⟨⟨old, he⟩, hit, _⟩ b hb
    have hb2 : b = e ∨ b = it := by simpa using hb
    rcases hb2 with rfl | rfl
    · exact ⟨_, he, fun v q => nomatch q⟩
    · obtain ⟨o, ho, _, hd⟩ := hit
      exact ⟨o, ho, fun v q => by rw [hd] at q; cases q⟩
  · rintro i h h' ⟨⟨old, he⟩, hit, hne⟩ k
    refine ⟨⟨old, k e (by simp) _ he⟩, ?_, hne⟩
    obtain ⟨o, ho, r⟩ := hit
    exact ⟨o, k it (by simp) o ho, r⟩
  · intro X hP hw hK hc i pins s σ H E I hf st hg
    subst hP hw hK
    obtain ⟨⟨old, he⟩, hit, hne⟩ := st
    obtain ⟨xs, x, hq, hx⟩ := hg
    obtain ⟨its, rv, pt, hz⟩ := I.tuple hq
    obtain ⟨u, hu, ru⟩ := rv.get hx
    have hel : e < s.heap.objs.size := Heap.lt_size he
    have hil : it < s.heap.objs.size := by
      obtain ⟨_, q, _⟩ := hit
      exact Heap.lt_size q
    have hin : i < its.toArray.size := by
      have h2 := (List.getElem?_eq_some_iff.mp hu).1
      simpa using h2
    have hh1 : X.A.in1.handled = none := by
      have h0 := I.ok.hd hc
      simpa using h0
    refine wpAny_pyNext_enum_itemD (Draws.tuple hh1 it a hai its.toArray) he ⟨hit, isTup_isTuple pt⟩ hin hne (by simp [hne, hea]) fun y h1 tk hy hout hst hT hsz hk => ?_
    have ey : y = u := by
      have h3 : its.toArray[i]? = some u := by simpa using hu
      exact Option.some.inj (hy.symm.trans h3)
    subst ey
    refine ⟨_, rfl, wpAny_letOwnedTupleGo_enum (s := { s with heap := h1, toks := tk + 1 }) hout fun h2 he2 sb => ?_⟩
    have hT2 : h2.get? s.heap.objs.size = some { cls := .type "tuple", data := .seq #[.int i tk, y] } := (sb.2 _ (Nat.ne_of_gt hel)).trans hT
    have new : ObjOk X.prog X.w (upd H s.heap.objs.size (.tup [.int (i : Nat), x])) h2 s.heap.objs.size (.tup [.int (i : Nat), x]) := by
      refine ⟨?_, [.int i tk, y], ?_, ?_⟩
      · show 2 ≤ sizeLine
        decide
      · exact .cons ⟨_, rfl⟩ (.cons ru .nil)
      · exact ⟨_, hT2, rfl, _, rfl⟩
    have I1 : Inv X pins σ (upd H s.heap.objs.size (.tup [.int (i : Nat), x])) { s with heap := h2, toks := tk + 1 } := by
      refine I.turnedNew (ch := [e, it]) (fun b ob hb q => ?_) hf (Nat.le_refl _) new
      have nbe : b ≠ e := fun z => hb (by simp [z])
      have nbi : b ≠ it := fun z => hb (by simp [z])
      exact (sb.2 b nbe).trans (hk b ob nbe nbi q)
    refine ⟨.ref s.heap.objs.size, _, I1, rfl, ⟨_, x, rfl, I.hok.fresh (Nat.le_refl _), rfl, fun ys hy2 => ?_⟩, ⟨⟨y, ?_⟩, ?_, hne⟩, fun b hb => ?_⟩
    · rw [I.tuple_inj hy2 hq]
      exact hx
    · have e1 : ((i + 1 : Nat) : Int) = (i : Int) + 1 := by omega
      rw [e1]
      exact he2
    · obtain ⟨o, ho, r⟩ := hst.1
      exact ⟨o, (sb.2 it (Ne.symm hne)).trans ho, r⟩
    · have hlt : b < s.heap.objs.size := by
        have hb2 : b = e ∨ b = it := by simpa using hb
        rcases hb2 with rfl | rfl
        · exact hel
        · exact hil
      rw [upd_ne (Nat.ne_of_lt hlt)]
      exact (hf b hb).1
  · intro X hP hw hK hc i pins s σ H E I hf st hg
    subst hP hw hK
    obtain ⟨⟨old, he⟩, hit, hne⟩ := st
    obtain ⟨xs, hq, hx⟩ := hg
    obtain ⟨its, rv, pt, hz⟩ := I.tuple hq
    obtain ⟨f0, f1, f2, f3, f4, f5⟩ := hf it (by simp)
    have hh1 : X.A.in1.handled = none := by
      have h0 := I.ok.hd hc
      simpa using h0
    have hl := rv.length
    have hend : ∀ h', Heap.ExtBut it s.heap h' → (fun (r : Option Value) (s1 : Shared) => r = none ∧ Inv X pins σ H s1) none { s with heap := h' } := fun h' eb =>
      ⟨rfl, I.turned (t' := s.toks) (fun b o hb q => eb b o hb q) f0 f1 f3 f4 f5⟩
    have hT : s.TypeIs (.ref e) "enumerate" := ⟨_, he, rfl⟩
    unfold pyNext
    refine wpAny_bind (wpAny_attempt (wpAny_callSpecial?_slot (name := Str.ofString "__next__") hT F.slot_enumerate_next
      (wpAny_call_entry F.slot_enumerate_next hT F.entry_enumerate_next ?_ (F.args_enumerate_next_1 _))))
    show wpAny _ _ (field (.ref e) 2 >>= _) _ _ _
    refine wpAny_bind (wpAny_field he rfl (x := .ref it) rfl ?_)
    refine wpAny_bind (wpAny_nextOf_tuple_end hh1 hit (isTup_isTuple pt) (by simp; omega) fun h' y he' hy => ?_)
    obtain ⟨o, ho, hcl⟩ := hy
    refine wpAny_bind (wpAny_isInstance (T := "StopIteration") (b := true) ⟨o, ho, hcl⟩ isSubtype_stop ?_)
    exact wpAny_pure (hend _ he')
  · rintro A i s Q E ⟨⟨old, he⟩, _⟩ h
    exact wpAny_pyIter_enum he h
def iEnumT (K : PySem.W.Frag) (ta : TA) : TI := fun σ H R => ta σ H fun vs H1 => ∃ a xs, vs = [.ref a] ∧ SqT K H1 a xs ∧ R (IteT K a) H1
theorem pi_enumT {X : Cx} {e : Expr} {ta : TA} {p pos tp : Pos} {elts : List Expr} {kk : Nat} (hg : Gl X "enumerate") (hm : X.mg "enumerate" = none) (ha : PA X [e] ta)
    (hs : starEach [e] X.env = [(false, eval e X.env)] := by rfl) : PI X (.Tuple elts kk tp) (.Call (.Name "enumerate" p) [e] [] pos) (iEnumT X.K ta) := by
  constructor
  intro pins s σ H R I h
  refine Call_ (ld_blt I hg hm boot_enumerate ?_)
  refine PyProof.Rows.callWith_type1 (thn (ha.run pos pins s σ H _ I h) fun us s1 hh => ?_) hs rfl
  obtain ⟨vs, H1, I1, r1, a, xs, rfl, hq, q⟩ := hh
  cases r1 with
  | cons r rr =>
    cases rr
    cases r
    obtain ⟨its, rv, pt, hz⟩ := I1.tuple hq
    have ht := isTup_isTuple pt
    have hlt : a < s1.heap.objs.size := by
      obtain ⟨o, ho, _⟩ := pt
      exact Heap.lt_size ho
    refine en1_call (begins_tuple a its.toArray) ht fun h' he hit hk => ?_
    refine wpAny_pyIter_enum he ?_
    have I2 : Inv X pins σ H1 { s1 with heap := h' } := I1.kept (t' := s1.toks) hk
    have T := turn_enT (P := X.prog) (w := X.w) (K := X.K) (elts := elts) (kk := kk) (tp := tp) a (s1.heap.objs.size + 1) s1.heap.objs.size (Nat.ne_of_lt hlt) (by
      intro z
      rw [← z] at hlt
      exact absurd hlt (Nat.not_lt.mpr (Nat.le_succ _)))
    refine ⟨s1.heap.objs.size + 1, [s1.heap.objs.size + 1, s1.heap.objs.size], _, _, H1, rfl, I2, T, ⟨⟨.none, he⟩, ⟨_, hit, rfl, rfl⟩, Nat.succ_ne_self _⟩, fun b hb => ?_, q⟩
    have hb2 : b = s1.heap.objs.size + 1 ∨ b = s1.heap.objs.size := by simpa using hb
    have hle : s1.heap.objs.size ≤ b := by
      rcases hb2 with z | z <;> rw [z]
      · exact Nat.le_succ _
      · exact Nat.le_refl _
    exact I1.fpOk hle (I1.hok.fresh hle)
theorem walk_enT {K : PySem.W.Frag} {a : Addr} {xs : List V} : Walk (IteT K a) xs.length (fun H => SqT K H a xs) (YPair (fun i => some (.int (i : Nat))) (fun i => xs[i]?)) := by
  constructor
  · intro i H hi q
    exact ⟨xs, xs[i], q, by simp [hi]⟩
  · intro H q
    exact ⟨xs, q, Nat.le_refl _⟩
  · rintro i H v H' _ q ⟨T, x, h1, h2, h3, h4⟩
    exact ⟨T, .int (i : Nat), x, h1, h2, h3, rfl, h4 xs q⟩

/-! ### set(a list of ints) -/
section
variable {P : Program} {w : World} {A : Around} {E : Value → Shared → Prop} {s : Shared}
abbrev set0 (w : World) : Obj := { cls := .type "set", dict := none, data := .set #[] 0 (.fresh 0 0 (!w.params.followText "set-order")) }
theorem setL_call {l : Addr} {items : Array Value} (ns : List Int) {Q : Value → Shared → Prop} (hh : A.handled = none) (hl : s.heap.IsList l items) (hit : IntsAre items.toList ns) (hb : ns.length + 1 < scanBound)
    (hq : ∀ (h' : Heap) (tk c : Nat), SetR w h' s.heap.objs.size (fun j => decide (j ∈ ns)) c → c ≤ ns.length → (∀ b o, s.heap.get? b = some o → h'.get? b = some o) →
      Q (.ref s.heap.objs.size) { s with heap := h', toks := tk }) :
    wpAny (model P w) A (call (.type "set") [.ref l]) Q E s := by
  have hisz : items.size = ns.length := by simpa using IntsAre.length hit
  obtain ⟨cm, tl, hmro⟩ := F.called_set.mro
  have hmade := F.called_set.made
  have hsb := F.called_set.sub
  refine wpAny_call (codeAny_of_tree ?_)
  show wpAny _ _ (callAny (.type "set") _) _ _ _
  refine wpAny_pure ⟨Code.quiet_builtin _ (by decide +kernel), ?_⟩
  refine codeAny_builtin F.entry_type_call ?_
  rw [Around.under_plain (weight_type_call_type "set" [.ref l] []) rfl]
  have f1 := F.called_set.notType
  have f2 := F.called_set.canCreate
  have f3 := F.typeCall_set_1 (.ref l)
  repeat (any_goals (first | assumption | wp_step))
  refine codeAny_mono (code_set_led1 (.ref l) (E := E) (Q₁ := fun obj s₁ => obj = .ref s.heap.objs.size ∧ s₁ = { s with heap := s.heap.push (set0 w) }) ⟨rfl, rfl⟩) fun r s₁ hr => ?_
  cases r with
  | error e => exact hr
  | ok fl =>
    cases fl with
    | next => exact hr.elim
    | brk => exact hr.elim
    | cont => exact hr.elim
    | ret obj =>
      obtain ⟨rfl, rfl⟩ := hr
      have hS : (s.heap.push (set0 w)).get? s.heap.objs.size = some (set0 w) := Heap.get?_push_size _ rfl
      have hT : Shared.TypeIs { s with heap := s.heap.push (set0 w) } (.ref s.heap.objs.size) "set" := ⟨_, hS, rfl⟩
      have f4 := F.called_set.init.lookup
      have f5 := F.called_set.init.bind (.ref s.heap.objs.size)
      repeat (any_goals (first | assumption | wp_step))
      refine codeAny_mono (codeAny_call_builtin (R := wants (fun r s₂ => r = .none ∧ ∃ h' tk c, s₂ = { s with heap := h', toks := tk } ∧ SetR w h' s.heap.objs.size (fun j => decide (j ∈ ns)) c ∧
          c ≤ ns.length ∧ ∀ b o, s.heap.get? b = some o → h'.get? b = some o) E) F.called_set.init.plain F.entry_set_init (check_set_init_1 hT ?_)) fun r₂ s₂ hr₂ => ?_
      · obtain ⟨⟨oc, od, odt, osl⟩, hol, hcl, nl, hdl⟩ := hl
        replace hcl : oc = .type "list" := hcl
        replace hdl : odt = .seq items nl := hdl
        subst hcl hdl
        have hol1 : (s.heap.push (set0 w)).get? l = some { cls := .type "list", dict := od, data := .seq items nl, slots := osl } := Heap.get?_push_of_some _ hol
        have f6 := F.sub_list_set
        have f7 := F.sub_list_frozenset
        have hne : (Value.type "list" == Value.type "dict") = false := by decide
        have hl1 : (s.heap.push (set0 w)).IsList l items := ⟨_, hol1, rfl, nl, rfl⟩
        unfold Builtin.«set.__init__» noKeywords Builtin.Frozenset.updateFrom
        generalize hPI : pyIter = PI
        wp_walk
        subst hPI
        refine wpAny_pyIter_list hl1 ?_
        refine wpAny_bind (wpAny_runValue ?_)
        have hlS : l < s.heap.objs.size := Heap.lt_size hol
        have hh3 : A.in1.in1.in1.handled = none := by simp [hh]
        have hsz1 : (s.heap.push (set0 w)).objs.size = s.heap.objs.size + 1 := Heap.size_push ..
        have hneI : l ≠ (s.heap.push (set0 w)).objs.size := by
          rw [hsz1]
          exact Nat.ne_of_lt (Nat.lt_succ_of_lt hlS)
        have hSf : s.heap.objs.size ∉ [(s.heap.push (set0 w)).objs.size, l] := by
          rw [hsz1]
          intro hm
          rcases List.mem_cons.mp hm with z | z
          · exact absurd z (Nat.ne_of_lt (Nat.lt_succ_self _))
          · exact absurd (List.mem_singleton.mp z) (Nat.ne_of_gt hlS)
        have hval : ∀ (i : Nat) (v : Value), items[i]? = some v → ∃ k t, ns[i]? = some k ∧ v = .int k t := fun i v hv => by
          have hi : i < ns.length := by
            rw [← hisz]
            exact (Array.getElem?_eq_some_iff.mp hv).1
          obtain ⟨t, e⟩ := IntsAre.int_at hit i v (by simpa using hv)
          exact ⟨ns[i], t, List.getElem?_eq_getElem hi, by rw [e]; simp [hi]⟩
        refine set_update_ints ((Walks.list hh3 _ l hneI items).toS) s.heap.objs.size hSf ns hisz hb hval (items.size - 0) 0 _ (by omega) (Nat.zero_le _)
          ⟨⟨_, Heap.get?_push_size _ rfl, rfl, rfl⟩, (hl1.push _)⟩ ?hA ?hB
        case hA =>
          have hget := Heap.get?_push_of_some { cls := .type "list_iterator", data := .fields #[.ref l, .int 0 0] } hS
          exact ⟨0, Nat.le_refl 0, setR_new_at hget⟩
        case hB =>
          intro s' c' hm hc' hS'
          obtain ⟨h', g2, d', tk', os'⟩ := s'
          have eg : g2 = s.gens := hm.gens
          have ed : d' = s.drawn := hm.drawn
          have eo : os' = s.os := hm.os
          subst eg ed eo
          show wpAny _ _ _ _ _ _
          refine wpAny_pure ?_
          show wpAny _ _ (ret Value.none) _ _ _
          rw [hisz] at hc'
          refine wpAny_pure ⟨rfl, h', tk', c', rfl, hS', hc', fun b o e => ?_⟩
          have hb0 : b < s.heap.objs.size := Heap.lt_size e
          have hb3 : b ∉ [s.heap.objs.size, (s.heap.push (set0 w)).objs.size] := by
            rw [hsz1]
            intro hm
            rcases List.mem_cons.mp hm with z | z
            · exact absurd z (Nat.ne_of_lt hb0)
            · exact absurd (List.mem_singleton.mp z) (Nat.ne_of_lt (Nat.lt_succ_of_lt hb0))
          exact hm.heap b o hb3 (Heap.get?_push_of_some _ (Heap.get?_push_of_some _ e))
      · cases r₂ with
        | error e => exact hr₂
        | ok fl₂ =>
          cases fl₂ with
          | next => exact hr₂.elim
          | brk => exact hr₂.elim
          | cont => exact hr₂.elim
          | ret r =>
            obtain ⟨rfl, h', tk, c', rfl, hS', hc', hk'⟩ := hr₂
            repeat (any_goals (first | assumption | wp_step))
            exact hq _ _ _ hS' hc' hk'
end
/-- set(xs), xs a list of ints: its members, at most as many as the list is long -/
def rSetOfL (K : PySem.W.Frag) (w : World) : List V → Hp → VK → Prop := fun vs H Q => ∃ (l : Addr) (ns : List Int), vs = [.ref l] ∧ SqL K H l (ns.map V.int) ∧ ns.length ≤ 4000 ∧
  ∀ p n, H p = none → n ≤ ns.length → Q (.ref p) (upd H p (SetO w p (fun j => decide (j ∈ ns)) n))
theorem cr_setL {X : Cx} (hc : X.calm = true) : CallR X (.type "set") (rSetOfL X.K X.w) := by
  intro pins s σ H vs us Q I r h
  obtain ⟨l, ns, rfl, hq, hl, q⟩ := h
  rw [Vals.ref1 r]
  obtain ⟨its, rv, pl, hz⟩ := I.list hq
  have hi := ints_of_vals rv
  refine setL_call ns (I.ok.hd hc) pl.isList (by simpa using hi) (by unfold scanBound; omega) fun h' tk c hS hcn hk => ?_
  have hn : H s.heap.objs.size = none := I.hok.fresh (Nat.le_refl _)
  exact ⟨.ref _, upd H s.heap.objs.size (SetO X.w s.heap.objs.size (fun j => decide (j ∈ ns)) c), I.laid (t' := tk) hk (Nat.le_refl _) (setO_new hS), rfl, q _ _ hn hcn⟩
end L2

set_option maxRecDepth 100000
set_option maxHeartbeats 4000000
/-! data, and what an expression evaluates to in data -/
namespace W1
open PySem L2

inductive D where
  | non | bl (b : Bool) | int (i : Int) | str (s : Str) | tup (xs : List D) | lst (xs : List D) | obj (v : V)

/-- the shape of the law's own hand: it alone changes while others look on -/
def Handy (xs : List V) : Prop := ∃ c p x s n, xs = [.ref c, .int p, .int x, .int s, .int n] ∧ 0 ≤ p ∧ 0 ≤ x
def Le (H H' : Hp) : Prop := ∀ a o, H a = some o → H' a = some o ∨
  ∃ c p x s n p' x' s' n', o = .lst [.ref c, .int p, .int x, .int s, .int n] ∧ H' a = some (.lst [.ref c, .int p', .int x', .int s', .int n']) ∧ 0 ≤ p' ∧ 0 ≤ x'
theorem Le.refl (H : Hp) : Le H H := fun _ _ h => .inl h
theorem Le.trans {H H1 H2 : Hp} (a : Le H H1) (b : Le H1 H2) : Le H H2 := fun x o h => by
  rcases a x o h with h1 | ⟨c, p, q, s, n, p', q', s', n', rfl, h1, u, v⟩
  · exact b x o h1
  · rcases b x _ h1 with h2 | ⟨c2, p2, q2, s2, n2, p3, q3, s3, n3, e, h2, u2, v2⟩
    · exact .inr ⟨c, p, q, s, n, p', q', s', n', rfl, h2, u, v⟩
    · injection e with e
      injection e with e1 e
      injection e1 with e1
      subst e1
      exact .inr ⟨c, p, q, s, n, p3, q3, s3, n3, rfl, h2, u2, v2⟩
theorem Le.ex {H H' : Hp} (e : Evl.Ex H H') : Le H H' := fun a o h => .inl (e a o h)
theorem Le.new {H : Hp} {p : Addr} {o : HO} (h : H p = none) : Le H (upd H p o) := Le.ex (Evl.Ex.new h)
/-- what H does not know may change -/
theorem Le.mut {H H' : Hp} {p : Addr} {o : HO} (e : Le H H') (h : H p = none) : Le H (upd H' p o) := fun a u ha => by
  rw [upd_ne (ne_of_none ha h)]
  exact e a u ha
theorem Le.tup {H H' : Hp} {a : Addr} {xs : List V} (e : Le H H') (h : H a = some (.tup xs)) : H' a = some (.tup xs) := by
  rcases e a _ h with h1 | ⟨_, _, _, _, _, _, _, _, _, z, _⟩
  · exact h1
  · cases z
theorem Le.ins {H H' : Hp} {a C dx : Addr} {fs : List (Str × V)} (e : Le H H') (h : H a = some (.ins C dx fs)) : H' a = some (.ins C dx fs) := by
  rcases e a _ h with h1 | ⟨_, _, _, _, _, _, _, _, _, z, _⟩
  · exact h1
  · cases z
theorem Le.frz {H H' : Hp} {a : Addr} {o : Obj} {u : HO} (e : Le H H') (h : H a = some (.frz o u)) : H' a = some (.frz o u) := by
  rcases e a _ h with h1 | ⟨_, _, _, _, _, _, _, _, _, z, _⟩
  · exact h1
  · cases z
def NotH (xs : List V) : Prop := ∀ c p x s n, xs ≠ [.ref c, .int p, .int x, .int s, .int n]
theorem Le.lst {H H' : Hp} {a : Addr} {xs : List V} (e : Le H H') (h : H a = some (.lst xs)) (n : NotH xs) : H' a = some (.lst xs) := by
  rcases e a _ h with h1 | ⟨c, p, x, s, m, _, _, _, _, z, _⟩
  · exact h1
  · injection z with z
    exact absurd z (n c p x s m)
theorem Le.sqt {K : PySem.W.Frag} {H H' : Hp} {a : Addr} {xs : List V} (e : Le H H') (h : SqT K H a xs) : SqT K H' a xs := by
  rcases h with (h | ⟨o, h⟩) | h
  · exact .inl (.inl (e.tup h))
  · exact .inl (.inr ⟨o, e.frz h⟩)
  · exact .inr h
theorem Le.fresh {H H' : Hp} {p : Addr} (e : Le H H') (h : H' p = none) : H p = none := by
  cases h1 : H p with
  | none => rfl
  | some o =>
    rcases e p o h1 with h2 | ⟨_, _, _, _, _, _, _, _, _, _, h2, _⟩
    · rw [h] at h2
      cases h2
    · rw [h] at h2
      cases h2

/-! ### what stands for data -/
mutual
inductive Rp (K : PySem.W.Frag) (H : Hp) : V → D → Prop
  | non : Rp K H .non .non
  | bl (b : Bool) : Rp K H (.bl b) (.bl b)
  | int (i : Int) : Rp K H (.int i) (.int i)
  | str (x : Str) : Rp K H (.str x) (.str x)
  | obj (v : V) : Rp K H v (.obj v)
  | tup {a : Addr} {xs : List V} {ds : List D} : SqT K H a xs → Rps K H xs ds → Rp K H (.ref a) (.tup ds)
  | lst {a : Addr} {xs : List V} {ds : List D} : H a = some (.lst xs) → NotH xs → Rps K H xs ds → Rp K H (.ref a) (.lst ds)
inductive Rps (K : PySem.W.Frag) (H : Hp) : List V → List D → Prop
  | nil : Rps K H [] []
  | cons {v : V} {vs : List V} {d : D} {ds : List D} : Rp K H v d → Rps K H vs ds → Rps K H (v :: vs) (d :: ds)
end
section
variable {K : PySem.W.Frag} {H H' : Hp}
mutual
theorem Rp.le (e : Le H H') {v : V} {d : D} : Rp K H v d → Rp K H' v d
  | .non => .non
  | .bl b => .bl b
  | .int i => .int i
  | .str x => .str x
  | .obj v => .obj v
  | .tup h r => .tup (e.sqt h) (Rps.le e r)
  | .lst h n r => .lst (e.lst h n) n (Rps.le e r)
theorem Rps.le (e : Le H H') {vs : List V} {ds : List D} : Rps K H vs ds → Rps K H' vs ds
  | .nil => .nil
  | .cons h r => .cons (Rp.le e h) (Rps.le e r)
end
theorem Rps.len : ∀ {vs : List V} {ds : List D}, Rps K H vs ds → vs.length = ds.length
  | _, _, .nil => rfl
  | _, _, .cons _ r => by rw [List.length_cons, List.length_cons, Rps.len r]
theorem Rps.at : ∀ {vs : List V} {ds : List D} {i : Nat} {d : D}, Rps K H vs ds → ds[i]? = some d → ∃ v, vs[i]? = some v ∧ Rp K H v d
  | _, _, _, _, .nil, h => by simp at h
  | _, _, 0, _, .cons h _, e => by
    simp at e
    subst e
    exact ⟨_, rfl, h⟩
  | _, _, i + 1, d, .cons _ r, e => by
    obtain ⟨v, h1, h2⟩ := Rps.at (i := i) (d := d) r (by simpa using e)
    exact ⟨v, by simpa using h1, h2⟩
theorem Rps.at' : ∀ {vs : List V} {ds : List D} {i : Nat} {v : V}, Rps K H vs ds → vs[i]? = some v → ∃ d, ds[i]? = some d ∧ Rp K H v d
  | _, _, _, _, .nil, h => by simp at h
  | _, _, 0, _, .cons h _, e => by
    simp at e
    subst e
    exact ⟨_, rfl, h⟩
  | _, _, i + 1, d, .cons _ r, e => by
    obtain ⟨v, h1, h2⟩ := Rps.at' (i := i) (v := d) r (by simpa using e)
    exact ⟨v, by simpa using h1, h2⟩
theorem Rps.app : ∀ {vs ws : List V} {ds es : List D}, Rps K H vs ds → Rps K H ws es → Rps K H (vs ++ ws) (ds ++ es)
  | _, _, _, _, .nil, s => s
  | _, _, _, _, .cons h r, s => .cons h (Rps.app r s)
theorem Rps.take : ∀ {vs : List V} {ds : List D} (n : Nat), Rps K H vs ds → Rps K H (vs.take n) (ds.take n)
  | _, _, 0, _ => .nil
  | _, _, _ + 1, .nil => .nil
  | _, _, n + 1, .cons h r => .cons h (Rps.take n r)
theorem Rps.drop : ∀ {vs : List V} {ds : List D} (n : Nat), Rps K H vs ds → Rps K H (vs.drop n) (ds.drop n)
  | _, _, 0, r => r
  | _, _, _ + 1, .nil => .nil
  | _, _, n + 1, .cons _ r => Rps.drop n r
theorem Rps.rep {v : V} {d : D} (h : Rp K H v d) : ∀ n : Nat, Rps K H (List.replicate n v) (List.replicate n d)
  | 0 => .nil
  | n + 1 => .cons h (Rps.rep h n)
theorem Rps.flat {vs : List V} {ds : List D} (h : Rps K H vs ds) : ∀ n : Nat, Rps K H (List.replicate n vs).flatten (List.replicate n ds).flatten
  | 0 => .nil
  | n + 1 => by
    rw [List.replicate_succ, List.replicate_succ, List.flatten_cons, List.flatten_cons]
    exact h.app (Rps.flat h n)
theorem Rps.set : ∀ {vs : List V} {ds : List D} {v : V} {d : D} (i : Nat), Rps K H vs ds → Rp K H v d → Rps K H (vs.set i v) (ds.set i d)
  | _, _, _, _, _, .nil, _ => .nil
  | _, _, _, _, 0, .cons _ r, h => .cons h r
  | _, _, _, _, i + 1, .cons g r, h => .cons g (Rps.set i r h)
theorem rps_ints : ∀ ns : List Int, Rps K H (ns.map V.int) (ns.map D.int)
  | [] => .nil
  | n :: ns => .cons (.int n) (rps_ints ns)
theorem ints_rps : ∀ {ns : List Int} {vs : List V}, Rps K H vs (ns.map D.int) → vs = ns.map V.int
  | [], _, h => by
    cases h
    rfl
  | n :: ns, _, h => by
    cases h with
    | cons a r =>
      cases a
      rw [ints_rps r]
      rfl
theorem rps_bls : ∀ bs : List Bool, Rps K H (bs.map V.bl) (bs.map D.bl)
  | [] => .nil
  | b :: bs => .cons (.bl b) (rps_bls bs)
theorem bls_rps : ∀ {bs : List Bool} {vs : List V}, Rps K H vs (bs.map D.bl) → vs = bs.map V.bl
  | [], _, h => by
    cases h
    rfl
  | b :: bs, _, h => by
    cases h with
    | cons a r =>
      cases a
      rw [bls_rps r]
      rfl
end
theorem notH_len {xs : List V} (h : xs.length ≠ 5) : NotH xs := fun c p x s n e => h (by rw [e]; rfl)
theorem notH_int {x : Int} {xs : List V} : NotH (.int x :: xs) := fun _ _ _ _ _ e => by injection e with e _; cases e
theorem notH_ints (ns : List Int) : NotH (ns.map V.int) := by
  cases ns with
  | nil => exact notH_len (by decide)
  | cons n ns => exact notH_int
theorem notH_bls (bs : List Bool) : NotH (bs.map V.bl) := fun c p x s n e => by
  cases bs with
  | nil => cases e
  | cons b bs =>
    injection e with e _
    cases e
/-- items that are all references, or none an int behind the first -/
theorem notH_of {xs : List V} (h : ∀ v, xs[1]? = some v → ∀ i, v ≠ .int i) : NotH xs := fun c p x s n e => by
  subst e
  exact h (.int p) rfl p rfl

/-! ### evaluation -/
abbrev Pd := D → Hp → Prop
/-- e evaluates to something that stands for data of which P holds -/
def EP (K : PySem.W.Frag) (te : TE) (σ : L2.St) (H : Hp) (P : Pd) : Prop := ∀ H1, Le H H1 → ∀ Q : VK, (∀ v d H2, Le H1 H2 → P d H2 → Rp K H2 v d → Q v H2) → te σ H1 Q
abbrev is (d : D) : Pd := fun x _ => x = d
abbrev ED (K : PySem.W.Frag) (te : TE) (σ : L2.St) (H : Hp) (d : D) : Prop := EP K te σ H (is d)
def EA (K : PySem.W.Frag) (ta : TA) (σ : L2.St) (H : Hp) (P : List D → Hp → Prop) : Prop := ∀ H1, Le H H1 → ∀ Q : List V → Hp → Prop, (∀ vs ds H2, Le H1 H2 → P ds H2 → Rps K H2 vs ds → Q vs H2) → ta σ H1 Q
abbrev EDA (K : PySem.W.Frag) (ta : TA) (σ : L2.St) (H : Hp) (ds : List D) : Prop := EA K ta σ H fun x _ => x = ds
def ET (tt : TT) (σ : L2.St) (H : Hp) (P : Bool → Prop) : Prop := ∀ H1, Le H H1 → ∀ Q : Bool → Hp → Prop, (∀ b H2, Le H1 H2 → P b → Q b H2) → tt σ H1 Q
abbrev EB (tt : TT) (σ : L2.St) (H : Hp) (b : Bool) : Prop := ET tt σ H fun x => x = b
def EO (to : TO) (σ : L2.St) (H : Hp) (o : Option Int) : Prop := ∀ H1, Le H H1 → ∀ Q : Option Int → Hp → Prop, (∀ H2, Le H1 H2 → Q o H2) → to σ H1 Q

section
variable {K : PySem.W.Frag} {σ : L2.St} {H H' : Hp} {ta tb tc te : TE} {t u : TT} {x y z v : V} {d d1 d2 d3 : D} {P P1 P2 P3 : Pd}
theorem EP.le (e : Le H H') (h : EP K te σ H P) : EP K te σ H' P := fun H1 a Q q => h H1 (e.trans a) Q q
theorem EA.le {ta : TA} {P : List D → Hp → Prop} (e : Le H H') (h : EA K ta σ H P) : EA K ta σ H' P := fun H1 a Q q => h H1 (e.trans a) Q q
theorem ET.le {P : Bool → Prop} (e : Le H H') (h : ET t σ H P) : ET t σ H' P := fun H1 a Q q => h H1 (e.trans a) Q q
theorem EP.weak (h : EP K te σ H P) (w : ∀ d H2, Le H H2 → P d H2 → P1 d H2) : EP K te σ H P1 := fun H1 a Q q => h H1 a Q fun v d H2 b p r => q v d H2 b (w d H2 (a.trans b) p) r
theorem ed_eq (h : ED K te σ H d) (e : d = d1) : ED K te σ H d1 := e ▸ h
theorem eb_eq {a b : Bool} (h : EB t σ H a) (e : a = b) : EB t σ H b := e ▸ h
/-- then: what comes behind may lean on what was found -/
theorem ed_var {i : Nat} (h : σ[i]? = some (some v)) (r : Rp K H v d) : ED K (tVar i) σ H d := fun H1 e Q q => ⟨v, h, q v d H1 (Le.refl _) rfl (r.le e)⟩
theorem ed_int {i : Int} : ED K (tC (.int i)) σ H (.int i) := fun H1 _ Q q => q _ _ H1 (Le.refl _) rfl (.int i)
theorem ed_bl {b : Bool} : ED K (tC (.bl b)) σ H (.bl b) := fun H1 _ Q q => q _ _ H1 (Le.refl _) rfl (.bl b)
theorem ed_str {s : Str} : ED K (tC (.str s)) σ H (.str s) := fun H1 _ Q q => q _ _ H1 (Le.refl _) rfl (.str s)
theorem ed_non : ED K (tC .non) σ H .non := fun H1 _ Q q => q _ _ H1 (Le.refl _) rfl .non
theorem ed_obj : ED K (tC v) σ H (.obj v) := fun H1 _ Q q => q _ _ H1 (Le.refl _) rfl (.obj v)
/-- two operands -/
theorem ep_op {r : R2} (ha : EP K ta σ H P1) (hb : EP K tb σ H P2)
    (hr : ∀ x y d1 d2 H1 H2, Le H H1 → Le H1 H2 → P1 d1 H1 → P2 d2 H2 → Rp K H2 x d1 → Rp K H2 y d2 → ∀ Q : VK, (∀ v d H3, Le H2 H3 → P d H3 → Rp K H3 v d → Q v H3) → r x y H2 Q) : EP K (tOp r ta tb) σ H P := fun H1 e Q q =>
  ha H1 e _ fun x d1 H2 e2 p1 r1 => hb H2 (e.trans e2) _ fun y d2 H3 e3 p2 r2 =>
    hr x y d1 d2 H2 H3 (e.trans e2) e3 p1 p2 (r1.le e3) r2 Q fun v d H4 e4 p r => q v d H4 ((e2.trans e3).trans e4) p r
theorem ed_op {r : R2} (ha : ED K ta σ H d1) (hb : ED K tb σ H d2)
    (hr : ∀ x y H2, Le H H2 → Rp K H2 x d1 → Rp K H2 y d2 → ∀ Q : VK, (∀ v d H3, Le H2 H3 → P d H3 → Rp K H3 v d → Q v H3) → r x y H2 Q) : EP K (tOp r ta tb) σ H P :=
  ep_op ha hb fun x y e1 e2 H1 H2 a b p1 p2 r1 r2 => by
    subst p1 p2
    exact hr x y H2 (a.trans b) r1 r2
theorem ed_un {r : V → Hp → VK → Prop} (ha : ED K ta σ H d1)
    (hr : ∀ x H2, Le H H2 → Rp K H2 x d1 → ∀ Q : VK, (∀ v d H3, Le H2 H3 → P d H3 → Rp K H3 v d → Q v H3) → r x H2 Q) : EP K (tUn r ta) σ H P := fun H1 e Q q =>
  ha H1 e _ fun x e1 H2 e2 p1 r1 => by
    have p2 : e1 = d1 := p1
    subst p2
    exact hr x H2 (e.trans e2) r1 Q fun v d H4 e4 p r => q v d H4 (e2.trans e4) p r
theorem rp_int {i : Int} (r : Rp K H v (.int i)) : v = .int i := by
  cases r
  rfl
theorem rp_bl {b : Bool} (r : Rp K H v (.bl b)) : v = .bl b := by
  cases r
  rfl
theorem rp_str {s : Str} (r : Rp K H v (.str s)) : v = .str s := by
  cases r
  rfl
theorem rp_non (r : Rp K H v .non) : v = .non := by
  cases r
  rfl
theorem rp_obj {w : V} (r : Rp K H v (.obj w)) : v = w := by
  cases r
  rfl
/-- two ints -/
theorem ep_I0 {g : Int → Int → V} (ha : EP K ta σ H P1) (hb : EP K tb σ H P2)
    (h : ∀ d1 d2 H1 H2, Le H H1 → Le H1 H2 → P1 d1 H1 → P2 d2 H2 → ∃ i j, d1 = .int i ∧ d2 = .int j ∧ ∃ d, P d H2 ∧ Rp K H2 (g i j) d) : EP K (tOp (rI0 g) ta tb) σ H P :=
  ep_op ha hb fun x y d1 d2 H1 H2 a b p1 p2 r1 r2 Q q => by
    obtain ⟨i, j, rfl, rfl, d, p, r⟩ := h d1 d2 H1 H2 a b p1 p2
    exact ⟨i, j, rp_int r1, rp_int r2, q _ d H2 (Le.refl _) p r⟩
theorem ep_I {C : Int → Int → Prop} {g : Int → Int → V} (ha : EP K ta σ H P1) (hb : EP K tb σ H P2)
    (h : ∀ d1 d2 H1 H2, Le H H1 → Le H1 H2 → P1 d1 H1 → P2 d2 H2 → ∃ i j, d1 = .int i ∧ d2 = .int j ∧ C i j ∧ ∃ d, P d H2 ∧ Rp K H2 (g i j) d) : EP K (tOp (rI C g) ta tb) σ H P :=
  ep_op ha hb fun x y d1 d2 H1 H2 a b p1 p2 r1 r2 Q q => by
    obtain ⟨i, j, rfl, rfl, c, d, p, r⟩ := h d1 d2 H1 H2 a b p1 p2
    exact ⟨i, j, rp_int r1, rp_int r2, c, q _ d H2 (Le.refl _) p r⟩
theorem ed_I0 {f : Int → Int → Int} {i j : Int} (ha : ED K ta σ H (.int i)) (hb : ED K tb σ H (.int j)) : ED K (tOp (rI0 fun i j => .int (f i j)) ta tb) σ H (.int (f i j)) :=
  ep_I0 ha hb fun d1 d2 H1 H2 _ _ p1 p2 => ⟨i, j, p1, p2, _, rfl, .int _⟩
theorem ed_B0 {f : Int → Int → Bool} {i j : Int} (ha : ED K ta σ H (.int i)) (hb : ED K tb σ H (.int j)) : ED K (tOp (rI0 fun i j => .bl (f i j)) ta tb) σ H (.bl (f i j)) :=
  ep_I0 ha hb fun d1 d2 H1 H2 _ _ p1 p2 => ⟨i, j, p1, p2, _, rfl, .bl _⟩
theorem ed_I {C : Int → Int → Prop} {f : Int → Int → Int} {i j : Int} (ha : ED K ta σ H (.int i)) (hb : ED K tb σ H (.int j)) (c : C i j) : ED K (tOp (rI C fun i j => .int (f i j)) ta tb) σ H (.int (f i j)) :=
  ep_I ha hb fun d1 d2 H1 H2 _ _ p1 p2 => ⟨i, j, p1, p2, c, _, rfl, .int _⟩
theorem ed_neg {i : Int} (ha : ED K ta σ H (.int i)) : ED K (tUn (rU fun i => .int (-i)) ta) σ H (.int (-i)) :=
  ed_un ha fun x H2 _ r Q q => ⟨i, rp_int r, q _ _ H2 (Le.refl _) rfl (.int _)⟩
/-- flat data: equal just if equal -/
def vOf : D → V
  | .non => .non
  | .bl b => .bl b
  | .int i => .int i
  | .str s => .str s
  | .obj v => v
  | _ => .non
def flat : D → Bool
  | .tup _ => false
  | .lst _ => false
  | _ => true
theorem rp_flat (h : flat d = true) (r : Rp K H v d) : v = vOf d := by
  cases r <;> first | rfl | cases h
theorem flat_rp (h : flat d = true) : Rp K H (vOf d) d := by
  cases d with
  | non => exact .non
  | bl b => exact .bl b
  | int i => exact .int i
  | str s => exact .str s
  | obj v => exact .obj v
  | tup xs => cases h
  | lst xs => cases h
theorem ed_eqS (ha : ED K ta σ H d1) (hb : ED K tb σ H d2) (f1 : flat d1 = true) (f2 : flat d2 = true) (hs : scal (vOf d1) (vOf d2) = true) : ED K (tOp rEq ta tb) σ H (.bl (decide (vOf d1 = vOf d2))) :=
  ed_op ha hb fun x y H2 _ r1 r2 Q q => by
    rw [rp_flat f1 r1, rp_flat f2 r2]
    exact ⟨hs, q _ _ H2 (Le.refl _) rfl (.bl _)⟩
theorem ed_neS (ha : ED K ta σ H d1) (hb : ED K tb σ H d2) (f1 : flat d1 = true) (f2 : flat d2 = true) (hs : scal (vOf d1) (vOf d2) = true) : ED K (tOp rNe ta tb) σ H (.bl (!decide (vOf d1 = vOf d2))) :=
  ed_op ha hb fun x y H2 _ r1 r2 Q q => by
    rw [rp_flat f1 r1, rp_flat f2 r2]
    exact ⟨hs, q _ _ H2 (Le.refl _) rfl (.bl _)⟩
theorem ed_isN (ha : ED K ta σ H d1) (n : ∀ v, d1 ≠ .obj v) : ED K (tOp (fun x y H Q => y = .non ∧ Q (.bl (decide (x = .non))) H) ta (tC .non)) σ H (.bl (match d1 with | .non => true | _ => false)) :=
  ed_op ha ed_non fun x y H2 _ r1 r2 Q q => by
    refine ⟨rp_non r2, ?_⟩
    cases r1 with
    | obj v => exact absurd rfl (n x)
    | _ => exact q _ _ H2 (Le.refl _) rfl (.bl _)
theorem ed_notN (ha : ED K ta σ H d1) (n : ∀ v, d1 ≠ .obj v) : ED K (tOp (fun x y H Q => y = .non ∧ Q (.bl (!decide (x = .non))) H) ta (tC .non)) σ H (.bl (match d1 with | .non => false | _ => true)) :=
  ed_op ha ed_non fun x y H2 _ r1 r2 Q q => by
    refine ⟨rp_non r2, ?_⟩
    cases r1 with
    | obj v => exact absurd rfl (n x)
    | _ => exact q _ _ H2 (Le.refl _) rfl (.bl _)
/-! tuples and lists -/
theorem rp_tup {ds : List D} (r : Rp K H v (.tup ds)) : ∃ a xs, v = .ref a ∧ SqT K H a xs ∧ Rps K H xs ds := by
  cases r with
  | tup h r => exact ⟨_, _, rfl, h, r⟩
theorem rp_lst {ds : List D} (r : Rp K H v (.lst ds)) : ∃ a xs, v = .ref a ∧ H a = some (.lst xs) ∧ NotH xs ∧ Rps K H xs ds := by
  cases r with
  | lst h n r => exact ⟨_, _, rfl, h, n, r⟩
theorem atI_rps {xs : List V} {ds : List D} {i : Int} (r : Rps K H xs ds) (h : 0 ≤ i) (e : ds[i.toNat]? = some d) : ∃ v, atI xs i = some v ∧ Rp K H v d := by
  obtain ⟨v, h1, h2⟩ := r.at e
  have ei : i = (i.toNat : Int) := by omega
  rw [ei]
  exact ⟨v, atI_nat h1, h2⟩
theorem ed_ixT {ds : List D} {i : Int} (ha : ED K ta σ H (.tup ds)) (hb : ED K tb σ H (.int i)) (h : 0 ≤ i) (e : ds[i.toNat]? = some d) : ED K (tOp (rIxT K) ta tb) σ H d :=
  ed_op ha hb fun x y H2 _ r1 r2 Q q => by
    obtain ⟨a, xs, rfl, s, r⟩ := rp_tup r1
    obtain ⟨v, h1, h2⟩ := atI_rps r h e
    exact ⟨a, xs, i, v, rfl, rp_int r2, s, h1, q v d H2 (Le.refl _) rfl h2⟩
theorem ed_ixL {ds : List D} {i : Int} (ha : ED K ta σ H (.lst ds)) (hb : ED K tb σ H (.int i)) (h : 0 ≤ i) (e : ds[i.toNat]? = some d) : ED K (tOp (rIxL K) ta tb) σ H d :=
  ed_op ha hb fun x y H2 _ r1 r2 Q q => by
    obtain ⟨a, xs, rfl, s, _, r⟩ := rp_lst r1
    obtain ⟨v, h1, h2⟩ := atI_rps r h e
    exact ⟨a, xs, i, v, rfl, rp_int r2, SqL.of s, h1, q v d H2 (Le.refl _) rfl h2⟩
theorem ea_nil : EDA K tNil σ H [] := fun H1 _ Q q => q [] [] H1 (Le.refl _) rfl .nil
theorem ep_cons {tr : TA} {PA : List D → Hp → Prop} (h : EP K ta σ H P) (hr : EA K tr σ H PA) : EA K (tCons ta tr) σ H (fun ds H2 => ∃ d r H1, ds = d :: r ∧ Le H1 H2 ∧ P d H1 ∧ PA r H2) := fun H1 e Q q =>
  h H1 e _ fun x d H2 e2 p r => hr H2 (e.trans e2) _ fun xs ds H3 e3 p3 r3 => q _ (d :: ds) H3 (e2.trans e3) ⟨d, ds, H2, rfl, e3, p, p3⟩ (.cons (r.le e3) r3)
theorem ea_cons {tr : TA} {ds : List D} (h : ED K ta σ H d) (hr : EDA K tr σ H ds) : EDA K (tCons ta tr) σ H (d :: ds) := fun H1 e Q q =>
  h H1 e _ fun x d' H2 e2 p r => hr H2 (e.trans e2) _ fun xs ds' H3 e3 p3 r3 => q _ (d' :: ds') H3 (e2.trans e3) (by rw [show d' = d from p, show ds' = ds from p3]) (.cons (r.le e3) r3)
theorem ep_tup {ta : TA} {PA : List D → Hp → Prop} (h : EA K ta σ H PA) (hl : ∀ ds H2, PA ds H2 → ds.length ≤ 100000) (hP : ∀ ds H2, PA ds H2 → ∀ H3, Le H2 H3 → P (.tup ds) H3) : EP K (tTup ta) σ H P := fun H1 e Q q =>
  h H1 e _ fun xs ds H2 e2 p r => ⟨by rw [r.len]; exact Evl.sz_of (hl ds H2 p), fun a na => q _ (.tup ds) _ (e2.trans (Le.new na)) (hP ds H2 p _ (Le.new na)) (.tup (Evl.st_of upd_same) (r.le (Le.new na)))⟩
theorem ed_tup {ta : TA} {ds : List D} (h : EDA K ta σ H ds) (hl : ds.length ≤ 100000) : ED K (tTup ta) σ H (.tup ds) :=
  ep_tup h (fun ds' H2 p => by rw [show ds' = ds from p]; exact hl) fun ds' H2 p H3 _ => by rw [show ds' = ds from p]
theorem ep_lst {ta : TA} {PA : List D → Hp → Prop} (h : EA K ta σ H PA) (hl : ∀ ds H2, PA ds H2 → ds.length ≤ 100000) (hn : ∀ ds H2 xs, PA ds H2 → Rps K H2 xs ds → NotH xs) (hP : ∀ ds H2, PA ds H2 → ∀ H3, Le H2 H3 → P (.lst ds) H3) : EP K (tLst ta) σ H P := fun H1 e Q q =>
  h H1 e _ fun xs ds H2 e2 p r => ⟨by rw [r.len]; exact Evl.sz_of (hl ds H2 p), fun a na => q _ (.lst ds) _ (e2.trans (Le.new na)) (hP ds H2 p _ (Le.new na)) (.lst upd_same (hn ds H2 xs p r) (r.le (Le.new na)))⟩
/-- what data can't be a hand -/
def calmL : List D → Bool
  | [.obj _, .int _, .int _, .int _, .int _] => false
  | [.tup _, .int _, .int _, .int _, .int _] => false
  | [.lst _, .int _, .int _, .int _, .int _] => false
  | [_, .obj _, _, _, _] => false
  | [_, _, .obj _, _, _] => false
  | [_, _, _, .obj _, _] => false
  | [_, _, _, _, .obj _] => false
  | _ => true
theorem calm_notH {xs : List V} {ds : List D} (h : calmL ds = true) (r : Rps K H xs ds) : NotH xs := fun c p x s n e => by
  subst e
  cases r with
  | cons r1 r =>
    cases r with
    | cons r2 r =>
      cases r with
      | cons r3 r =>
        cases r with
        | cons r4 r =>
          cases r with
          | cons r5 r =>
            cases r
            cases r2 <;> cases r3 <;> cases r4 <;> cases r5 <;> cases r1 <;> cases h
theorem ed_lst {ta : TA} {ds : List D} (h : EDA K ta σ H ds) (hl : ds.length ≤ 100000) (hc : calmL ds = true) : ED K (tLst ta) σ H (.lst ds) :=
  ep_lst h (fun ds' H2 p => by rw [show ds' = ds from p]; exact hl) (fun ds' H2 xs p r => by rw [show ds' = ds from p] at r; exact calm_notH hc r) fun ds' H2 p H3 _ => by rw [show ds' = ds from p]
theorem ed_lenT {ds : List D} (ha : ED K ta σ H (.tup ds)) : ED K (tCB (fun xs H Q => ∃ p ys, xs = [.ref p] ∧ (SqL K H p ys ∨ SqT K H p ys) ∧ Q (.int ys.length) H) (tCons ta tNil)) σ H (.int (ds.length : Int)) := fun H1 e Q q =>
  ha H1 e _ fun x d H2 e2 p r => by
    have p' : d = .tup ds := p
    subst p'
    obtain ⟨a, xs, rfl, s, r'⟩ := rp_tup r
    exact ⟨a, xs, rfl, .inr s, q _ _ H2 e2 (by rw [r'.len]) (.int _)⟩
theorem ed_lenL {ds : List D} (ha : ED K ta σ H (.lst ds)) : ED K (tCB (fun xs H Q => ∃ p ys, xs = [.ref p] ∧ (SqL K H p ys ∨ SqT K H p ys) ∧ Q (.int ys.length) H) (tCons ta tNil)) σ H (.int (ds.length : Int)) := fun H1 e Q q =>
  ha H1 e _ fun x d H2 e2 p r => by
    have p' : d = .lst ds := p
    subst p'
    obtain ⟨a, xs, rfl, s, _, r'⟩ := rp_lst r
    exact ⟨a, xs, rfl, .inl (SqL.of s), q _ _ H2 e2 (by rw [r'.len]) (.int _)⟩
/-! tests -/
theorem et_test {b : Bool} (h : ED K te σ H (.bl b)) : EB (tTest te) σ H b := fun H1 e Q q => h H1 e _ fun v d H2 e2 p r => by
  have p' : d = .bl b := p
  subst p'
  exact ⟨b, rp_bl r, q b H2 e2 rfl⟩
theorem et_B {b : Bool} (h : ED K te σ H (.bl b)) : EB (tB te) σ H b := fun H1 e Q q => h H1 e _ fun v d H2 e2 p r => by
  have p' : d = .bl b := p
  subst p'
  exact ⟨b, rp_bl r, q b H2 e2 rfl⟩
theorem et_Bp (h : EP K te σ H fun d _ => ∃ b, d = .bl b) : ET (tB te) σ H fun _ => True := fun H1 e Q q => h H1 e _ fun v d H2 e2 p r => by
  obtain ⟨b, rfl⟩ := p
  exact ⟨b, rp_bl r, q b H2 e2 trivial⟩
theorem et_testp (h : EP K te σ H fun d _ => ∃ b, d = .bl b) : ET (tTest te) σ H fun _ => True := fun H1 e Q q => h H1 e _ fun v d H2 e2 p r => by
  obtain ⟨b, rfl⟩ := p
  exact ⟨b, rp_bl r, q b H2 e2 trivial⟩
theorem eb_and {a b : Bool} (h1 : EB t σ H a) (h2 : a = true → EB u σ H b) : EB (tAnd t u) σ H (a && b) := fun H1 e Q q => h1 H1 e _ fun x H2 e2 p => by
  subst p
  cases x with
  | true =>
    show u σ H2 Q
    exact h2 rfl H2 (e.trans e2) Q fun y H3 e3 p3 => q y H3 (e2.trans e3) p3
  | false =>
    show Q false H2
    exact q false H2 e2 rfl
theorem eb_or {a b : Bool} (h1 : EB t σ H a) (h2 : a = false → EB u σ H b) : EB (tOr t u) σ H (a || b) := fun H1 e Q q => h1 H1 e _ fun x H2 e2 p => by
  subst p
  cases x with
  | true =>
    show Q true H2
    exact q true H2 e2 rfl
  | false =>
    show u σ H2 Q
    exact h2 rfl H2 (e.trans e2) Q fun y H3 e3 p3 => q y H3 (e2.trans e3) p3
theorem et_and {P1 P2 : Bool → Prop} (h1 : ET t σ H P1) (h2 : P1 true → ET u σ H P2) : ET (tAnd t u) σ H (fun b => (b = true ∧ P1 true ∧ P2 true) ∨ (b = false ∧ (P1 false ∨ P1 true ∧ P2 false))) := fun H1 e Q q => h1 H1 e _ fun x H2 e2 p => by
  cases x with
  | true =>
    show u σ H2 Q
    refine h2 p H2 (e.trans e2) Q fun y H3 e3 p3 => q y H3 (e2.trans e3) ?_
    cases y with
    | true => exact .inl ⟨rfl, p, p3⟩
    | false => exact .inr ⟨rfl, .inr ⟨p, p3⟩⟩
  | false =>
    show Q false H2
    exact q false H2 e2 (.inr ⟨rfl, .inl p⟩)
theorem et_weak {P1 P2 : Bool → Prop} (h : ET t σ H P1) (w : ∀ b, P1 b → P2 b) : ET t σ H P2 := fun H1 e Q q => h H1 e Q fun b H2 e2 p => q b H2 e2 (w b p)
theorem eb_not {a : Bool} (h : EB t σ H a) : EB (tNot t) σ H (!a) := fun H1 e Q q => h H1 e _ fun x H2 e2 p => q (!x) H2 e2 (by rw [p])
theorem ed_andV {a b : Bool} (h1 : ED K ta σ H (.bl a)) (h2 : a = true → ED K tb σ H (.bl b)) : ED K (tAndV ta tb) σ H (.bl (a && b)) := fun H1 e Q q => h1 H1 e _ fun v d H2 e2 p r => by
  have p' : d = .bl a := p
  subst p'
  refine ⟨a, rp_bl r, ?_⟩
  cases a with
  | true =>
    show tb σ H2 Q
    exact h2 rfl H2 (e.trans e2) Q fun v d H3 e3 p3 r3 => q v d H3 (e2.trans e3) p3 r3
  | false =>
    show Q (.bl false) H2
    exact q _ _ H2 e2 rfl (.bl false)
theorem ed_orV {a b : Bool} (h1 : ED K ta σ H (.bl a)) (h2 : a = false → ED K tb σ H (.bl b)) : ED K (tOrV ta tb) σ H (.bl (a || b)) := fun H1 e Q q => h1 H1 e _ fun v d H2 e2 p r => by
  have p' : d = .bl a := p
  subst p'
  refine ⟨a, rp_bl r, ?_⟩
  cases a with
  | true =>
    show Q (.bl true) H2
    exact q _ _ H2 e2 rfl (.bl true)
  | false =>
    show tb σ H2 Q
    exact h2 rfl H2 (e.trans e2) Q fun v d H3 e3 p3 r3 => q v d H3 (e2.trans e3) p3 r3
theorem ed_notV {a : Bool} (h : ED K ta σ H (.bl a)) : ED K (tNotV ta) σ H (.bl (!a)) := fun H1 e Q q => h H1 e _ fun v d H2 e2 p r => by
  have p' : d = .bl a := p
  subst p'
  exact ⟨a, rp_bl r, q _ _ H2 e2 rfl (.bl _)⟩
theorem ep_if {b : Bool} (h : EB t σ H b) (h1 : b = true → EP K ta σ H P) (h2 : b = false → EP K tb σ H P) : EP K (tIf t ta tb) σ H P := fun H1 e Q q => h H1 e _ fun x H2 e2 p => by
  subst p
  cases x with
  | true =>
    show ta σ H2 Q
    exact h1 rfl H2 (e.trans e2) Q fun v d H3 e3 p3 r3 => q v d H3 (e2.trans e3) p3 r3
  | false =>
    show tb σ H2 Q
    exact h2 rfl H2 (e.trans e2) Q fun v d H3 e3 p3 r3 => q v d H3 (e2.trans e3) p3 r3
/-- a <= b <= c, and the like -/
theorem ed_chain {f g : Int → Int → Bool} {i j k : Int} (ha : ED K ta σ H (.int i)) (hb : ED K tb σ H (.int j)) (hc : ED K tc σ H (.int k)) :
    ED K (tChain (rI0 fun i j => .bl (f i j)) (rI0 fun i j => .bl (g i j)) ta tb tc) σ H (.bl (f i j && g j k)) := fun H1 e Q q =>
  ha H1 e _ fun x d1 H2 e2 p1 r1 => hb H2 (e.trans e2) _ fun y d2 H3 e3 p2 r2 => by
    have p1' : d1 = .int i := p1
    have p2' : d2 = .int j := p2
    subst p1' p2'
    refine ⟨i, j, rp_int r1, rp_int r2, f i j, rfl, ?_⟩
    cases hf : f i j with
    | true =>
      show tc σ H3 _
      refine hc H3 ((e.trans e2).trans e3) _ fun z d3 H4 e4 p3 r3 => ?_
      have p3' : d3 = .int k := p3
      subst p3'
      exact ⟨j, k, rp_int r2, rp_int r3, q (.bl (g j k)) (.bl (g j k)) H4 ((e2.trans e3).trans e4) (by show D.bl _ = D.bl _; rw [hf, Bool.true_and]) (.bl _)⟩
    | false =>
      show Q (.bl false) H3
      exact q (.bl false) (.bl false) H3 (e2.trans e3) (by show D.bl _ = D.bl _; rw [hf, Bool.false_and]) (.bl false)
/-! calls -/
/-- a promise told in data: R args heap P says that the answer's data has P -/
def spD (K : PySem.W.Frag) (R : List D → Hp → Pd → Prop) : Sp := fun vs H Q _ => ∃ ds P, Rps K H vs ds ∧ R ds H P ∧ ∀ v d H2, Le H H2 → P d H2 → Rp K H2 v d → Q v H2
theorem ep_call {R : List D → Hp → Pd → Prop} {E : XK} {ta : TA} {PA : List D → Hp → Prop} (h : EA K ta σ H PA) (hr : ∀ ds H2, Le H H2 → PA ds H2 → ∃ P1, R ds H2 P1 ∧ ∀ d H3, Le H2 H3 → P1 d H3 → P d H3) : EP K (tCall (spD K R) [] E ta) σ H P := fun H1 e Q q =>
  h H1 e _ fun vs ds H2 e2 p r => by
    obtain ⟨P1, h1, w⟩ := hr ds H2 (e.trans e2) p
    exact ⟨ds, P1, by rw [List.append_nil]; exact r, h1, fun v d H3 e3 p3 r3 => q v d H3 (e2.trans e3) (w d H3 e3 p3) r3⟩
theorem ed_call {R : List D → Hp → Pd → Prop} {E : XK} {ta : TA} {ds : List D} (h : EDA K ta σ H ds) (hr : ∀ H2, Le H H2 → R ds H2 P) : EP K (tCall (spD K R) [] E ta) σ H P :=
  ep_call h fun ds' H2 e p => by
    have p' : ds' = ds := p
    subst p'
    exact ⟨P, hr H2 e, fun _ _ _ x => x⟩
end
end W1

set_option maxRecDepth 100000
set_option maxHeartbeats 4000000
/-! statements, loops, comprehensions, built-ins in data -/
namespace W1
open PySem L2

/-- no list within -/
inductive NoL : D → Prop
  | non : NoL .non
  | bl (b : Bool) : NoL (.bl b)
  | int (i : Int) : NoL (.int i)
  | str (s : Str) : NoL (.str s)
  | obj (v : V) : NoL (.obj v)
  | tup {ds : List D} : (∀ d ∈ ds, NoL d) → NoL (.tup ds)
section
variable {K : PySem.W.Frag} {H H' : Hp}
theorem sqt_upd {a l : Addr} {xs : List V} {o : HO} (hl : ∀ ys, H l ≠ some (.tup ys)) (hz : ∀ ob u, H l ≠ some (.frz ob u)) (h : SqT K H a xs) : SqT K (upd H l o) a xs := by
  rcases h with (h | ⟨ob, h⟩) | h
  · have n : a ≠ l := fun e => hl xs (e ▸ h)
    exact .inl (.inl (by rw [upd_ne n]; exact h))
  · have n : a ≠ l := fun e => hz ob _ (e ▸ h)
    exact .inl (.inr ⟨ob, by rw [upd_ne n]; exact h⟩)
  · exact .inr h
mutual
/-- a list changes: what holds no list stands -/
theorem Rp.upd {l : Addr} {ys : List V} {o : HO} (hl : H l = some (.lst ys)) {v : V} {d : D} (n : NoL d) : Rp K H v d → Rp K (L2.upd H l o) v d
  | .non => .non
  | .bl b => .bl b
  | .int i => .int i
  | .str x => .str x
  | .obj v => .obj v
  | .tup h r => .tup (sqt_upd (fun ys e => by rw [hl] at e; cases e) (fun ob u e => by rw [hl] at e; cases e) h) (Rps.upd hl (by cases n with | tup n => exact n) r)
  | .lst h _ r => nomatch n
theorem Rps.upd {l : Addr} {ys : List V} {o : HO} (hl : H l = some (.lst ys)) {vs : List V} {ds : List D} (n : ∀ d ∈ ds, NoL d) : Rps K H vs ds → Rps K (L2.upd H l o) vs ds
  | .nil => .nil
  | .cons h r => .cons (Rp.upd hl (n _ (List.mem_cons_self ..)) h) (Rps.upd hl (fun d hd => n d (List.mem_cons_of_mem _ hd)) r)
end
/-- data whose lists can't be a hand: all ints, or no int at all -/
def Uni (ds : List D) : Prop := (∀ d ∈ ds, ∃ i, d = .int i) ∨ ∀ d ∈ ds, (∀ i, d ≠ .int i) ∧ ∀ v, d ≠ .obj v
theorem Uni.notH {ds : List D} {vs : List V} (u : Uni ds) (r : Rps K H vs ds) : NotH vs := fun c p x s n e => by
  subst e
  cases r with
  | @cons _ _ d1 ds1 r1 r =>
    cases r with
    | @cons _ _ d2 ds2 r2 r =>
      rcases u with u | u
      · obtain ⟨i, e⟩ := u d1 (List.mem_cons_self ..)
        subst e
        cases r1
      · obtain ⟨h1, h2⟩ := u d2 (List.mem_cons_of_mem _ (List.mem_cons_self ..))
        cases r2 with
        | int i => exact h1 _ rfl
        | obj v => exact h2 _ rfl
theorem Uni.app {ds : List D} {d : D} (u : Uni (ds ++ [d])) : Uni ds := by
  rcases u with u | u
  · exact .inl fun x hx => u x (List.mem_append_left _ hx)
  · exact .inr fun x hx => u x (List.mem_append_left _ hx)
theorem uni_ints (ns : List Int) : Uni (ns.map D.int) := .inl fun d hd => by
  obtain ⟨i, _, rfl⟩ := List.mem_map.mp hd
  exact ⟨i, rfl⟩
theorem noL_ints (ns : List Int) : ∀ d ∈ ns.map D.int, NoL d := fun d hd => by
  obtain ⟨i, _, rfl⟩ := List.mem_map.mp hd
  exact .int i
end

/-! ### statements -/
section
variable {K : PySem.W.Frag} {σ : L2.St} {H H' : Hp} {ta tb tc te : TE} {t u : TT} {x y z v : V} {d d1 d2 d3 : D} {P P1 P2 P3 : Pd} {D1 : Ends} {tu tw : TS} {g : TG}
theorem s_asg {i : Nat} (h : EP K te σ H P) (k : ∀ v d H1, Le H H1 → P d H1 → Rp K H1 v d → D1.nx (σ.set i (some v)) H1) : tAsg te (gName i) D1 σ H := h H (Le.refl _) _ k
theorem s_asgD {i : Nat} (h : ED K te σ H d) (k : ∀ v H1, Le H H1 → Rp K H1 v d → D1.nx (σ.set i (some v)) H1) : tAsg te (gName i) D1 σ H := h H (Le.refl _) _ fun v d' H1 e p r => by
  have p' : d' = d := p
  subst p'
  exact k v H1 e r
theorem s_tup2 {i j : Nat} (h : ED K te σ H (.tup [d1, d2])) (k : ∀ v w H1, Le H H1 → Rp K H1 v d1 → Rp K H1 w d2 → D1.nx ((σ.set i (some v)).set j (some w)) H1) : tAsg te (gTup K 2 (gCons (gName i) (gCons (gName j) gNil))) D1 σ H := h H (Le.refl _) _ fun v d' H1 e p r => by
  have p' : d' = .tup [d1, d2] := p
  subst p'
  obtain ⟨a, xs, rfl, s, r⟩ := rp_tup r
  cases r with
  | cons r1 r =>
    cases r with
    | cons r2 r =>
      cases r
      exact ⟨a, _, rfl, s, rfl, _, _, rfl, _, _, rfl, rfl, k _ _ H1 e r1 r2⟩
theorem s_tup3 {i j l : Nat} {PA : List D → Hp → Prop} {ta : TA} (h : EA K ta σ H PA) (hl : ∀ ds H1, PA ds H1 → ds.length = 3)
    (k : ∀ v w u d1 d2 d3 H1, Le H H1 → PA [d1, d2, d3] H1 → Rp K H1 v d1 → Rp K H1 w d2 → Rp K H1 u d3 → ∀ H2, Le H1 H2 → D1.nx (((σ.set i (some v)).set j (some w)).set l (some u)) H2) : tAsg (tTup ta) (gTup K 3 (gCons (gName i) (gCons (gName j) (gCons (gName l) gNil)))) D1 σ H := h H (Le.refl _) _ fun vs ds H1 e p r => by
  have l3 := hl ds H1 p
  refine ⟨by rw [r.len, l3]; decide, fun a na => ?_⟩
  cases r with
  | nil => cases l3
  | cons r1 r =>
    cases r with
    | nil => cases l3
    | cons r2 r =>
      cases r with
      | nil => cases l3
      | cons r3 r =>
        cases r with
        | cons _ _ =>
          simp at l3
        | nil => exact ⟨a, _, rfl, Evl.st_of upd_same, rfl, _, _, rfl, _, _, rfl, _, _, rfl, rfl, k _ _ _ _ _ _ H1 e p r1 r2 r3 _ (Le.new na)⟩
theorem s_par2 {i j : Nat} {ta : TA} {PA : List D → Hp → Prop} (h : EA K ta σ H PA) (hl : ∀ ds H1, PA ds H1 → ds.length = 2)
    (k : ∀ v w d1 d2 H1, Le H H1 → PA [d1, d2] H1 → Rp K H1 v d1 → Rp K H1 w d2 → D1.nx ((σ.set i (some v)).set j (some w)) H1) : tPar i j ta D1 σ H := h H (Le.refl _) _ fun vs ds H1 e p r => by
  have l2 := hl ds H1 p
  cases r with
  | nil => cases l2
  | cons r1 r =>
    cases r with
    | nil => cases l2
    | cons r2 r =>
      cases r with
      | nil => exact ⟨_, _, rfl, k _ _ _ _ H1 e p r1 r2⟩
      | cons _ _ => simp at l2
theorem s_ret (h : EP K te σ H P) (k : ∀ v d H1, Le H H1 → P d H1 → Rp K H1 v d → D1.rt v H1) : tRet te D1 σ H := h H (Le.refl _) _ k
theorem s_retD (h : ED K te σ H d) (k : ∀ v H1, Le H H1 → Rp K H1 v d → D1.rt v H1) : tRet te D1 σ H := h H (Le.refl _) _ fun v d' H1 e p r => by
  have p' : d' = d := p
  subst p'
  exact k v H1 e r
theorem s_drop (h : EP K te σ H P) (k : ∀ H1, Le H H1 → D1.nx σ H1) : tDrop te D1 σ H := h H (Le.refl _) _ fun _ _ H1 e _ _ => k H1 e
theorem s_if {P : Bool → Prop} (h : ET t σ H P) (h1 : P true → ∀ H1, Le H H1 → tu D1 σ H1) (h2 : P false → ∀ H1, Le H H1 → tw D1 σ H1) : tIfS t tu tw D1 σ H := h H (Le.refl _) _ fun b H1 e p => by
  cases b with
  | true =>
    show tu D1 σ H1
    exact h1 p H1 e
  | false =>
    show tw D1 σ H1
    exact h2 p H1 e
theorem s_ifB {b : Bool} (h : EB t σ H b) (h1 : b = true → ∀ H1, Le H H1 → tu D1 σ H1) (h2 : b = false → ∀ H1, Le H H1 → tw D1 σ H1) : tIfS t tu tw D1 σ H :=
  s_if h (fun p => h1 p.symm) fun p => h2 p.symm
theorem s_skip (k : D1.nx σ H) : tNext D1 σ H := k
/-- xs[i] = e on a list of one's own -/
theorem s_set {l : Addr} {vs : List V} {ds : List D} {i : Int} (hl : H l = some (.lst vs)) (nh : NotH vs) (hr : vs.length = ds.length) (h : EP K te σ H P) (ho : ∀ H1, Le H H1 → ED K ta σ H1 (.obj (.ref l))) (hi : ∀ H1, Le H H1 → ED K tb σ H1 (.int i)) (h0 : 0 ≤ i) (hj : i < ds.length)
    (k : ∀ y d H1 H3, Le H H1 → P d H1 → Le H1 H3 → Rp K H3 y d → H3 l = some (.lst vs) → D1.nx σ (upd H3 l (.lst (vs.set i.toNat y)))) : tAsg te (gSub ta tb rSetL) D1 σ H := h H (Le.refl _) _ fun y d H1 e1 p r =>
  ho H1 e1 H1 (Le.refl _) _ fun o d2 H2 e2 p2 r2 => hi H1 e1 H2 e2 _ fun z d3 H3 e3 p3 r3 => by
    have p2' : d2 = .obj (.ref l) := p2
    have p3' : d3 = .int i := p3
    subst p2' p3'
    have l3 := ((e1.trans e2).trans e3).lst hl nh
    refine ⟨l, vs, i, i.toNat, rp_obj r2, rp_int r3, l3, ?_, k y d H1 H3 e1 p (e2.trans e3) (r.le (e2.trans e3)) l3⟩
    unfold ixN
    rw [if_pos h0, if_pos (by rw [hr]; exact hj)]
/-- xs.append(e) on a list of one's own -/
theorem s_app {l : Addr} {vs : List V} (hl : H l = some (.lst vs)) (nh : NotH vs) (ha : ED K ta σ H (.obj (.ref l))) (h : ∀ H1, Le H H1 → EP K te σ H1 P) (hz : vs.length < 100000)
    (k : ∀ y d H1, Le H H1 → P d H1 → Rp K H1 y d → H1 l = some (.lst vs) → D1.nx σ (upd H1 l (.lst (vs ++ [y])))) : tDrop (tBM K "list" rAppend ta (tCons te tNil)) D1 σ H := ha H (Le.refl _) _ fun o d1 H1 e1 p1 r1 => by
  have p1' : d1 = .obj (.ref l) := p1
  subst p1'
  have eo := rp_obj r1
  subst eo
  refine ⟨.inl ⟨rfl, vs, Evl.sq_of (e1.lst hl nh)⟩, h H1 e1 H1 (Le.refl _) _ fun y d H2 e2 p r => ?_⟩
  have l2 := (e1.trans e2).lst hl nh
  exact ⟨l, vs, y, rfl, rfl, l2, Evl.sz_lt hz, k y d H2 (e1.trans e2) p r l2⟩
/-- xs.extend(e), e a list -/
theorem s_ext {l : Addr} {vs : List V} {ds : List D} (hl : H l = some (.lst vs)) (nh : NotH vs) (ha : ED K ta σ H (.obj (.ref l))) (h : ∀ H1, Le H H1 → ED K te σ H1 (.lst ds)) (hz : vs.length + ds.length ≤ 100000)
    (k : ∀ ws H1, Le H H1 → Rps K H1 ws ds → H1 l = some (.lst vs) → D1.nx σ (upd H1 l (.lst (vs ++ ws)))) : tDrop (tBM K "list" rExtend ta (tCons te tNil)) D1 σ H := ha H (Le.refl _) _ fun o d1 H1 e1 p1 r1 => by
  have p1' : d1 = .obj (.ref l) := p1
  subst p1'
  have eo := rp_obj r1
  subst eo
  refine ⟨.inl ⟨rfl, vs, Evl.sq_of (e1.lst hl nh)⟩, h H1 e1 H1 (Le.refl _) _ fun y d H2 e2 p r => ?_⟩
  have p' : d = .lst ds := p
  subst p'
  obtain ⟨b, ws, rfl, hb, _, rr⟩ := rp_lst r
  have l2 := (e1.trans e2).lst hl nh
  exact ⟨l, b, vs, ws, rfl, rfl, l2, hb, by rw [rr.len]; exact Evl.sz_of hz, k ws H2 (e1.trans e2) rr l2⟩
end

/-! ### what stands for tuples, whatever lists do -/
structure LeT (H H' : Hp) : Prop where
  tup : ∀ a xs, H a = some (.tup xs) → H' a = some (.tup xs)
  frz : ∀ a o u, H a = some (.frz o u) → H' a = some (.frz o u)
  ins : ∀ a C dx fs, H a = some (.ins C dx fs) → H' a = some (.ins C dx fs)
theorem LeT.refl (H : Hp) : LeT H H := ⟨fun _ _ h => h, fun _ _ _ h => h, fun _ _ _ _ h => h⟩
theorem LeT.trans {H H1 H2 : Hp} (a : LeT H H1) (b : LeT H1 H2) : LeT H H2 := ⟨fun x xs h => b.tup x xs (a.tup x xs h), fun x o u h => b.frz x o u (a.frz x o u h), fun x C dx fs h => b.ins x C dx fs (a.ins x C dx fs h)⟩
theorem Le.t {H H' : Hp} (e : Le H H') : LeT H H' := ⟨fun _ _ h => e.tup h, fun _ _ _ h => e.frz h, fun _ _ _ _ h => e.ins h⟩
theorem LeT.upd {H : Hp} {l : Addr} {ys : List V} {o : HO} (hl : H l = some (.lst ys)) : LeT H (L2.upd H l o) := by
  refine ⟨fun a xs h => ?_, fun a o u h => ?_, fun a C dx fs h => ?_⟩
  all_goals
    have n : a ≠ l := fun e => by
      rw [e, hl] at h
      cases h
    rw [upd_ne n]
    exact h
theorem LeT.sqt {K : PySem.W.Frag} {H H' : Hp} {a : Addr} {xs : List V} (e : LeT H H') (h : SqT K H a xs) : SqT K H' a xs := by
  rcases h with (h | ⟨o, h⟩) | h
  · exact .inl (.inl (e.tup _ _ h))
  · exact .inl (.inr ⟨o, e.frz _ _ _ h⟩)
  · exact .inr h
section
variable {K : PySem.W.Frag} {H H' : Hp}
mutual
theorem Rp.leT (e : LeT H H') {v : V} {d : D} (n : NoL d) : Rp K H v d → Rp K H' v d
  | .non => .non
  | .bl b => .bl b
  | .int i => .int i
  | .str x => .str x
  | .obj v => .obj v
  | .tup h r => .tup (e.sqt h) (Rps.leT e (by cases n with | tup n => exact n) r)
  | .lst h _ r => nomatch n
theorem Rps.leT (e : LeT H H') {vs : List V} {ds : List D} (n : ∀ d ∈ ds, NoL d) : Rps K H vs ds → Rps K H' vs ds
  | .nil => .nil
  | .cons h r => .cons (Rp.leT e (n _ (List.mem_cons_self ..)) h) (Rps.leT e (fun d hd => n d (List.mem_cons_of_mem _ hd)) r)
end
end

/-! ### loops -/
section
variable {K : PySem.W.Frag} {σ : L2.St} {H H' : Hp} {ta tb tc te : TE} {t u : TT} {d d1 d2 d3 : D} {P P1 P2 P3 : Pd} {D1 : Ends} {tu tw : TS} {g : TG}
abbrev bodyEnds (D1 : Ends) (N : L2.St → Hp → Prop) : Ends := { D1 with nx := N, ct := N, bk := D1.nx }
theorem s_forT {ds : List D} (h : ED K te σ H (.tup ds)) (nl : ∀ d ∈ ds, NoL d)
    (k : ∀ H1, Le H H1 → ∃ Pv : Nat → L2.St → Hp → Prop, Pv 0 σ H1 ∧ (∀ i σ' H', i ≤ ds.length → Pv i σ' H' → LeT H1 H') ∧
      (∀ i d v σ' H', ds[i]? = some d → Rp K H' v d → Pv i σ' H' → g v σ' H' fun σ2 H2 => tu (bodyEnds D1 (Pv (i + 1))) σ2 H2) ∧ ∀ σ' H', Pv ds.length σ' H' → D1.nx σ' H') : tFor (iTup K te) g tu D1 σ H := h H (Le.refl _) _ fun v d0 H1 e p r => by
  have p' : d0 = .tup ds := p
  subst p'
  obtain ⟨a, xs, rfl, s, rr⟩ := rp_tup r
  obtain ⟨Pv, h0, hle, hs, hd⟩ := k H1 e
  refine ⟨a, rfl, ⟨xs, s⟩, for_it (walk_tup (xs := xs)) Pv h0 (fun i σ' H' hi q => (hle i σ' H' (by rw [← rr.len]; exact hi) q).sqt s) ?_ (fun σ' H' q => hd σ' H' (by rw [← rr.len]; exact q))⟩
  rintro i x σ' H' _ hi q ⟨rfl, hx⟩
  obtain ⟨d, h1, h2⟩ := rr.at' hx
  exact hs i d x σ' _ h1 (h2.leT (hle i σ' _ (by rw [← rr.len]; omega) q) (nl d (List.mem_of_getElem? h1))) q
theorem s_forL {ds : List D} (h : ED K te σ H (.lst ds)) (nl : ∀ d ∈ ds, NoL d)
    (k : ∀ a vs H1, Le H H1 → H1 a = some (.lst vs) → Rps K H1 vs ds → ∃ Pv : Nat → L2.St → Hp → Prop, Pv 0 σ H1 ∧ (∀ i σ' H', i ≤ ds.length → Pv i σ' H' → LeT H1 H' ∧ H' a = some (.lst vs)) ∧
      (∀ i d v σ' H', ds[i]? = some d → Rp K H' v d → Pv i σ' H' → g v σ' H' fun σ2 H2 => tu (bodyEnds D1 (Pv (i + 1))) σ2 H2) ∧ ∀ σ' H', Pv ds.length σ' H' → D1.nx σ' H') : tFor (iList K te) g tu D1 σ H := h H (Le.refl _) _ fun v d0 H1 e p r => by
  have p' : d0 = .lst ds := p
  subst p'
  obtain ⟨a, xs, rfl, s, nh, rr⟩ := rp_lst r
  obtain ⟨Pv, h0, hle, hs, hd⟩ := k a xs H1 e s rr
  refine ⟨a, rfl, ⟨xs, SqL.of s⟩, for_it (walk_list (xs := xs)) Pv h0 (fun i σ' H' hi q => SqL.of (hle i σ' H' (by rw [← rr.len]; exact hi) q).2) ?_ (fun σ' H' q => hd σ' H' (by rw [← rr.len]; exact q))⟩
  rintro i x σ' H' _ hi q ⟨rfl, hx⟩
  obtain ⟨d, h1, h2⟩ := rr.at' hx
  exact hs i d x σ' _ h1 (h2.leT (hle i σ' _ (by rw [← rr.len]; omega) q).1 (nl d (List.mem_of_getElem? h1))) q
theorem s_forR1 {ta : TA} {n : Int} (h : EDA K ta σ H [.int n]) (hn : -100000 ≤ n ∧ n ≤ 100000)
    (k : ∀ H1, Le H H1 → ∃ Pv : Nat → L2.St → Hp → Prop, Pv 0 σ H1 ∧
      (∀ (i : Nat) σ' H', (i : Int) < n → Pv i σ' H' → g (.int (i : Int)) σ' H' fun σ2 H2 => tu (bodyEnds D1 (Pv (i + 1))) σ2 H2) ∧ ∀ σ' H', Pv n.toNat σ' H' → D1.nx σ' H') : tFor (iRng1 ta) g tu D1 σ H := h H (Le.refl _) _ fun vs ds H1 e p r => by
  have p' : ds = [.int n] := p
  subst p'
  cases r with
  | cons r1 r =>
    cases r
    have e1 := rp_int r1
    subst e1
    obtain ⟨Pv, h0, hs, hd⟩ := k H1 e
    refine ⟨n, rfl, by omega, by omega, for_it (walk_range (lo := 0) (n := n.toNat)) Pv h0 (fun _ _ _ _ _ => trivial) ?_ hd⟩
    rintro i x σ' H' _ hi q ⟨rfl, rfl⟩
    have e0 : (0 : Int) + (i : Int) = (i : Int) := Int.zero_add _
    dsimp only
    rw [e0]
    exact hs i σ' _ (by omega) q
theorem s_forR2 {ta : TA} {lo n : Int} (h : EDA K ta σ H [.int lo, .int n]) (hl : -100000 ≤ lo ∧ lo ≤ 100000 ∧ -100000 ≤ n ∧ n ≤ 100000)
    (k : ∀ H1, Le H H1 → ∃ Pv : Nat → L2.St → Hp → Prop, Pv 0 σ H1 ∧
      (∀ (i : Nat) σ' H', lo + (i : Int) < n → Pv i σ' H' → g (.int (lo + (i : Int))) σ' H' fun σ2 H2 => tu (bodyEnds D1 (Pv (i + 1))) σ2 H2) ∧ ∀ σ' H', Pv (n - lo).toNat σ' H' → D1.nx σ' H') : tFor (iRng2 ta) g tu D1 σ H := h H (Le.refl _) _ fun vs ds H1 e p r => by
  have p' : ds = [.int lo, .int n] := p
  subst p'
  cases r with
  | cons r1 r =>
    cases r with
    | cons r2 r =>
      cases r
      have e1 := rp_int r1
      subst e1
      have e2 := rp_int r2
      subst e2
      obtain ⟨Pv, h0, hs, hd⟩ := k H1 e
      refine ⟨lo, n, rfl, by omega, for_it (walk_range (lo := lo) (n := (n - lo).toNat)) Pv h0 (fun _ _ _ _ _ => trivial) ?_ hd⟩
      rintro i x σ' H' _ hi q ⟨rfl, rfl⟩
      exact hs i σ' _ (by omega) q
/-- for i, g in enumerate(a tuple) -/
theorem s_forE {ta : TA} {j : Nat} {ds : List D} (h : EDA K ta σ H [.tup ds]) (nl : ∀ d ∈ ds, NoL d)
    (k : ∀ H1, Le H H1 → ∃ Pv : Nat → L2.St → Hp → Prop, Pv 0 σ H1 ∧ (∀ i σ' H', i ≤ ds.length → Pv i σ' H' → LeT H1 H') ∧
      (∀ (i : Nat) d v σ' H' H2, ds[i]? = some d → Pv i σ' H' → Le H' H2 → Rp K H2 v d → g v (σ'.set j (some (.int (i : Int)))) H2 fun σ2 H3 => gNil [] σ2 H3 fun σ4 H4 => tu (bodyEnds D1 (Pv (i + 1))) σ4 H4) ∧ ∀ σ' H', Pv ds.length σ' H' → D1.nx σ' H') :
    tFor (iEnumT K ta) (gTup K 2 (gCons (gName j) (gCons g gNil))) tu D1 σ H := h H (Le.refl _) _ fun vs es H1 e p r => by
  have p' : es = [.tup ds] := p
  subst p'
  cases r with
  | cons r1 r =>
    cases r
    obtain ⟨a, xs, rfl, s, rr⟩ := rp_tup r1
    obtain ⟨Pv, h0, hle, hs, hd⟩ := k H1 e
    refine ⟨a, xs, rfl, s, for_it (walk_enT (xs := xs)) Pv h0 (fun i σ' H' hi q => (hle i σ' H' (by rw [← rr.len]; exact hi) q).sqt s) ?_ (fun σ' H' q => hd σ' H' (by rw [← rr.len]; exact q))⟩
    rintro i x σ' H' H2 hi q ⟨T, x1, x2, rfl, nT, rfl, f1, f2⟩
    have ex : x1 = .int (i : Nat) := (Option.some.inj f1).symm
    subst ex
    obtain ⟨d, h1, h2⟩ := rr.at' f2
    have e2 : Le H' (upd H' T (.tup [.int (i : Nat), x2])) := Le.new nT
    have r2 := (h2.leT (hle i σ' _ (by rw [← rr.len]; omega) q) (nl d (List.mem_of_getElem? h1))).le e2
    exact ⟨T, _, rfl, Evl.st_of upd_same, rfl, _, _, rfl, _, _, rfl, hs i d x2 σ' _ _ h1 q e2 r2⟩
end

/-! ### comprehensions -/
section
variable {K : PySem.W.Frag} {σ : L2.St} {H H' : Hp} {ta tb tc te : TE} {tt : TT} {d d1 d2 d3 : D} {P P1 P2 P3 : Pd} {g : TG} {vs : List Nat}
/-- what a comprehension's list holds behind i turns: I i acc -/
def CI (K : PySem.W.Frag) (H : Hp) (L : Addr) (I : Nat → List D → Prop) (i : Nat) (H' : Hp) : Prop := H L = none ∧ Le H H' ∧ ∃ ws acc, H' L = some (.lst ws) ∧ Rps K H' ws acc ∧ I i acc
structure Good (I : Nat → List D → Prop) : Prop where
  uni : ∀ i acc, I i acc → Uni acc
  noL : ∀ i acc, I i acc → ∀ d ∈ acc, NoL d
  len : ∀ i acc, I i acc → acc.length ≤ 50000
theorem ci_turn {I : Nat → List D → Prop} (G : Good I) {L : Addr} {i : Nat} {σ2 : L2.St} {PT : Bool → Prop} (q : CI K H L I i H') (ht : ∀ acc, I i acc → ET tt σ2 H PT)
    (he : ∀ acc, I i acc → PT true → EP K te σ2 H (fun d _ => I (i + 1) (acc ++ [d]) ∧ NoL d)) (hf : ∀ acc, I i acc → PT false → I (i + 1) acc) :
    tt σ2 H' fun b H3 => if b = true then te σ2 H3 fun y H4 => ∃ ac, H4 L = some (.lst ac) ∧ ac.length < sizeLine ∧ CI K H L I (i + 1) (upd H4 L (.lst (ac ++ [y]))) else CI K H L I (i + 1) H3 := by
  obtain ⟨q1, q2, ws, acc, q3, q4, q5⟩ := q
  have nh : NotH ws := (G.uni i acc q5).notH q4
  refine ht acc q5 H' q2 _ fun b H3 e3 p3 => ?_
  cases b with
  | true =>
    show te σ2 H3 _
    refine he acc q5 p3 H3 (q2.trans e3) _ fun y d H4 e4 p4 r4 => ?_
    have l4 := (e3.trans e4).lst q3 nh
    refine ⟨ws, l4, Evl.sz_lt (by rw [q4.len]; have := G.len i acc q5; omega), q1, ((q2.trans e3).trans e4).mut q1, ws ++ [y], acc ++ [d], upd_same, ?_, p4.1⟩
    exact ((q4.le (e3.trans e4)).upd l4 (G.noL i acc q5)).app (.cons (r4.upd l4 p4.2) .nil)
  | false =>
    show CI K H L I (i + 1) H3
    exact ⟨q1, q2.trans e3, ws, acc, e3.lst q3 nh, q4.le e3, hf acc q5 p3⟩
theorem ci_start {I : Nat → List D → Prop} {L : Addr} (h : H L = none) (h0 : I 0 []) : CI K H L I 0 (upd H L (.lst [])) := ⟨h, Le.new h, [], [], upd_same, .nil, h0⟩
theorem ci_end {I : Nat → List D → Prop} (G : Good I) {L : Addr} {n : Nat} {Q : VK} (q : CI K H L I n H') (k : ∀ v d H2, Le H H2 → (∃ acc, d = .lst acc ∧ I n acc) → Rp K H2 v d → Q v H2) : Q (.ref L) H' := by
  obtain ⟨q1, q2, ws, acc, q3, q4, q5⟩ := q
  exact k _ (.lst acc) H' q2 ⟨acc, rfl, q5⟩ (.lst q3 ((G.uni n acc q5).notH q4) q4)
/-- over a tuple; the target is a name -/
theorem ep_lcT {ds : List D} {j : Nat} {I : Nat → List D → Prop} {PT : Nat → D → Bool → Prop} (G : Good I) (h : ED K ta σ H (.tup ds)) (hw : ∀ x, wipe ((wipe σ vs).set j (some x)) vs = wipe σ vs) (h0 : I 0 [])
    (ht : ∀ (i : Nat) d v acc H1, Le H H1 → ds[i]? = some d → Rp K H1 v d → I i acc → ET tt ((wipe σ vs).set j (some v)) H1 (PT i d))
    (he : ∀ (i : Nat) d v acc H1, Le H H1 → ds[i]? = some d → Rp K H1 v d → I i acc → PT i d true → EP K te ((wipe σ vs).set j (some v)) H1 (fun d' _ => I (i + 1) (acc ++ [d']) ∧ NoL d'))
    (hf : ∀ (i : Nat) d acc, ds[i]? = some d → I i acc → PT i d false → I (i + 1) acc) : EP K (tLc (iTup K ta) (gName j) tt te vs) σ H (fun d _ => ∃ acc, d = .lst acc ∧ I ds.length acc) := fun H1 e Q q => h H1 e _ fun v d0 H2 e2 p r => by
  have p' : d0 = .tup ds := p
  subst p'
  obtain ⟨a, xs, rfl, s, rr⟩ := rp_tup r
  refine ⟨a, rfl, ⟨xs, s⟩, fun L hL => lc_it (walk_tup (xs := xs)) (CI K H2 L I) (ci_start hL h0) (fun i H' _ c => c.2.1.sqt s) ?_ (fun H' c => ?_)⟩
  · rintro i x H' _ hi c ⟨rfl, hx⟩
    obtain ⟨d, h1, h2⟩ := rr.at' hx
    exact ⟨hw x, ci_turn G c (fun acc ia => ht i d x acc H2 (e.trans e2) h1 h2 ia) (fun acc ia pt => he i d x acc H2 (e.trans e2) h1 h2 ia pt) (fun acc ia pt => hf i d acc h1 ia pt)⟩
  · rw [rr.len] at c
    exact ci_end G c fun v d H3 e3 p r => q v d H3 (e2.trans e3) p r
/-- over a list; the target is a name -/
theorem ep_lcL {ds : List D} {j : Nat} {I : Nat → List D → Prop} {PT : Nat → D → Bool → Prop} (G : Good I) (h : ED K ta σ H (.lst ds)) (hw : ∀ x, wipe ((wipe σ vs).set j (some x)) vs = wipe σ vs) (h0 : I 0 [])
    (ht : ∀ (i : Nat) d v acc H1, Le H H1 → ds[i]? = some d → Rp K H1 v d → I i acc → ET tt ((wipe σ vs).set j (some v)) H1 (PT i d))
    (he : ∀ (i : Nat) d v acc H1, Le H H1 → ds[i]? = some d → Rp K H1 v d → I i acc → PT i d true → EP K te ((wipe σ vs).set j (some v)) H1 (fun d' _ => I (i + 1) (acc ++ [d']) ∧ NoL d'))
    (hf : ∀ (i : Nat) d acc, ds[i]? = some d → I i acc → PT i d false → I (i + 1) acc) : EP K (tLc (iList K ta) (gName j) tt te vs) σ H (fun d _ => ∃ acc, d = .lst acc ∧ I ds.length acc) := fun H1 e Q q => h H1 e _ fun v d0 H2 e2 p r => by
  have p' : d0 = .lst ds := p
  subst p'
  obtain ⟨a, xs, rfl, s, nh, rr⟩ := rp_lst r
  refine ⟨a, rfl, ⟨xs, SqL.of s⟩, fun L hL => lc_it (walk_list (xs := xs)) (CI K H2 L I) (ci_start hL h0) (fun i H' _ c => SqL.of (c.2.1.lst s nh)) ?_ (fun H' c => ?_)⟩
  · rintro i x H' _ hi c ⟨rfl, hx⟩
    obtain ⟨d, h1, h2⟩ := rr.at' hx
    exact ⟨hw x, ci_turn G c (fun acc ia => ht i d x acc H2 (e.trans e2) h1 h2 ia) (fun acc ia pt => he i d x acc H2 (e.trans e2) h1 h2 ia pt) (fun acc ia pt => hf i d acc h1 ia pt)⟩
  · rw [rr.len] at c
    exact ci_end G c fun v d H3 e3 p r => q v d H3 (e2.trans e3) p r
/-- over range(n) -/
theorem ep_lcR1 {ra : TA} {n : Int} {j : Nat} {I : Nat → List D → Prop} {PT : Nat → Bool → Prop} (G : Good I) (h : EDA K ra σ H [.int n]) (hn : 0 ≤ n ∧ n ≤ 50000) (hw : ∀ x, wipe ((wipe σ vs).set j (some x)) vs = wipe σ vs) (h0 : I 0 [])
    (ht : ∀ (i : Nat) acc H1, Le H H1 → (i : Int) < n → I i acc → ET tt ((wipe σ vs).set j (some (.int (i : Int)))) H1 (PT i))
    (he : ∀ (i : Nat) acc H1, Le H H1 → (i : Int) < n → I i acc → PT i true → EP K te ((wipe σ vs).set j (some (.int (i : Int)))) H1 (fun d' _ => I (i + 1) (acc ++ [d']) ∧ NoL d'))
    (hf : ∀ (i : Nat) acc, (i : Int) < n → I i acc → PT i false → I (i + 1) acc) : EP K (tLc (iRng1 ra) (gName j) tt te vs) σ H (fun d _ => ∃ acc, d = .lst acc ∧ I n.toNat acc) := fun H1 e Q q => h H1 e _ fun ws ds H2 e2 p r => by
  have p' : ds = [.int n] := p
  subst p'
  cases r with
  | cons r1 r =>
    cases r
    have e1 := rp_int r1
    subst e1
    refine ⟨n, rfl, by omega, by omega, fun L hL => lc_it (walk_range (lo := 0) (n := n.toNat)) (CI K H2 L I) (ci_start hL h0) (fun _ _ _ _ => trivial) ?_ (fun H' c => ?_)⟩
    · rintro i x H' _ hi c ⟨rfl, rfl⟩
      have e0 : (0 : Int) + (i : Int) = (i : Int) := Int.zero_add _
      dsimp only
      rw [e0]
      exact ⟨hw _, ci_turn G c (fun acc ia => ht i acc H2 (e.trans e2) (by omega) ia) (fun acc ia pt => he i acc H2 (e.trans e2) (by omega) ia pt) (fun acc ia pt => hf i acc (by omega) ia pt)⟩
    · exact ci_end G c fun v d H3 e3 p r => q v d H3 (e2.trans e3) p r
end
end W1

set_option maxRecDepth 100000
set_option maxHeartbeats 4000000
/-! built-ins in data -/
namespace W1
open PySem L2
def cutG {α : Type} (xs : List α) (lo hi : Option Int) : List α := (xs.drop (HT.sIx xs.length 0 lo)).take (HT.sIx xs.length xs.length hi - HT.sIx xs.length 0 lo)
theorem cutG_hi {α : Type} (xs : List α) (n : Int) (h : 0 ≤ n) : cutG xs none (some n) = xs.take n.toNat := by
  unfold cutG
  have e : n = ((n.toNat : Nat) : Int) := by omega
  rw [e, HT.sIx_nat, HT.sIx_none, List.drop_zero, Nat.sub_zero, Int.toNat_natCast]
  rw [List.take_eq_take_iff]
  omega
theorem cutG_lo {α : Type} (xs : List α) (n : Int) (h : 0 ≤ n) : cutG xs (some n) none = xs.drop n.toNat := by
  unfold cutG
  have e : n = ((n.toNat : Nat) : Int) := by omega
  rw [e, HT.sIx_nat, HT.sIx_none, Int.toNat_natCast]
  by_cases hl : n.toNat ≤ xs.length
  · rw [Nat.min_eq_left hl]
    exact List.take_of_length_le (by rw [List.length_drop]; exact Nat.le_refl _)
  · rw [Nat.min_eq_right (by omega), List.drop_of_length_le (Nat.le_refl _), List.drop_of_length_le (by omega), List.take_nil]
theorem cutG_two {α : Type} (xs : List α) (a b : Int) (h : 0 ≤ a) (h2 : 0 ≤ b) : cutG xs (some a) (some b) = (xs.drop a.toNat).take (b.toNat - a.toNat) := by
  unfold cutG
  have e : a = ((a.toNat : Nat) : Int) := by omega
  have e2 : b = ((b.toNat : Nat) : Int) := by omega
  rw [e, e2, HT.sIx_nat, HT.sIx_nat, Int.toNat_natCast, Int.toNat_natCast]
  by_cases hl : a.toNat ≤ xs.length
  · rw [Nat.min_eq_left hl, List.take_eq_take_iff, List.length_drop]
    omega
  · rw [Nat.min_eq_right (show xs.length ≤ a.toNat by omega), List.drop_of_length_le (Nat.le_refl _), List.drop_of_length_le (by omega), List.take_nil, List.take_nil]
theorem rps_cut {K : PySem.W.Frag} {H : Hp} {vs : List V} {ds : List D} (lo hi : Option Int) (r : Rps K H vs ds) : Rps K H (cutV vs lo hi) (cutG ds lo hi) := by
  unfold cutV cutG
  rw [r.len]
  exact (r.drop _).take _
theorem cutG_all {α : Type} (xs : List α) (lo hi : Option Int) (h : HT.sIx xs.length 0 lo = 0 ∧ HT.sIx xs.length xs.length hi = xs.length) : cutG xs lo hi = xs := by
  unfold cutG
  rw [h.1, h.2, List.drop_zero, Nat.sub_zero, List.take_length]

/-! ### a tuple times a number from 1 on -/
section
open PySem.Spec PyProof.Rows
theorem mul1_tup (l : Addr) (items : Array Value) (n : Nat) (dd : Option Addr) (sl : Array (Option Value)) (u : Tok) :
    Meets (Builtin.«tuple.__mul__» ⟨[.ref l, .int 1 u], []⟩) (fun _ R s => s.heap.get? l = some { cls := .type "tuple", dict := dd, data := .seq items n, slots := sl } ∧ R (.ok (.ret (Value.ref l))) s) := by
  refine .of_wp fun prog w A R s h => ?_
  obtain ⟨hp, g, d, tk, os⟩ := s
  obtain ⟨hl, h⟩ := h
  have f1 := AutoSeq1.idx_int
  have c1 : (items.isEmpty || (1 : Int) == 1) = true := by simp
  wp_walk using wpAny_loadPart' hl
  repeat (first
    | (refine wpAny_ite_false (decide_eq_false (by decide)) ?_; wp_walk using wpAny_loadPart' hl)
    | (refine wpAny_ite_true (decide_eq_true c1) ?_; wp_walk using wpAny_loadPart' hl))
  all_goals exact ⟨_, rfl, h⟩
def rRep1 (K : PySem.W.Frag) : R2 := fun x y H Q => ∃ l k xs, x = .ref l ∧ y = .int k ∧ SqT K H l xs ∧ xs ≠ [] ∧ 1 ≤ k ∧ k ≤ 1000 ∧ xs.length ≤ 1000 ∧ (k = 1 → Q (.ref l) H) ∧ (2 ≤ k → ∀ p, H p = none → Q (.ref p) (upd H p (.tup (List.replicate k.toNat xs).flatten)))
theorem op_rep1 {X : Cx} : OpR X (binaryOp .Mult) (rRep1 X.K) := by
  intro pins s σ H x y v u Q I rx ry h
  obtain ⟨l, k, xs, rfl, rfl, hT, hne, h1, h2, hz, q1, q2⟩ := h
  by_cases hk : 2 ≤ k
  · exact op_repT pins s σ H _ _ v u Q I rx ry ⟨l, k, xs, rfl, rfl, hT, hne, hk, h2, hz, q2 hk⟩
  · have e : k = 1 := by omega
    subst e
    cases rx
    obtain ⟨t, rfl⟩ := ry
    obtain ⟨its, r, ⟨⟨cls, dd, data, sl⟩, ho, hc, n, hd⟩, hs⟩ := I.tuple hT
    replace hc : cls = .type "tuple" := hc
    replace hd : data = .seq its.toArray n := hd
    subst hc hd
    refine wpAny_binaryOp_repeat_ref (T := "tuple") (U := "int") (by decide) ⟨_, ho, rfl⟩ (fun s' => typeIs_int s' 1 t) noFill_tuple_mul F.fills_int_mul F.slot_int_rmul repeat_tuple F.slot_int_index.lookup
      (call_meets F.slot_int_rmul (typeIs_int s 1 t) F.entry_int_rmul (F.args_int_rmul_2 _ _) (int_rmul_tuple 1 t l its.toArray n dd sl)
        ⟨ho, rfl, ⟨_, ho, rfl⟩, call_meets F.slot_tuple_mul ⟨_, ho, rfl⟩ F.entry_tuple_mul (F.args_tuple_mul_2 _ _) (mul1_tup l its.toArray n dd sl t) ⟨ho, ?_⟩⟩)
    exact ⟨.ref l, H, I, rfl, q1 rfl⟩
end
section
variable {K : PySem.W.Frag} {σ : L2.St} {H H' : Hp} {ta tb tc te : TE} {d d1 d2 d3 : D} {P : Pd}
theorem ed_rep1 {ds : List D} {k : Int} (ha : ED K ta σ H (.tup ds)) (hb : ED K tb σ H (.int k)) (hne : ds ≠ []) (h1 : 1 ≤ k ∧ k ≤ 1000) (hz : ds.length ≤ 1000) : ED K (tOp (rRep1 K) ta tb) σ H (.tup (List.replicate k.toNat ds).flatten) :=
  ed_op ha hb fun x y H2 _ r1 r2 Q q => by
    obtain ⟨a, xs, rfl, s, rr⟩ := rp_tup r1
    refine ⟨a, k, xs, rfl, rp_int r2, s, ?_, h1.1, h1.2, by rw [rr.len]; exact hz, fun e => ?_, fun _ p np => ?_⟩
    · intro e
      subst e
      cases rr
      exact hne rfl
    · subst e
      refine q _ _ H2 (Le.refl _) ?_ r1
      show D.tup ds = D.tup (List.replicate 1 ds).flatten
      simp
    · exact q _ _ _ (Le.new np) rfl (.tup (Evl.st_of upd_same) ((rr.le (Le.new np)).flat _))
theorem ed_rep {ds : List D} {k : Int} (ha : ED K ta σ H (.lst ds)) (hb : ED K tb σ H (.int k)) (h1 : 0 ≤ k ∧ k ≤ 1000) (hz : ds.length ≤ 1000) (hu : Uni (List.replicate k.toNat ds).flatten) : ED K (tOp rRep ta tb) σ H (.lst (List.replicate k.toNat ds).flatten) :=
  ed_op ha hb fun x y H2 _ r1 r2 Q q => by
    obtain ⟨a, xs, rfl, s, nh, rr⟩ := rp_lst r1
    have hm : xs.length * k.toNat ≤ 1000 * 1000 := Nat.mul_le_mul (by rw [rr.len]; exact hz) (by omega)
    refine ⟨a, k, xs, rfl, rp_int r2, s, by omega, by omega, Nat.le_trans hm (by decide), fun p np => ?_⟩
    have rf := (rr.le (Le.new (o := .lst (List.replicate k.toNat xs).flatten) np)).flat k.toNat
    exact q _ _ _ (Le.new np) rfl (.lst upd_same (hu.notH rf) rf)
/-- lists put one behind another -/
theorem ed_cat {ds es : List D} (ha : ED K ta σ H (.lst ds)) (hb : ED K tb σ H (.lst es)) (hz : ds.length + es.length ≤ 100000) (hu : Uni (ds ++ es)) : ED K (tOp rCat ta tb) σ H (.lst (ds ++ es)) :=
  ed_op ha hb fun x y H2 _ r1 r2 Q q => by
    obtain ⟨a, xs, rfl, s, nh, rr⟩ := rp_lst r1
    obtain ⟨b, ys, rfl, s2, nh2, rr2⟩ := rp_lst r2
    refine ⟨a, b, xs, ys, rfl, rfl, s, s2, by rw [rr.len, rr2.len]; exact Evl.sz_of hz, fun p np => ?_⟩
    have rf := (rr.app rr2).le (Le.new (o := .lst (xs ++ ys)) np)
    exact q _ _ _ (Le.new np) rfl (.lst upd_same (hu.notH rf) rf)
/-- tuples put one behind another -/
theorem ed_catA {ds es : List D} (ha : ED K ta σ H (.tup ds)) (hb : ED K tb σ H (.tup es)) (hz : ds.length + es.length ≤ 100000) : ED K (tOp (rCatA K) ta tb) σ H (.tup (ds ++ es)) :=
  ed_op ha hb fun x y H2 _ r1 r2 Q q => by
    obtain ⟨a, xs, rfl, s, rr⟩ := rp_tup r1
    obtain ⟨b, ys, rfl, s2, rr2⟩ := rp_tup r2
    refine ⟨a, b, xs, ys, rfl, rfl, s, s2, by rw [rr.len, rr2.len]; exact Evl.sz_of hz, fun e => ?_, fun _ e => ?_, fun _ _ p np => ?_⟩
    · subst e
      cases rr
      exact q _ _ H2 (Le.refl _) rfl r2
    · subst e
      cases rr2
      exact q _ _ H2 (Le.refl _) (by rw [List.append_nil]) r1
    · exact q _ _ _ (Le.new np) rfl (.tup (Evl.st_of upd_same) ((rr.app rr2).le (Le.new np)))
theorem eo_none : EO tNoPart σ H none := fun H1 _ Q q => q H1 (Le.refl _)
theorem eo_some {i : Int} (h : ED K te σ H (.int i)) : EO (tPart te) σ H (some i) := fun H1 e Q q => h H1 e _ fun v d H2 e2 p r => by
  have p' : d = .int i := p
  subst p'
  exact ⟨i, rp_int r, q H2 e2⟩
theorem ed_slT {tl th : TO} {ds : List D} {lo hi : Option Int} (h : ED K ta σ H (.tup ds)) (h1 : EO tl σ H lo) (h2 : EO th σ H hi) : ED K (tSl (rSlA K) ta tl th) σ H (.tup (cutG ds lo hi)) := fun H1 e Q q =>
  h H1 e _ fun v d H2 e2 p r => h1 H2 (e.trans e2) _ fun H3 e3 => h2 H3 ((e.trans e2).trans e3) _ fun H4 e4 => by
    have p' : d = .tup ds := p
    subst p'
    obtain ⟨a, xs, rfl, s, rr⟩ := rp_tup (r.le (e3.trans e4))
    refine ⟨a, xs, rfl, s, fun w => ?_, fun _ p np => ?_⟩
    · rw [rr.len] at w
      exact q _ _ H4 ((e2.trans e3).trans e4) (by rw [cutG_all ds lo hi w]) (.tup s rr)
    · exact q _ _ _ (((e2.trans e3).trans e4).trans (Le.new np)) rfl (.tup (Evl.st_of upd_same) ((rps_cut lo hi rr).le (Le.new np)))
theorem ed_slL {tl th : TO} {ds : List D} {lo hi : Option Int} (h : ED K ta σ H (.lst ds)) (h1 : EO tl σ H lo) (h2 : EO th σ H hi) (hu : Uni (cutG ds lo hi)) : ED K (tSl (rSlL K) ta tl th) σ H (.lst (cutG ds lo hi)) := fun H1 e Q q =>
  h H1 e _ fun v d H2 e2 p r => h1 H2 (e.trans e2) _ fun H3 e3 => h2 H3 ((e.trans e2).trans e3) _ fun H4 e4 => by
    have p' : d = .lst ds := p
    subst p'
    obtain ⟨a, xs, rfl, s, nh, rr⟩ := rp_lst (r.le (e3.trans e4))
    refine ⟨a, xs, rfl, SqL.of s, fun p np => ?_⟩
    have rf := (rps_cut lo hi rr).le (Le.new (o := .lst (cutV xs lo hi)) np)
    exact q _ _ _ (((e2.trans e3).trans e4).trans (Le.new np)) rfl (.lst upd_same (hu.notH rf) rf)
theorem ed_revL {ds : List D} (h : ED K ta σ H (.lst ds)) (hu : Uni ds.reverse) : ED K (tRevL K ta) σ H (.lst ds.reverse) := fun H1 e Q q =>
  h H1 e _ fun v d H2 e2 p r => by
    have p' : d = .lst ds := p
    subst p'
    obtain ⟨a, xs, rfl, s, nh, rr⟩ := rp_lst r
    refine ⟨a, xs, rfl, SqL.of s, fun p np => ?_⟩
    have rv : ∀ {vs : List V} {es : List D}, Rps K H2 vs es → Rps K H2 vs.reverse es.reverse := by
      intro vs
      induction vs with
      | nil =>
        intro es h
        cases h
        exact .nil
      | cons a l ih =>
        intro es h
        cases h with
        | cons h1 h2 =>
          rw [List.reverse_cons, List.reverse_cons]
          exact (ih h2).app (.cons h1 .nil)
    have rf := (rv rr).le (Le.new (o := .lst xs.reverse) np)
    exact q _ _ _ (e2.trans (Le.new np)) rfl (.lst upd_same (hu.notH rf) rf)
/-! calls of built-ins -/
theorem ed_cb {r : List V → Hp → VK → Prop} {A : TA} {ds : List D} (h : EDA K A σ H ds) (hr : ∀ vs H2, Le H H2 → Rps K H2 vs ds → ∀ Q : VK, (∀ v d H3, Le H2 H3 → P d H3 → Rp K H3 v d → Q v H3) → r vs H2 Q) : EP K (tCB r A) σ H P := fun H1 e Q q =>
  h H1 e _ fun vs es H2 e2 p rr => by
    have p' : es = ds := p
    subst p'
    exact hr vs H2 (e.trans e2) rr Q fun v d H3 e3 p3 r3 => q v d H3 (e2.trans e3) p3 r3
theorem rps1 {vs : List V} (r : Rps K H vs [d]) : ∃ v, vs = [v] ∧ Rp K H v d := by
  cases r with
  | cons h r =>
    cases r
    exact ⟨_, rfl, h⟩
theorem rps2 {vs : List V} (r : Rps K H vs [d1, d2]) : ∃ v w, vs = [v, w] ∧ Rp K H v d1 ∧ Rp K H w d2 := by
  cases r with
  | cons h r =>
    obtain ⟨w, rfl, h2⟩ := rps1 r
    exact ⟨_, w, rfl, h, h2⟩
theorem rps3 {vs : List V} (r : Rps K H vs [d1, d2, d3]) : ∃ v w u, vs = [v, w, u] ∧ Rp K H v d1 ∧ Rp K H w d2 ∧ Rp K H u d3 := by
  cases r with
  | cons h r =>
    obtain ⟨w, u, rfl, h2, h3⟩ := rps2 r
    exact ⟨_, w, u, rfl, h, h2, h3⟩
abbrev rAbs : List V → Hp → VK → Prop := fun xs H Q => ∃ i, xs = [.int i] ∧ Q (.int (if i < 0 then -i else i)) H
theorem ed_abs {i : Int} (h : ED K ta σ H (.int i)) : ED K (tCB rAbs (tCons ta tNil)) σ H (.int (if i < 0 then -i else i)) := ed_cb (ea_cons h ea_nil) fun vs H2 _ r Q q => by
  obtain ⟨v, rfl, h⟩ := rps1 r
  exact ⟨i, by rw [rp_int h], q _ _ H2 (Le.refl _) rfl (.int _)⟩
abbrev rInt1 : List V → Hp → VK → Prop := fun xs H Q => (∃ i, xs = [.int i] ∧ Q (.int i) H) ∨ ∃ k, xs = [.bl k] ∧ Q (.int (if k then 1 else 0)) H
theorem ed_int1 {i : Int} (h : ED K ta σ H (.int i)) : ED K (tCB rInt1 (tCons ta tNil)) σ H (.int i) := ed_cb (ea_cons h ea_nil) fun vs H2 _ r Q q => by
  obtain ⟨v, rfl, h⟩ := rps1 r
  exact .inl ⟨i, by rw [rp_int h], q _ _ H2 (Le.refl _) rfl (.int _)⟩
abbrev rMax2 : List V → Hp → VK → Prop := fun xs H Q => ∃ i j, xs = [.int i, .int j] ∧ Q (.int (if j > i then j else i)) H
abbrev rMin2 : List V → Hp → VK → Prop := fun xs H Q => ∃ i j, xs = [.int i, .int j] ∧ Q (.int (if j < i then j else i)) H
theorem ed_max2 {i j : Int} (h : ED K ta σ H (.int i)) (h2 : ED K tb σ H (.int j)) : ED K (tCB rMax2 (tCons ta (tCons tb tNil))) σ H (.int (if j > i then j else i)) := ed_cb (ea_cons h (ea_cons h2 ea_nil)) fun vs H2 _ r Q q => by
  obtain ⟨v, w, rfl, h, h2⟩ := rps2 r
  exact ⟨i, j, by rw [rp_int h, rp_int h2], q _ _ H2 (Le.refl _) rfl (.int _)⟩
theorem ed_min2 {i j : Int} (h : ED K ta σ H (.int i)) (h2 : ED K tb σ H (.int j)) : ED K (tCB rMin2 (tCons ta (tCons tb tNil))) σ H (.int (if j < i then j else i)) := ed_cb (ea_cons h (ea_cons h2 ea_nil)) fun vs H2 _ r Q q => by
  obtain ⟨v, w, rfl, h, h2⟩ := rps2 r
  exact ⟨i, j, by rw [rp_int h, rp_int h2], q _ _ H2 (Le.refl _) rfl (.int _)⟩
abbrev rTupOf (K : PySem.W.Frag) : List V → Hp → VK → Prop := fun xs H Q => ∃ p ys, xs = [.ref p] ∧ ((SqL K H p ys ∧ ∀ l, H l = none → Q (.ref l) (upd H l (.tup ys))) ∨ (SqT K H p ys ∧ Q (.ref p) H))
theorem ep_tupOf {PL : List D → Prop} (h : EP K ta σ H fun d _ => ∃ ds, d = .lst ds ∧ PL ds) : EP K (tCB (rTupOf K) (tCons ta tNil)) σ H (fun d _ => ∃ ds, d = .tup ds ∧ PL ds) := fun H1 e Q q => h H1 e _ fun v d H2 e2 p r => by
  obtain ⟨ds, rfl, pl⟩ := p
  obtain ⟨a, xs, rfl, s, nh, rr⟩ := rp_lst r
  exact ⟨a, xs, rfl, .inl ⟨SqL.of s, fun l hl => q _ _ _ (e2.trans (Le.new hl)) ⟨ds, rfl, pl⟩ (.tup (Evl.st_of upd_same) (rr.le (Le.new hl)))⟩⟩
theorem ed_tupOf {ds : List D} (h : ED K ta σ H (.lst ds)) : ED K (tCB (rTupOf K) (tCons ta tNil)) σ H (.tup ds) :=
  (ep_tupOf (PL := fun x => x = ds) (h.weak fun d _ _ p => ⟨ds, p, rfl⟩)).weak fun d _ _ p => by
    obtain ⟨ds', rfl, rfl⟩ := p
    rfl
abbrev rLstOf (K : PySem.W.Frag) : List V → Hp → VK → Prop := fun xs H Q => ∃ p ys, xs = [.ref p] ∧ (SqL K H p ys ∨ SqT K H p ys) ∧ ∀ l, H l = none → Q (.ref l) (upd H l (.lst ys))
theorem ed_lstOfT {ds : List D} (h : ED K ta σ H (.tup ds)) (hu : Uni ds) : ED K (tCB (rLstOf K) (tCons ta tNil)) σ H (.lst ds) := ed_cb (ea_cons h ea_nil) fun vs H2 _ r Q q => by
  obtain ⟨v, rfl, h⟩ := rps1 r
  obtain ⟨a, xs, rfl, s, rr⟩ := rp_tup h
  refine ⟨a, xs, rfl, .inr s, fun l hl => ?_⟩
  have rf := rr.le (Le.new (o := .lst xs) hl)
  exact q _ _ _ (Le.new hl) rfl (.lst upd_same (hu.notH rf) rf)
theorem ed_lstOfL {ds : List D} (h : ED K ta σ H (.lst ds)) : ED K (tCB (rLstOf K) (tCons ta tNil)) σ H (.lst ds) := ed_cb (ea_cons h ea_nil) fun vs H2 _ r Q q => by
  obtain ⟨v, rfl, h⟩ := rps1 r
  obtain ⟨a, xs, rfl, s, nh, rr⟩ := rp_lst h
  exact ⟨a, xs, rfl, .inl (SqL.of s), fun l hl => q _ _ _ (Le.new hl) rfl (.lst upd_same nh (rr.le (Le.new hl)))⟩
theorem ep_sortedI {PN : List Int → Prop} (h : EP K ta σ H fun d _ => ∃ ns : List Int, d = .lst (ns.map .int) ∧ PN ns) :
    EP K (tCB (rSortedI K) (tCons ta tNil)) σ H (fun d _ => ∃ ns ns' : List Int, d = .lst (ns'.map .int) ∧ PN ns ∧ ns'.Perm ns ∧ ns'.Pairwise (· ≤ ·)) := fun H1 e Q q => h H1 e _ fun v d H2 e2 p r => by
  obtain ⟨ns, rfl, pn⟩ := p
  obtain ⟨a, xs, rfl, s, nh, rr⟩ := rp_lst r
  have ex := ints_rps rr
  subst ex
  exact ⟨a, ns, rfl, SqL.of s, fun ns' p hp hs hn => q _ _ _ (e2.trans (Le.new hn)) ⟨ns, ns', rfl, pn, hp, hs⟩ (.lst upd_same (notH_ints _) (rps_ints _))⟩
/-- sorted(set(e)), e a list of ints -/
theorem ep_sortedSet {w : World} {ns : List Int} (hz : ns.length < 64) (h : ED K ta σ H (.lst (ns.map .int))) :
    EP K (tCB (rSortedSet w) (tCons (tCB (rSetOfL K w) (tCons ta tNil)) tNil)) σ H (fun d _ => ∃ ns' : List Int, d = .lst (ns'.map .int) ∧ ns'.Pairwise (· < ·) ∧ ∀ k, k ∈ ns' ↔ k ∈ ns) := fun H1 e Q q => h H1 e _ fun v d H2 e2 p r => by
  have p' : d = .lst (ns.map .int) := p
  subst p'
  obtain ⟨a, xs, rfl, s, nh, rr⟩ := rp_lst r
  have ex := ints_rps rr
  subst ex
  refine ⟨a, ns, rfl, SqL.of s, by omega, fun p n hp hn => ⟨p, _, n, rfl, upd_same, by omega, fun ns' l hs hm _ hl => ?_⟩⟩
  refine q _ _ _ ((e2.trans (Le.new hp)).trans (Le.new hl)) ⟨ns', rfl, hs, fun k => ?_⟩ (.lst upd_same (notH_ints _) (rps_ints _))
  rw [hm k]
  exact decide_eq_true_iff
theorem inV_ints (x : Int) : ∀ ns : List Int, inV (.int x) (ns.map V.int) = decide (x ∈ ns)
  | [] => rfl
  | n :: ns => by
    have ih := inV_ints x ns
    unfold inV at ih ⊢
    rw [List.map_cons, List.any_cons, ih]
    by_cases e : n = x
    · subst e
      have e1 : eqV (.int n) (.int n) = true := by simp [eqV]
      rw [e1]
      simp
    · have e1 : eqV (.int n) (.int x) = false := by simp [eqV, e]
      rw [e1, Bool.false_or]
      have : (x ∈ n :: ns) ↔ x ∈ ns := by simp [Ne.symm e]
      simp [this]
theorem flat_ints (ns : List Int) : (ns.map V.int).all flatV = true := by
  rw [List.all_eq_true]
  intro v hv
  obtain ⟨i, _, rfl⟩ := List.mem_map.mp hv
  rfl
theorem ed_inT {x : Int} {ns : List Int} (h : ED K ta σ H (.int x)) (h2 : ED K tb σ H (.tup (ns.map .int))) : ED K (tOp (rIn K false) ta tb) σ H (.bl (decide (x ∈ ns))) := ed_op h h2 fun v w H2 _ r1 r2 Q q => by
  obtain ⟨a, xs, rfl, s, rr⟩ := rp_tup r2
  have ex := ints_rps rr
  subst ex
  rw [rp_int r1]
  refine ⟨a, _, rfl, .inr s, rfl, flat_ints ns, ?_⟩
  rw [inV_ints]
  exact q _ _ H2 (Le.refl _) rfl (.bl _)
theorem ed_ninT {x : Int} {ns : List Int} (h : ED K ta σ H (.int x)) (h2 : ED K tb σ H (.tup (ns.map .int))) : ED K (tOp (rIn K true) ta tb) σ H (.bl (!decide (x ∈ ns))) := ed_op h h2 fun v w H2 _ r1 r2 Q q => by
  obtain ⟨a, xs, rfl, s, rr⟩ := rp_tup r2
  have ex := ints_rps rr
  subst ex
  rw [rp_int r1]
  refine ⟨a, _, rfl, .inr s, rfl, flat_ints ns, ?_⟩
  rw [inV_ints]
  exact q _ _ H2 (Le.refl _) rfl (.bl _)
theorem ed_all {bs : List Bool} (h : ED K ta σ H (.lst (bs.map .bl))) : ED K (tCB (rAll K) (tCons ta tNil)) σ H (.bl (bs.all id)) := ed_cb (ea_cons h ea_nil) fun vs H2 _ r Q q => by
  obtain ⟨v, rfl, h⟩ := rps1 r
  obtain ⟨a, xs, rfl, s, nh, rr⟩ := rp_lst h
  have ex := bls_rps rr
  subst ex
  exact ⟨a, bs, rfl, SqL.of s, q _ _ H2 (Le.refl _) rfl (.bl _)⟩
/-! isinstance -/
def tyD : D → String
  | .non => "NoneType"
  | .bl _ => "bool"
  | .int _ => "int"
  | .str _ => "str"
  | .tup _ => "tuple"
  | .lst _ => "list"
  | .obj _ => "object"
theorem tyx_of {v : V} (hno : ∀ u, d ≠ .obj u) (r : Rp K H v d) : TyX K H v (.type (tyD d)) := by
  cases r with
  | non => exact .base .non
  | bl b => exact .base (.bl b)
  | int i => exact .base (.int i)
  | str x => exact .base (.str x)
  | obj v => exact absurd rfl (hno v)
  | lst h _ _ => exact .base (.lst h)
  | tup h _ =>
    rcases h with (h | ⟨o, h⟩) | h
    · exact .base (.tup h)
    · exact .fTuple h
    · obtain ⟨o, its, n, hk, hc, _⟩ := h
      exact .kTuple hk hc
theorem ed_isi {T : String} {b : Bool} (h : ED K ta σ H d) (ho : ∀ u, d ≠ .obj u) (hb : kitB (tyD d) T = some b) : ED K (tCB (rIsi K) (tCons ta (tCons (tC (.ty T)) tNil))) σ H (.bl b) := ed_cb (ea_cons h (ea_cons ed_obj ea_nil)) fun vs H2 _ r Q q => by
  obtain ⟨v, w, rfl, h1, h2⟩ := rps2 r
  have ew := rp_obj h2
  subst ew
  exact ⟨v, .ty T, .type (tyD d), .type T, b, rfl, .ty T, tyx_of ho h1, kit_ty hb, q _ _ H2 (Le.refl _) rfl (.bl _)⟩
end
end W1

set_option maxRecDepth 100000
set_option maxHeartbeats 4000000
/-! defs of a text, and the law's hand -/
namespace W1
open PySem PyProof.Rows L2
/-- a def of the text stands under its name -/
def GDef (K : PySem.W.Frag) (mg : Str → Option Value) (x : Str) (st : Stmt) (ps : List Str) : Prop := ∃ f fd, mg x = some (.ref f) ∧ Fun K x x st f fd ∧ Binds K fd ps []
/-- and keeps a promise -/
def Def (P : Program) (w : World) (K : PySem.W.Frag) (mg : Str → Option Value) (base : Heap) (k : Nat) (x : Str) (ps : List Str) (sp : Sp) : Prop :=
  ∃ f fd, mg x = some (.ref f) ∧ PySem.W.keepIn K (.ref f) = true ∧ Binds K fd ps [] ∧ FnOk P w K mg base CX0 k f fd ps sp
section
variable {P : Program} {w : World} {K : PySem.W.Frag} {mg : Str → Option Value} {base : Heap}
theorem defS {x : Str} {st : Stmt} {N ps : List Str} {k : Nat} {sp : Sp} (g : GDef K mg x st ps) (S : FnScope N ps (defScope st)) (hl : ∀ vs H Q E, sp vs H Q E → vs.length = ps.length)
    (body : ∀ (cdv : Value) (A : Around) (outer : List Env) (s : Shared) (f : Addr) (H : Hp) (vs : List V) (Q : VK) (E : XK), Room k (A.deeper (envOfC x (defScope st) s.heap.objs.size f cdv)) → sp vs H Q E →
      ∃ t, PSs (cxOf CX0 P w K mg base N x (defScope st) f cdv A outer s H E).nox (defBody st) t ∧ t { nx := fun _ H' => Q .non H', rt := Q } (start N vs) H) : Def P w K mg base (k + 1) x ps sp := by
  obtain ⟨f, fd, hm, F, hb⟩ := g
  exact ⟨f, fd, hm, F.kp, hb, F.ok S hl fun cdv A outer s H vs Q E hr h => body cdv A outer s f H vs Q E hr h⟩
theorem defD {x : Str} {st : Stmt} {N ps : List Str} {k : Nat} {R : List D → Hp → Pd → Prop} (g : GDef K mg x st ps) (S : FnScope N ps (defScope st)) (hl : ∀ ds H Pd, R ds H Pd → ds.length = ps.length)
    (body : ∀ (cdv : Value) (A : Around) (outer : List Env) (s : Shared) (f : Addr) (H : Hp) (vs : List V) (ds : List D) (Pd : Pd) (Q : VK) (E : XK), Room k (A.deeper (envOfC x (defScope st) s.heap.objs.size f cdv)) → Rps K H vs ds → R ds H Pd →
      (∀ v d H2, Le H H2 → Pd d H2 → Rp K H2 v d → Q v H2) →
      ∃ t, PSs (cxOf CX0 P w K mg base N x (defScope st) f cdv A outer s H E).nox (defBody st) t ∧ t { nx := fun _ H' => Q .non H', rt := Q } (start N vs) H) : Def P w K mg base (k + 1) x ps (spD K R) := by
  refine defS g S (fun vs H Q E h => ?_) fun cdv A outer s f H vs Q E hr h => ?_
  · obtain ⟨ds, Pd, r, h, _⟩ := h
    rw [r.len]
    exact hl ds H Pd h
  · obtain ⟨ds, Pd, r, h, q⟩ := h
    exact body cdv A outer s f H vs ds Pd Q E hr r h q
end
section
variable {X : Cx} {k j : Nat} {x : Str} {ps : List Str} {sp : Sp} {p pos : Pos} {e : Expr} {es : List Expr} {t : TA}
theorem pe_def (G : Def X.prog X.w X.K X.mg X.base k x ps sp) (hr : Room k X.A) (ha : PA X (e :: es) t) (hg : Gl X x := by rfl)
    (hdb : (x == ("__debug__" : Str)) = false := by decide) (he : starEach (e :: es) X.env = (false, eval e X.env) :: starEach es X.env := by rfl) (hpl : (backTo pos (starEach es X.env)).any (·.1) = false := by rfl) :
    PE X (.Call (.Name x p) (e :: es) [] pos) (tCall sp [] E0 t) := by
  obtain ⟨f, fd, hm, hk, hb, F⟩ := G
  exact pe_call F hr hg hm hk hb .nil pass0 ha hdb he hpl
end
/-! ### the hand: the law's cells and counters -/
structure HandAt (H : Hp) (h c : Addr) (cells : List Int) (p x s n : Int) : Prop where
  hand : H h = some (.lst [.ref c, .int p, .int x, .int s, .int n])
  cell : H c = some (.lst (cells.map V.int))
  p0 : 0 ≤ p
  x0 : 0 ≤ x
  pos : ∀ z ∈ cells, 0 ≤ z
def Hand (H : Hp) (h : Addr) : Prop := ∃ c cells p x s n, HandAt H h c cells p x s n
theorem HandAt.ne {H : Hp} {h c : Addr} {cells : List Int} {p x s n : Int} (a : HandAt H h c cells p x s n) : c ≠ h := fun e => by
  have h1 := a.hand
  rw [← e, a.cell] at h1
  have h2 := HO.lst.inj (Option.some.inj h1)
  cases cells with
  | nil => cases h2
  | cons z zs =>
    injection h2 with h3 _
    cases h3
theorem Hand.le {H H' : Hp} {h : Addr} (e : Le H H') (a : Hand H h) : Hand H' h := by
  obtain ⟨c, cells, p, x, s, n, a⟩ := a
  have c1 := e.lst a.cell (notH_ints cells)
  rcases e h _ a.hand with h1 | ⟨c2, p2, x2, s2, n2, p3, x3, s3, n3, e2, h1, u, v⟩
  · exact ⟨c, cells, p, x, s, n, h1, c1, a.p0, a.x0, a.pos⟩
  · have e3 := HO.lst.inj e2
    injection e3 with e4 e5
    injection e4 with e4
    subst e4
    exact ⟨c, cells, p3, x3, s3, n3, h1, c1, u, v, a.pos⟩
/-- the hand is changed: what else stands stands -/
theorem HandAt.put {H : Hp} {h c : Addr} {cells : List Int} {p x s n p2 x2 s2 n2 : Int} (a : HandAt H h c cells p x s n) (hp : 0 ≤ p2) (hx : 0 ≤ x2) :
    HandAt (upd H h (.lst [.ref c, .int p2, .int x2, .int s2, .int n2])) h c cells p2 x2 s2 n2 ∧ Le H (upd H h (.lst [.ref c, .int p2, .int x2, .int s2, .int n2])) := by
  refine ⟨⟨upd_same, by rw [upd_ne a.ne]; exact a.cell, hp, hx, a.pos⟩, fun b o e => ?_⟩
  by_cases hb : b = h
  · subst hb
    rw [a.hand] at e
    have e2 := Option.some.inj e
    exact .inr ⟨c, p, x, s, n, p2, x2, s2, n2, e2.symm, upd_same, hp, hx⟩
  · rw [upd_ne hb]
    exact .inl e
end W1

set_option maxRecDepth 100000
set_option maxHeartbeats 4000000
/-! comprehensions of typed data -/
namespace W1
open PySem PyProof.Rows L2
structure Enc {α : Type} (enc : α → D) : Prop where
  uni : (∀ a, ∃ i, enc a = .int i) ∨ ∀ a, (∀ i, enc a ≠ .int i) ∧ ∀ v, enc a ≠ .obj v
  noL : ∀ a, NoL (enc a)
theorem Enc.un {α : Type} {enc : α → D} (E : Enc enc) (zs : List α) : Uni (zs.map enc) := by
  rcases E.uni with u | u
  · refine .inl fun d hd => ?_
    obtain ⟨a, _, rfl⟩ := List.mem_map.mp hd
    exact u a
  · refine .inr fun d hd => ?_
    obtain ⟨a, _, rfl⟩ := List.mem_map.mp hd
    exact u a
theorem Enc.nl {α : Type} {enc : α → D} (E : Enc enc) (zs : List α) : ∀ d ∈ zs.map enc, NoL d := fun d hd => by
  obtain ⟨a, _, rfl⟩ := List.mem_map.mp hd
  exact E.noL a
theorem enc_int : Enc D.int := ⟨.inl fun a => ⟨a, rfl⟩, fun a => .int a⟩
theorem enc_bl : Enc D.bl := ⟨.inr fun a => ⟨fun _ => (fun e => nomatch e), fun _ => (fun e => nomatch e)⟩, fun a => .bl a⟩
theorem enc_tup {α : Type} {f : α → List D} (h : ∀ a, ∀ d ∈ f a, NoL d) : Enc fun a => D.tup (f a) := ⟨.inr fun a => ⟨fun _ => (fun e => nomatch e), fun _ => (fun e => nomatch e)⟩, fun a => .tup (h a)⟩
def eP (p : Int × Int) : D := .tup [.int p.1, .int p.2]
theorem enc_P : Enc eP := enc_tup fun a d hd => by
  rcases List.mem_cons.mp hd with rfl | hd
  · exact .int _
  · rcases List.mem_cons.mp hd with rfl | hd
    · exact .int _
    · cases hd
def GI {α : Type} (enc : α → D) (J : Nat → List α → Prop) : Nat → List D → Prop := fun i acc => ∃ zs : List α, acc = zs.map enc ∧ zs.length ≤ 50000 ∧ J i zs
theorem good {α : Type} {enc : α → D} (E : Enc enc) (J : Nat → List α → Prop) : Good (GI enc J) := by
  refine ⟨?_, ?_, ?_⟩
  · rintro i acc ⟨zs, rfl, _, _⟩
    exact E.un zs
  · rintro i acc ⟨zs, rfl, _, _⟩
    exact E.nl zs
  · rintro i acc ⟨zs, rfl, h, _⟩
    rw [List.length_map]
    exact h
theorem GI.more {α : Type} {enc : α → D} {J : Nat → List α → Prop} {i : Nat} {zs : List α} {a : α} (hz : (zs ++ [a]).length ≤ 50000) (j : J (i + 1) (zs ++ [a])) : GI enc J (i + 1) (zs.map enc ++ [enc a]) := ⟨zs ++ [a], by simp, hz, j⟩
section
variable {K : PySem.W.Frag} {σ : L2.St} {H H' : Hp} {ta tb tc te : TE} {tt : TT} {ra : TA} {d : D} {vs : List Nat} {α β : Type} {enc : α → D} {encS : β → D}
theorem map_at {xs : List β} {i : Nat} (h : (xs.map encS)[i]? = some d) : ∃ b, xs[i]? = some b ∧ d = encS b := by
  rw [List.getElem?_map] at h
  cases e : xs[i]? with
  | none =>
    rw [e] at h
    cases h
  | some b =>
    rw [e] at h
    exact ⟨b, rfl, (Option.some.inj h).symm⟩
theorem fm_yes {xs : List β} {i : Nat} {b : β} {f : β → Bool} {g : β → α} (h : xs[i]? = some b) (hf : f b = true) : ((xs.take (i + 1)).filter f).map g = ((xs.take i).filter f).map g ++ [g b] := by
  rw [List.take_add_one, h]
  simp [hf]
theorem fm_no {xs : List β} {i : Nat} {b : β} {f : β → Bool} {g : β → α} (h : xs[i]? = some b) (hf : f b = false) : ((xs.take (i + 1)).filter f).map g = ((xs.take i).filter f).map g := by
  rw [List.take_add_one, h]
  simp [hf]
theorem fm_len (xs : List β) (f : β → Bool) (g : β → α) : ((xs.filter f).map g).length ≤ xs.length := by
  rw [List.length_map]
  exact List.length_filter_le f xs
theorem et_yes : EB tYes σ H true := fun H1 _ Q q => q true H1 (Le.refl _) rfl
/-- [g b for b in xs if f b], xs a tuple -/
theorem ed_lcT (E : Enc enc) (xs : List β) (f : β → Bool) (g : β → α) {j : Nat} (h : ED K ta σ H (.tup (xs.map encS))) (hz : xs.length ≤ 50000) (hw : ∀ x, wipe ((wipe σ vs).set j (some x)) vs = wipe σ vs)
    (ht : ∀ b v H1, Le H H1 → b ∈ xs → Rp K H1 v (encS b) → EB tt ((wipe σ vs).set j (some v)) H1 (f b))
    (he : ∀ b v H1, Le H H1 → b ∈ xs → Rp K H1 v (encS b) → f b = true → ED K te ((wipe σ vs).set j (some v)) H1 (enc (g b))) : ED K (tLc (iTup K ta) (gName j) tt te vs) σ H (.lst (((xs.filter f).map g).map enc)) := by
  refine EP.weak (ep_lcT (I := GI enc fun i zs => zs = ((xs.take i).filter f).map g) (PT := fun i d b => ∃ y, xs[i]? = some y ∧ b = f y) (good E _) h hw ⟨[], rfl, Nat.zero_le _, by simp⟩ ?_ ?_ ?_) ?_
  · intro i d v acc H1 e hd r _
    obtain ⟨b, hb, rfl⟩ := map_at hd
    exact et_weak (ht b v H1 e (List.mem_of_getElem? hb) r) fun x p => ⟨b, hb, p⟩
  · rintro i d v acc H1 e hd r ⟨zs, rfl, hl, rfl⟩ ⟨b, hb, hf⟩
    obtain ⟨b2, hb2, rfl⟩ := map_at hd
    cases hb.symm.trans hb2
    refine (he b v H1 e (List.mem_of_getElem? hb) r hf.symm).weak fun d' H2 _ p => ?_
    have p' : d' = enc (g b) := p
    subst p'
    refine ⟨GI.more ?_ (fm_yes hb hf.symm).symm, E.noL _⟩
    rw [← fm_yes hb hf.symm]
    exact Nat.le_trans (fm_len _ f g) (Nat.le_trans (List.length_take_le _ _) (by
      have := (List.getElem?_eq_some_iff.mp hb).1
      omega))
  · rintro i d acc hd ⟨zs, rfl, hl, rfl⟩ ⟨b, hb, hf⟩
    exact ⟨_, rfl, hl, (fm_no hb hf.symm).symm⟩
  · rintro d H2 _ ⟨acc, rfl, zs, rfl, _, rfl⟩
    rw [List.length_map, List.take_length]
theorem ed_lcL (E : Enc enc) (xs : List β) (f : β → Bool) (g : β → α) {j : Nat} (h : ED K ta σ H (.lst (xs.map encS))) (hz : xs.length ≤ 50000) (hw : ∀ x, wipe ((wipe σ vs).set j (some x)) vs = wipe σ vs)
    (ht : ∀ b v H1, Le H H1 → b ∈ xs → Rp K H1 v (encS b) → EB tt ((wipe σ vs).set j (some v)) H1 (f b))
    (he : ∀ b v H1, Le H H1 → b ∈ xs → Rp K H1 v (encS b) → f b = true → ED K te ((wipe σ vs).set j (some v)) H1 (enc (g b))) : ED K (tLc (iList K ta) (gName j) tt te vs) σ H (.lst (((xs.filter f).map g).map enc)) := by
  refine EP.weak (ep_lcL (I := GI enc fun i zs => zs = ((xs.take i).filter f).map g) (PT := fun i d b => ∃ y, xs[i]? = some y ∧ b = f y) (good E _) h hw ⟨[], rfl, Nat.zero_le _, by simp⟩ ?_ ?_ ?_) ?_
  · intro i d v acc H1 e hd r _
    obtain ⟨b, hb, rfl⟩ := map_at hd
    exact et_weak (ht b v H1 e (List.mem_of_getElem? hb) r) fun x p => ⟨b, hb, p⟩
  · rintro i d v acc H1 e hd r ⟨zs, rfl, hl, rfl⟩ ⟨b, hb, hf⟩
    obtain ⟨b2, hb2, rfl⟩ := map_at hd
    cases hb.symm.trans hb2
    refine (he b v H1 e (List.mem_of_getElem? hb) r hf.symm).weak fun d' H2 _ p => ?_
    have p' : d' = enc (g b) := p
    subst p'
    refine ⟨GI.more ?_ (fm_yes hb hf.symm).symm, E.noL _⟩
    rw [← fm_yes hb hf.symm]
    exact Nat.le_trans (fm_len _ f g) (Nat.le_trans (List.length_take_le _ _) (by
      have := (List.getElem?_eq_some_iff.mp hb).1
      omega))
  · rintro i d acc hd ⟨zs, rfl, hl, rfl⟩ ⟨b, hb, hf⟩
    exact ⟨_, rfl, hl, (fm_no hb hf.symm).symm⟩
  · rintro d H2 _ ⟨acc, rfl, zs, rfl, _, rfl⟩
    rw [List.length_map, List.take_length]
/-- .. over range(n) -/
theorem ed_lcR (E : Enc enc) {n : Nat} (f : Nat → Bool) (g : Nat → α) {j : Nat} (h : EDA K ra σ H [.int (n : Int)]) (hz : n ≤ 50000) (hw : ∀ x, wipe ((wipe σ vs).set j (some x)) vs = wipe σ vs)
    (ht : ∀ (i : Nat) H1, Le H H1 → i < n → EB tt ((wipe σ vs).set j (some (.int (i : Int)))) H1 (f i))
    (he : ∀ (i : Nat) H1, Le H H1 → i < n → f i = true → ED K te ((wipe σ vs).set j (some (.int (i : Int)))) H1 (enc (g i))) : ED K (tLc (iRng1 ra) (gName j) tt te vs) σ H (.lst ((((List.range n).filter f).map g).map enc)) := by
  refine EP.weak (ep_lcR1 (I := GI enc fun i zs => zs = ((List.range i).filter f).map g) (PT := fun i b => b = f i) (good E _) h (by omega) hw ⟨[], rfl, Nat.zero_le _, by simp⟩ ?_ ?_ ?_) ?_
  · intro i acc H1 e hi _
    exact ht i H1 e (by omega)
  · rintro i acc H1 e hi ⟨zs, rfl, hl, rfl⟩ hf
    refine (he i H1 e (by omega) hf.symm).weak fun d' H2 _ p => ?_
    have p' : d' = enc (g i) := p
    subst p'
    have ey : ((List.range (i + 1)).filter f).map g = ((List.range i).filter f).map g ++ [g i] := by
      rw [List.range_succ]
      simp [← hf]
    refine ⟨GI.more ?_ ey.symm, E.noL _⟩
    rw [← ey]
    refine Nat.le_trans (fm_len _ f g) ?_
    rw [List.length_range]
    omega
  · rintro i acc hi ⟨zs, rfl, hl, rfl⟩ hf
    refine ⟨_, rfl, hl, ?_⟩
    show _ = ((List.range (i + 1)).filter f).map g
    rw [List.range_succ]
    simp [← hf]
  · rintro d H2 _ ⟨acc, rfl, zs, rfl, _, rfl⟩
    rw [Int.toNat_natCast]
/-- a list of n things of which each has been drawn: all have Z -/
theorem ep_lcR (E : Enc enc) {n : Nat} (Z : α → Prop) {j : Nat} (h : EDA K ra σ H [.int (n : Int)]) (hz : n ≤ 50000) (hw : ∀ x, wipe ((wipe σ vs).set j (some x)) vs = wipe σ vs)
    (he : ∀ (i : Nat) H1, Le H H1 → i < n → EP K te ((wipe σ vs).set j (some (.int (i : Int)))) H1 (fun d _ => ∃ a, d = enc a ∧ Z a)) :
    EP K (tLc (iRng1 ra) (gName j) tYes te vs) σ H (fun d _ => ∃ zs : List α, d = .lst (zs.map enc) ∧ zs.length = n ∧ ∀ a ∈ zs, Z a) := by
  refine EP.weak (ep_lcR1 (I := GI enc fun i zs => zs.length = i ∧ ∀ a ∈ zs, Z a) (PT := fun i b => b = true) (good E _) h (by omega) hw ⟨[], rfl, Nat.zero_le _, rfl, by simp⟩ ?_ ?_ ?_) ?_
  · intro i acc H1 e hi _
    exact et_yes
  · rintro i acc H1 e hi ⟨zs, rfl, hl, rfl, hZ⟩ _
    refine (he _ H1 e (by omega)).weak fun d' H2 _ p => ?_
    obtain ⟨a, rfl, za⟩ := p
    refine ⟨GI.more (by simp; omega) ⟨by simp, fun x hx => ?_⟩, E.noL _⟩
    rcases List.mem_append.mp hx with hx | hx
    · exact hZ x hx
    · rw [List.mem_singleton.mp hx]
      exact za
  · rintro i acc hi _ hf
    cases hf
  · rintro d H2 _ ⟨acc, rfl, zs, rfl, _, hl, hZ⟩
    exact ⟨zs, rfl, by rw [hl, Int.toNat_natCast], hZ⟩
/-- xs a list, each item kept or not as it is drawn: some of xs, in order -/
theorem ep_lcSub (E : Enc enc) (xs : List α) (Z : α → Prop) {j : Nat} (h : ED K ta σ H (.lst (xs.map enc))) (hz : xs.length ≤ 50000) (hw : ∀ x, wipe ((wipe σ vs).set j (some x)) vs = wipe σ vs)
    (ht : ∀ b v H1, Le H H1 → b ∈ xs → Rp K H1 v (enc b) → ET tt ((wipe σ vs).set j (some v)) H1 (fun x => x = true → Z b))
    (he : ∀ b v H1, Le H H1 → b ∈ xs → Rp K H1 v (enc b) → ED K te ((wipe σ vs).set j (some v)) H1 (enc b)) : EP K (tLc (iList K ta) (gName j) tt te vs) σ H (fun d _ => ∃ zs : List α, d = .lst (zs.map enc) ∧ zs.Sublist xs) := by
  refine EP.weak (ep_lcL (I := GI enc fun i zs => zs.Sublist (xs.take i)) (PT := fun i d b => True) (good E _) h hw ⟨[], rfl, Nat.zero_le _, by simp⟩ ?_ ?_ ?_) ?_
  · intro i d v acc H1 e hd r _
    obtain ⟨b, hb, rfl⟩ := map_at hd
    exact et_weak (ht b v H1 e (List.mem_of_getElem? hb) r) fun x p => trivial
  · rintro i d v acc H1 e hd r ⟨zs, rfl, hl, hs⟩ _
    obtain ⟨b, hb, rfl⟩ := map_at hd
    refine (he b v H1 e (List.mem_of_getElem? hb) r).weak fun d' H2 _ p => ?_
    have p' : d' = enc b := p
    subst p'
    have ht : xs.take (i + 1) = xs.take i ++ [b] := by
      rw [List.take_add_one, hb]
      rfl
    have hs2 : (zs ++ [b]).Sublist (xs.take (i + 1)) := by
      rw [ht]
      exact hs.append (List.Sublist.refl _)
    exact ⟨GI.more (Nat.le_trans hs2.length_le (Nat.le_trans (List.length_take_le' _ _) hz)) hs2, E.noL _⟩
  · rintro i d acc hd ⟨zs, rfl, hl, hs⟩ _
    exact ⟨zs, rfl, hl, hs.trans (List.take_sublist_take_left (Nat.le_succ i))⟩
  · rintro d H2 _ ⟨acc, rfl, zs, rfl, _, hs⟩
    rw [List.length_map, List.take_length] at hs
    exact ⟨zs, rfl, hs⟩
/-- [g (lo + i)] over range(lo, hi) -/
theorem ed_lcR2 (E : Enc enc) {lo hi : Int} (g : Int → α) {j : Nat} (h : EDA K ra σ H [.int lo, .int hi]) (hz : -50000 ≤ lo ∧ lo ≤ 50000 ∧ -50000 ≤ hi ∧ hi ≤ 50000 ∧ hi - lo ≤ 50000) (hw : ∀ x, wipe ((wipe σ vs).set j (some x)) vs = wipe σ vs)
    (he : ∀ (i : Nat) H1, Le H H1 → lo + (i : Int) < hi → ED K te ((wipe σ vs).set j (some (.int (lo + (i : Int))))) H1 (enc (g (lo + (i : Int))))) : ED K (tLc (iRng2 ra) (gName j) tYes te vs) σ H (.lst (((List.range (hi - lo).toNat).map fun i : Nat => g (lo + (i : Int))).map enc)) := fun H1 e Q q => h H1 e _ fun ws ds H2 e2 p r => by
  have p' : ds = [.int lo, .int hi] := p
  subst p'
  obtain ⟨v, w, rfl, r1, r2⟩ := rps2 r
  have e3 := rp_int r1
  have e4 := rp_int r2
  subst e3 e4
  have G := good (enc := enc) E fun i zs => zs = (List.range i).map fun i : Nat => g (lo + (i : Int))
  refine ⟨lo, hi, rfl, by omega, fun L hL => lc_it (walk_range (lo := lo) (n := (hi - lo).toNat)) (CI K H2 L (GI enc fun i zs => zs = (List.range i).map fun i : Nat => g (lo + (i : Int)))) (ci_start (I := GI enc fun i zs => zs = (List.range i).map fun i : Nat => g (lo + (i : Int))) hL ⟨[], rfl, Nat.zero_le _, by simp⟩) (fun _ _ _ _ => trivial) ?_ (fun H' c => ?_)⟩
  · rintro i x H' _ hi2 c ⟨rfl, rfl⟩
    refine ⟨hw _, ci_turn G c (fun acc ia => et_yes) ?_ (fun acc ia pt => nomatch pt)⟩
    rintro acc ⟨zs, rfl, hl, rfl⟩ _
    refine (he i H2 (e.trans e2) (by omega)).weak fun d' H3 _ p => ?_
    have p' : d' = enc (g (lo + (i : Int))) := p
    subst p'
    refine ⟨GI.more ?_ ?_, E.noL _⟩
    · rw [List.length_append, List.length_map, List.length_range, List.length_singleton]
      omega
    · show _ = (List.range (i + 1)).map fun i : Nat => g (lo + (i : Int))
      rw [List.range_succ, List.map_append]
      rfl
  · exact ci_end G c fun v d H3 e3 p r => q v d H3 (e2.trans e3) (by
      obtain ⟨acc, rfl, zs, rfl, _, rfl⟩ := p
      rfl) r
/-- [g p for a, b in pairs if f p] -/
theorem ed_lcT2 (E : Enc enc) (xs : List (Int × Int)) (f : Int × Int → Bool) (g : Int × Int → α) {j l : Nat} (h : ED K ta σ H (.tup (xs.map eP))) (hz : xs.length ≤ 50000) (hw : ∀ x y, wipe (((wipe σ vs).set j (some x)).set l (some y)) vs = wipe σ vs)
    (ht : ∀ p H1, Le H H1 → p ∈ xs → EB tt (((wipe σ vs).set j (some (.int p.1))).set l (some (.int p.2))) H1 (f p))
    (he : ∀ p H1, Le H H1 → p ∈ xs → f p = true → ED K te (((wipe σ vs).set j (some (.int p.1))).set l (some (.int p.2))) H1 (enc (g p))) :
    ED K (tLc (iTup K ta) (gTup K 2 (gCons (gName j) (gCons (gName l) gNil))) tt te vs) σ H (.lst (((xs.filter f).map g).map enc)) := fun H1 e Q q => h H1 e _ fun v d0 H2 e2 p r => by
  have p' : d0 = .tup (xs.map eP) := p
  subst p'
  obtain ⟨a, us, rfl, s, rr⟩ := rp_tup r
  have G := good (enc := enc) E fun i zs => zs = ((xs.take i).filter f).map g
  refine ⟨a, rfl, ⟨us, s⟩, fun L hL => lc_it (walk_tup (xs := us)) (CI K H2 L (GI enc fun i zs => zs = ((xs.take i).filter f).map g)) (ci_start (I := GI enc fun i zs => zs = ((xs.take i).filter f).map g) hL ⟨[], rfl, Nat.zero_le _, by simp⟩) (fun i H' _ c => c.2.1.sqt s) ?_ (fun H' c => ?_)⟩
  · rintro i x H' _ hi c ⟨rfl, hx⟩
    obtain ⟨d, h1, h2⟩ := rr.at' hx
    obtain ⟨b, hb, rfl⟩ := map_at h1
    obtain ⟨t, ys, rfl, st, r3⟩ := rp_tup (h2.le c.2.1)
    obtain ⟨v1, v2, rfl, q1, q2⟩ := rps2 r3
    have e3 := rp_int q1
    have e4 := rp_int q2
    subst e3 e4
    have hm := List.mem_of_getElem? hb
    refine ⟨t, _, rfl, st, rfl, _, _, rfl, _, _, rfl, rfl, hw _ _, ci_turn G c (PT := fun x => x = f b) (fun acc ia => ht b H2 (e.trans e2) hm) ?_ ?_⟩
    · rintro acc ⟨zs, rfl, hl, rfl⟩ hf
      refine (he b H2 (e.trans e2) hm hf.symm).weak fun d' H3 _ p => ?_
      have p' : d' = enc (g b) := p
      subst p'
      refine ⟨GI.more ?_ (fm_yes hb hf.symm).symm, E.noL _⟩
      rw [← fm_yes hb hf.symm]
      exact Nat.le_trans (fm_len _ f g) (Nat.le_trans (List.length_take_le _ _) (by
        have := (List.getElem?_eq_some_iff.mp hb).1
        omega))
    · rintro acc ⟨zs, rfl, hl, rfl⟩ hf
      exact ⟨_, rfl, hl, (fm_no hb hf.symm).symm⟩
  · rw [rr.len, List.length_map] at c
    exact ci_end G c fun v d H3 e3 p r => q v d H3 (e2.trans e3) (by
      obtain ⟨acc, rfl, zs, rfl, _, rfl⟩ := p
      show D.lst _ = D.lst _
      rw [List.take_length]) r
end
end W1

set_option maxRecDepth 100000
set_option maxHeartbeats 4000000
/-! the same, something behind -/
namespace W1
open PySem PyProof.Rows L2
section
variable {K : PySem.W.Frag} {σ : L2.St} {H H' : Hp} {ta tb tc te : TE} {t u : TT} {x y z v : V} {d d1 d2 d3 : D} {P P1 P2 P3 : Pd} {D1 : Ends} {tu tw tz : TS} {g : TG}
theorem q_asg {i : Nat} (h : EP K te σ H P) (k : ∀ v d H1, Le H H1 → P d H1 → Rp K H1 v d → tz D1 (σ.set i (some v)) H1) : tSeq (tAsg te (gName i)) tz D1 σ H := s_asg (D1 := { D1 with nx := tz D1 }) h k
theorem q_asgD {i : Nat} (h : ED K te σ H d) (k : ∀ v H1, Le H H1 → Rp K H1 v d → tz D1 (σ.set i (some v)) H1) : tSeq (tAsg te (gName i)) tz D1 σ H := s_asgD (D1 := { D1 with nx := tz D1 }) h k
theorem q_tup2 {i j : Nat} (h : ED K te σ H (.tup [d1, d2])) (k : ∀ v w H1, Le H H1 → Rp K H1 v d1 → Rp K H1 w d2 → tz D1 ((σ.set i (some v)).set j (some w)) H1) : tSeq (tAsg te (gTup K 2 (gCons (gName i) (gCons (gName j) gNil)))) tz D1 σ H := s_tup2 (D1 := { D1 with nx := tz D1 }) h k
theorem q_tup3 {i j l : Nat} {PA : List D → Hp → Prop} {ta : TA} (h : EA K ta σ H PA) (hl : ∀ ds H1, PA ds H1 → ds.length = 3)
    (k : ∀ v w u d1 d2 d3 H1, Le H H1 → PA [d1, d2, d3] H1 → Rp K H1 v d1 → Rp K H1 w d2 → Rp K H1 u d3 → ∀ H2, Le H1 H2 → tz D1 (((σ.set i (some v)).set j (some w)).set l (some u)) H2) : tSeq (tAsg (tTup ta) (gTup K 3 (gCons (gName i) (gCons (gName j) (gCons (gName l) gNil))))) tz D1 σ H := s_tup3 (D1 := { D1 with nx := tz D1 }) h hl k
theorem q_par2 {i j : Nat} {ta : TA} {PA : List D → Hp → Prop} (h : EA K ta σ H PA) (hl : ∀ ds H1, PA ds H1 → ds.length = 2)
    (k : ∀ v w d1 d2 H1, Le H H1 → PA [d1, d2] H1 → Rp K H1 v d1 → Rp K H1 w d2 → tz D1 ((σ.set i (some v)).set j (some w)) H1) : tSeq (tPar i j ta) tz D1 σ H := s_par2 (D1 := { D1 with nx := tz D1 }) h hl k
theorem q_drop (h : EP K te σ H P) (k : ∀ H1, Le H H1 → tz D1 σ H1) : tSeq (tDrop te) tz D1 σ H := s_drop (D1 := { D1 with nx := tz D1 }) h k
theorem q_if {P : Bool → Prop} (h : ET t σ H P) (h1 : P true → ∀ H1, Le H H1 → tu { D1 with nx := tz D1 } σ H1) (h2 : P false → ∀ H1, Le H H1 → tw { D1 with nx := tz D1 } σ H1) : tSeq (tIfS t tu tw) tz D1 σ H := s_if (D1 := { D1 with nx := tz D1 }) h h1 h2
theorem q_ifB {b : Bool} (h : EB t σ H b) (h1 : b = true → ∀ H1, Le H H1 → tu { D1 with nx := tz D1 } σ H1) (h2 : b = false → ∀ H1, Le H H1 → tw { D1 with nx := tz D1 } σ H1) : tSeq (tIfS t tu tw) tz D1 σ H := s_ifB (D1 := { D1 with nx := tz D1 }) h h1 h2
theorem q_set {l : Addr} {vs : List V} {ds : List D} {i : Int} (hl : H l = some (.lst vs)) (nh : NotH vs) (hr : vs.length = ds.length) (h : EP K te σ H P) (ho : ∀ H1, Le H H1 → ED K ta σ H1 (.obj (.ref l))) (hi : ∀ H1, Le H H1 → ED K tb σ H1 (.int i)) (h0 : 0 ≤ i) (hj : i < ds.length)
    (k : ∀ y d H1 H3, Le H H1 → P d H1 → Le H1 H3 → Rp K H3 y d → H3 l = some (.lst vs) → tz D1 σ (upd H3 l (.lst (vs.set i.toNat y)))) : tSeq (tAsg te (gSub ta tb rSetL)) tz D1 σ H := s_set (D1 := { D1 with nx := tz D1 }) hl nh hr h ho hi h0 hj k
theorem q_app {l : Addr} {vs : List V} (hl : H l = some (.lst vs)) (nh : NotH vs) (ha : ED K ta σ H (.obj (.ref l))) (h : ∀ H1, Le H H1 → EP K te σ H1 P) (hz : vs.length < 100000)
    (k : ∀ y d H1, Le H H1 → P d H1 → Rp K H1 y d → H1 l = some (.lst vs) → tz D1 σ (upd H1 l (.lst (vs ++ [y])))) : tSeq (tDrop (tBM K "list" rAppend ta (tCons te tNil))) tz D1 σ H := s_app (D1 := { D1 with nx := tz D1 }) hl nh ha h hz k
theorem q_ext {l : Addr} {vs : List V} {ds : List D} (hl : H l = some (.lst vs)) (nh : NotH vs) (ha : ED K ta σ H (.obj (.ref l))) (h : ∀ H1, Le H H1 → ED K te σ H1 (.lst ds)) (hz : vs.length + ds.length ≤ 100000)
    (k : ∀ ws H1, Le H H1 → Rps K H1 ws ds → H1 l = some (.lst vs) → tz D1 σ (upd H1 l (.lst (vs ++ ws)))) : tSeq (tDrop (tBM K "list" rExtend ta (tCons te tNil))) tz D1 σ H := s_ext (D1 := { D1 with nx := tz D1 }) hl nh ha h hz k
theorem q_forT {ds : List D} (h : ED K te σ H (.tup ds)) (nl : ∀ d ∈ ds, NoL d)
    (k : ∀ H1, Le H H1 → ∃ Pv : Nat → L2.St → Hp → Prop, Pv 0 σ H1 ∧ (∀ i σ' H', i ≤ ds.length → Pv i σ' H' → LeT H1 H') ∧
      (∀ i d v σ' H', ds[i]? = some d → Rp K H' v d → Pv i σ' H' → g v σ' H' fun σ2 H2 => tu ({ D1 with nx := Pv (i + 1), ct := Pv (i + 1), bk := tz D1 }) σ2 H2) ∧ ∀ σ' H', Pv ds.length σ' H' → tz D1 σ' H') : tSeq (tFor (iTup K te) g tu) tz D1 σ H := s_forT (D1 := { D1 with nx := tz D1 }) h nl k
theorem q_forL {ds : List D} (h : ED K te σ H (.lst ds)) (nl : ∀ d ∈ ds, NoL d)
    (k : ∀ a vs H1, Le H H1 → H1 a = some (.lst vs) → Rps K H1 vs ds → ∃ Pv : Nat → L2.St → Hp → Prop, Pv 0 σ H1 ∧ (∀ i σ' H', i ≤ ds.length → Pv i σ' H' → LeT H1 H' ∧ H' a = some (.lst vs)) ∧
      (∀ i d v σ' H', ds[i]? = some d → Rp K H' v d → Pv i σ' H' → g v σ' H' fun σ2 H2 => tu ({ D1 with nx := Pv (i + 1), ct := Pv (i + 1), bk := tz D1 }) σ2 H2) ∧ ∀ σ' H', Pv ds.length σ' H' → tz D1 σ' H') : tSeq (tFor (iList K te) g tu) tz D1 σ H := s_forL (D1 := { D1 with nx := tz D1 }) h nl k
theorem q_forR1 {ta : TA} {n : Int} (h : EDA K ta σ H [.int n]) (hn : -100000 ≤ n ∧ n ≤ 100000)
    (k : ∀ H1, Le H H1 → ∃ Pv : Nat → L2.St → Hp → Prop, Pv 0 σ H1 ∧
      (∀ (i : Nat) σ' H', (i : Int) < n → Pv i σ' H' → g (.int (i : Int)) σ' H' fun σ2 H2 => tu ({ D1 with nx := Pv (i + 1), ct := Pv (i + 1), bk := tz D1 }) σ2 H2) ∧ ∀ σ' H', Pv n.toNat σ' H' → tz D1 σ' H') : tSeq (tFor (iRng1 ta) g tu) tz D1 σ H := s_forR1 (D1 := { D1 with nx := tz D1 }) h hn k
theorem q_forR2 {ta : TA} {lo n : Int} (h : EDA K ta σ H [.int lo, .int n]) (hl : -100000 ≤ lo ∧ lo ≤ 100000 ∧ -100000 ≤ n ∧ n ≤ 100000)
    (k : ∀ H1, Le H H1 → ∃ Pv : Nat → L2.St → Hp → Prop, Pv 0 σ H1 ∧
      (∀ (i : Nat) σ' H', lo + (i : Int) < n → Pv i σ' H' → g (.int (lo + (i : Int))) σ' H' fun σ2 H2 => tu ({ D1 with nx := Pv (i + 1), ct := Pv (i + 1), bk := tz D1 }) σ2 H2) ∧ ∀ σ' H', Pv (n - lo).toNat σ' H' → tz D1 σ' H') : tSeq (tFor (iRng2 ta) g tu) tz D1 σ H := s_forR2 (D1 := { D1 with nx := tz D1 }) h hl k
theorem q_forE {ta : TA} {j : Nat} {ds : List D} (h : EDA K ta σ H [.tup ds]) (nl : ∀ d ∈ ds, NoL d)
    (k : ∀ H1, Le H H1 → ∃ Pv : Nat → L2.St → Hp → Prop, Pv 0 σ H1 ∧ (∀ i σ' H', i ≤ ds.length → Pv i σ' H' → LeT H1 H') ∧
      (∀ (i : Nat) d v σ' H' H2, ds[i]? = some d → Pv i σ' H' → Le H' H2 → Rp K H2 v d → g v (σ'.set j (some (.int (i : Int)))) H2 fun σ2 H3 => gNil [] σ2 H3 fun σ4 H4 => tu ({ D1 with nx := Pv (i + 1), ct := Pv (i + 1), bk := tz D1 }) σ4 H4) ∧ ∀ σ' H', Pv ds.length σ' H' → tz D1 σ' H')  : tSeq (tFor (iEnumT K ta) (gTup K 2 (gCons (gName j) (gCons g gNil))) tu) tz D1 σ H := s_forE (D1 := { D1 with nx := tz D1 }) h nl k
theorem q_when {P : Bool → Prop} (h : ET t σ H P) (h1 : P true → ∀ H1, Le H H1 → tu { D1 with nx := tz D1 } σ H1) (h2 : P false → ∀ H1, Le H H1 → tz D1 σ H1) : tSeq (tIfS t tu tNext) tz D1 σ H := s_if (D1 := { D1 with nx := tz D1 }) h h1 h2
theorem q_whenB {b : Bool} (h : EB t σ H b) (h1 : b = true → ∀ H1, Le H H1 → tu { D1 with nx := tz D1 } σ H1) (h2 : b = false → ∀ H1, Le H H1 → tz D1 σ H1) : tSeq (tIfS t tu tNext) tz D1 σ H := s_ifB (D1 := { D1 with nx := tz D1 }) h h1 h2
theorem q_cut {M : L2.St → Hp → Prop} (h : tu { D1 with nx := M } σ H) (k : ∀ σ' H', M σ' H' → tz D1 σ' H') : Evl.tCut tu tz D1 σ H := ⟨M, h, k⟩
end
end W1

set_option maxRecDepth 100000
set_option maxHeartbeats 4000000
/-! new lists -/
namespace W1
open PySem PyProof.Rows L2
section
variable {K : PySem.W.Frag} {σ : L2.St} {H H' : Hp} {ta tb tc te : TE} {t u : TT} {d d1 d2 d3 : D} {P P1 P2 P3 : Pd} {D1 : Ends} {tu tw tz : TS} {g : TG}
/-- e makes a new list of data ds of which P holds -/
def EF (K : PySem.W.Frag) (te : TE) (σ : L2.St) (H : Hp) (P : List D → Prop) : Prop := ∀ H1, Le H H1 → ∀ Q : VK, (∀ p vs ds H2, H1 p = none → Le H1 H2 → H2 p = some (.lst vs) → NotH vs → Rps K H2 vs ds → P ds → Q (.ref p) H2) → te σ H1 Q
abbrev EFD (K : PySem.W.Frag) (te : TE) (σ : L2.St) (H : Hp) (ds : List D) : Prop := EF K te σ H fun x => x = ds
theorem EF.ep {PL : List D → Prop} (h : EF K te σ H PL) : EP K te σ H (fun d _ => ∃ ds, d = .lst ds ∧ PL ds) := fun H1 e Q q => h H1 e Q fun p vs ds H2 _ e2 hp nh r pl => q _ (.lst ds) H2 e2 ⟨ds, rfl, pl⟩ (.lst hp nh r)
theorem EFD.ed {ds : List D} (h : EFD K te σ H ds) : ED K te σ H (.lst ds) := fun H1 e Q q => h H1 e Q fun p vs ds' H2 _ e2 hp nh r pl => by
  have p' : ds' = ds := pl
  subst p'
  exact q _ (.lst ds') H2 e2 rfl (.lst hp nh r)
theorem ef_lst {A : TA} {ds : List D} (h : EDA K A σ H ds) (hl : ds.length ≤ 100000) (hc : calmL ds = true) : EFD K (tLst A) σ H ds := fun H1 e Q q => h H1 e _ fun vs es H2 e2 p r => by
  have p' : es = ds := p
  subst p'
  exact ⟨by rw [r.len]; exact Evl.sz_of hl, fun a na => q a vs es _ (e2.fresh na) (e2.trans (Le.new na)) upd_same (calm_notH hc r) (r.le (Le.new na)) rfl⟩
theorem ef_lstOfT {ds : List D} (h : ED K ta σ H (.tup ds)) (hu : Uni ds) : EFD K (tCB (rLstOf K) (tCons ta tNil)) σ H ds := fun H1 e Q q => h H1 e _ fun v d H2 e2 p r => by
  have p' : d = .tup ds := p
  subst p'
  obtain ⟨a, xs, rfl, s, rr⟩ := rp_tup r
  refine ⟨a, xs, rfl, .inr s, fun l hl => ?_⟩
  have rf := rr.le (Le.new (o := .lst xs) hl)
  exact q l xs ds _ (e2.fresh hl) (e2.trans (Le.new hl)) upd_same (hu.notH rf) rf rfl
theorem ef_lstOfL {ds : List D} (h : ED K ta σ H (.lst ds)) : EFD K (tCB (rLstOf K) (tCons ta tNil)) σ H ds := fun H1 e Q q => h H1 e _ fun v d H2 e2 p r => by
  have p' : d = .lst ds := p
  subst p'
  obtain ⟨a, xs, rfl, s, nh, rr⟩ := rp_lst r
  exact ⟨a, xs, rfl, .inl (SqL.of s), fun l hl => q l xs ds _ (e2.fresh hl) (e2.trans (Le.new hl)) upd_same nh (rr.le (Le.new hl)) rfl⟩
theorem ef_rep {ds : List D} {k : Int} (ha : ED K ta σ H (.lst ds)) (hb : ED K tb σ H (.int k)) (h1 : 0 ≤ k ∧ k ≤ 1000) (hz : ds.length ≤ 1000) (hu : Uni (List.replicate k.toNat ds).flatten) : EFD K (tOp rRep ta tb) σ H (List.replicate k.toNat ds).flatten := fun H1 e Q q =>
  ha H1 e _ fun x d1 H2 e2 p1 r1 => hb H2 (e.trans e2) _ fun y d2 H3 e3 p2 r2 => by
    have p1' : d1 = .lst ds := p1
    have p2' : d2 = .int k := p2
    subst p1' p2'
    obtain ⟨a, xs, rfl, s, nh, rr⟩ := rp_lst (r1.le e3)
    have hm : xs.length * k.toNat ≤ 1000 * 1000 := Nat.mul_le_mul (by rw [rr.len]; exact hz) (by omega)
    refine ⟨a, k, xs, rfl, rp_int r2, s, by omega, by omega, Nat.le_trans hm (by decide), fun p np => ?_⟩
    have rf := (rr.le (Le.new (o := .lst (List.replicate k.toNat xs).flatten) np)).flat k.toNat
    exact q p _ _ _ ((e2.trans e3).fresh np) ((e2.trans e3).trans (Le.new np)) upd_same (hu.notH rf) rf rfl
theorem s_asgF {i : Nat} {PL : List D → Prop} (h : EF K te σ H PL) (k : ∀ p vs ds H1, H p = none → Le H H1 → H1 p = some (.lst vs) → NotH vs → Rps K H1 vs ds → PL ds → D1.nx (σ.set i (some (.ref p))) H1) : tAsg te (gName i) D1 σ H := h H (Le.refl _) _ k
theorem q_asgF {i : Nat} {PL : List D → Prop} (h : EF K te σ H PL) (k : ∀ p vs ds H1, H p = none → Le H H1 → H1 p = some (.lst vs) → NotH vs → Rps K H1 vs ds → PL ds → tz D1 (σ.set i (some (.ref p))) H1) : tSeq (tAsg te (gName i)) tz D1 σ H := s_asgF (D1 := { D1 with nx := tz D1 }) h k
end
end W1

set_option maxRecDepth 100000
set_option maxHeartbeats 4000000
/-! rules whose reading names the written part, with its name given -/
namespace W1
open PySem PyProof.Rows L2
section
variable {X : Cx} {K : PySem.W.Frag} {w : World}
theorem kop_in (h : X.K = K := by rfl) : OpR X (compareOp .In) (rIn K false) := h ▸ op_in_seq
theorem kop_nin (h : X.K = K := by rfl) : OpR X (compareOp .NotIn) (rIn K true) := h ▸ op_notIn_seq
theorem kop_catA (h : X.K = K := by rfl) : OpR X (binaryOp .Add) (rCatA K) := h ▸ op_catA
theorem kop_rep1 (h : X.K = K := by rfl) : OpR X (binaryOp .Mult) (rRep1 K) := h ▸ op_rep1
theorem kop_eqD (hu : X.A.units + 64 < cLine) (h : X.K = K := by rfl) : OpR X (compareOp .Eq) (rEqD K) := h ▸ op_eqD hu
theorem kop_neD (hu : X.A.units + 64 < cLine) (h : X.K = K := by rfl) : OpR X (compareOp .NotEq) (rNeD K) := h ▸ op_neD hu
theorem kop_ltT (hu : X.A.units < cLine) (h : X.K = K := by rfl) : OpR X (compareOp .Lt) (rLtT K) := h ▸ op_ltT hu
theorem kop_leT (hu : X.A.units < cLine) (h : X.K = K := by rfl) : OpR X (compareOp .LtE) (rLeT K) := h ▸ op_leT hu
theorem kix_tup (h : X.K = K := by rfl) : IxR X (rIxT K) := h ▸ ix_tup
theorem kix_list (h : X.K = K := by rfl) : IxR X (rIxL K) := h ▸ ix_list
theorem ksl_tup (h : X.K = K := by rfl) : SlR X (rSlA K) := h ▸ sl_tupA
theorem ksl_list (h : X.K = K := by rfl) : SlR X (rSlL K) := h ▸ sl_list
theorem kc_len (h : X.K = K := by rfl) : CallR X (.builtin "len") (fun xs H Q => ∃ p ys, xs = [.ref p] ∧ (SqL K H p ys ∨ SqT K H p ys) ∧ Q (.int ys.length) H) := h ▸ call_len_seq
theorem kc_tuple (h : X.K = K := by rfl) : CallR X (.type "tuple") (rTupOf K) := h ▸ call_tuple_of
theorem kc_list (h : X.K = K := by rfl) : CallR X (.type "list") (rLstOf K) := h ▸ call_list_of
theorem kc_sortedI (h : X.K = K := by rfl) : CallR X (.builtin "sorted") (rSortedI K) := h ▸ cr_sortedI
theorem kc_all (hc : X.calm = true) (h : X.K = K := by rfl) : CallR X (.builtin "all") (rAll K) := h ▸ cr_all hc
theorem kc_setL (hc : X.calm = true) (h : X.K = K := by rfl) (h2 : X.w = w := by rfl) : CallR X (.type "set") (rSetOfL K w) := h2 ▸ h ▸ cr_setL hc
theorem kc_sortedSet (hc : X.calm = true) (h2 : X.w = w := by rfl) : CallR X (.builtin "sorted") (rSortedSet w) := h2 ▸ cr_sortedSet hc
theorem kc_isi (h : X.K = K := by rfl) : CallR X (.builtin "isinstance") (rIsi K) := h ▸ call_isi
theorem kpg_tup {es : List Expr} {k : Nat} {t : TGs} {n : Nat} {pos : Pos} (hc : X.calm = true) (hp : PGs X es t) (hn : (assignEach es X.env).length = n := by rfl) (hst : (assignEach es X.env).findIdx? (·.1) = none := by rfl) (h : X.K = K := by rfl) :
    PG X (.Tuple es k pos) (gTup K n t) := h ▸ pg_tup hc hp hn hst
theorem kpe_fld {e : Expr} {f : Str} {ta : TE} {pos : Pos} (he : PE X e ta) (hb : attributeBase e f X.env (eval e X.env) = eval e X.env := by rfl) (h : X.K = K := by rfl) : PE X (.Attribute e f pos) (tFld K ta f) := h ▸ pe_fld he hb
theorem kpi_list {l tg : Expr} {tl : TE} (hl : PE X l tl) (h : X.K = K := by rfl) : PI X tg l (iList K tl) := h ▸ pi_list hl
theorem kpi_tup {l tg : Expr} {tl : TE} (hl : PE X l tl) (h : X.K = K := by rfl) : PI X tg l (iTup K tl) := h ▸ pi_tup hl
theorem kpi_enumT {e : Expr} {ta : TA} {p pos tp : Pos} {elts : List Expr} {kk : Nat} (hg : Gl X "enumerate") (hm : X.mg "enumerate" = none) (ha : PA X [e] ta) (hs : starEach [e] X.env = [(false, eval e X.env)] := by rfl) (h : X.K = K := by rfl) :
    PI X (.Tuple elts kk tp) (.Call (.Name "enumerate" p) [e] [] pos) (iEnumT K ta) := h ▸ pi_enumT hg hm ha hs
theorem kpe_revL {e : Expr} {te : TE} {k : Nat} {p1 p2 p3 pos : Pos} (he : PE X e te) (h : X.K = K := by rfl) : PE X (.Subscript e (.Slice none none (some (.UnaryOp .USub (.Constant (.int 1) k p1) p2)) p3) pos) (tRevL K te) := h ▸ pe_revL he
end
end W1

set_option maxRecDepth 100000
set_option maxHeartbeats 4000000
namespace W1
open PySem PyProof.Rows L2
section
variable {K : PySem.W.Frag} {σ : L2.St} {H H' : Hp} {ta tb tc te : TE} {tt : TT} {ra : TA} {t u : TT} {d d1 d2 d3 : D} {P P1 P2 P3 : Pd} {D1 : Ends} {tu tw tz : TS} {g : TG} {vs : List Nat} {α : Type} {enc : α → D}
/-- a loop over a list that is known by what holds of it -/
theorem s_forLP {PL : List α → Prop} (E : Enc enc) (h : EP K te σ H fun d _ => ∃ xs : List α, d = .lst (xs.map enc) ∧ PL xs)
    (k : ∀ xs a us H1, PL xs → Le H H1 → H1 a = some (.lst us) → NotH us → ∃ Pv : Nat → L2.St → Hp → Prop, Pv 0 σ H1 ∧ (∀ i σ' H', i ≤ xs.length → Pv i σ' H' → LeT H1 H' ∧ H' a = some (.lst us)) ∧
      (∀ i x v σ' H', xs[i]? = some x → Rp K H' v (enc x) → Pv i σ' H' → g v σ' H' fun σ2 H2 => tu { D1 with nx := Pv (i + 1), ct := Pv (i + 1), bk := D1.nx } σ2 H2) ∧ ∀ σ' H', Pv xs.length σ' H' → D1.nx σ' H') : tFor (iList K te) g tu D1 σ H := h H (Le.refl _) _ fun v d0 H1 e p r => by
  obtain ⟨xs, rfl, pl⟩ := p
  obtain ⟨a, us, rfl, s, nh, rr⟩ := rp_lst r
  obtain ⟨Pv, h0, hle, hs, hd⟩ := k xs a us H1 pl e s nh
  have el : us.length = xs.length := by rw [rr.len, List.length_map]
  refine ⟨a, rfl, ⟨us, SqL.of s⟩, for_it (walk_list (xs := us)) Pv h0 (fun i σ' H' hi q => SqL.of (hle i σ' H' (by rw [← el]; exact hi) q).2) ?_ (fun σ' H' q => hd σ' H' (by rw [← el]; exact q))⟩
  rintro i x σ' H' _ hi q ⟨rfl, hx⟩
  obtain ⟨d, h1, h2⟩ := rr.at' hx
  obtain ⟨b, hb, rfl⟩ := map_at h1
  exact hs i b x σ' _ hb (h2.leT (hle i σ' _ (by rw [← el]; omega) q).1 (E.noL _)) q
theorem q_forLP {PL : List α → Prop} (E : Enc enc) (h : EP K te σ H fun d _ => ∃ xs : List α, d = .lst (xs.map enc) ∧ PL xs)
    (k : ∀ xs a us H1, PL xs → Le H H1 → H1 a = some (.lst us) → NotH us → ∃ Pv : Nat → L2.St → Hp → Prop, Pv 0 σ H1 ∧ (∀ i σ' H', i ≤ xs.length → Pv i σ' H' → LeT H1 H' ∧ H' a = some (.lst us)) ∧
      (∀ i x v σ' H', xs[i]? = some x → Rp K H' v (enc x) → Pv i σ' H' → g v σ' H' fun σ2 H2 => tu { D1 with nx := Pv (i + 1), ct := Pv (i + 1), bk := tz D1 } σ2 H2) ∧ ∀ σ' H', Pv xs.length σ' H' → tz D1 σ' H') : tSeq (tFor (iList K te) g tu) tz D1 σ H := s_forLP (D1 := { D1 with nx := tz D1 }) E h k
/-- [x for x in range(n) if ..] -/
theorem ep_lcRS {n : Nat} {j : Nat} (h : EDA K ra σ H [.int (n : Int)]) (hz : n ≤ 50000) (hw : ∀ x, wipe ((wipe σ vs).set j (some x)) vs = wipe σ vs)
    (ht : ∀ (i : Nat) H1, Le H H1 → i < n → ET tt ((wipe σ vs).set j (some (.int (i : Int)))) H1 fun _ => True)
    (he : ∀ (i : Nat) H1, Le H H1 → i < n → ED K te ((wipe σ vs).set j (some (.int (i : Int)))) H1 (.int (i : Int))) :
    EP K (tLc (iRng1 ra) (gName j) tt te vs) σ H (fun d _ => ∃ zs : List Int, d = .lst (zs.map .int) ∧ zs.length ≤ n ∧ ∀ z ∈ zs, 0 ≤ z ∧ z < n) := by
  refine EP.weak (ep_lcR1 (I := GI D.int fun i zs => zs.length ≤ i ∧ ∀ z ∈ zs, 0 ≤ z ∧ z < (n : Int)) (PT := fun i b => True) (good enc_int _) h (by omega) hw ⟨[], rfl, Nat.zero_le _, Nat.le_refl _, by simp⟩ ?_ ?_ ?_) ?_
  · intro i acc H1 e hi _
    exact ht i H1 e (by omega)
  · rintro i acc H1 e hi ⟨zs, rfl, hl, hl2, hZ⟩ _
    refine (he i H1 e (by omega)).weak fun d' H2 _ p => ?_
    have p' : d' = .int (i : Int) := p
    subst p'
    refine ⟨GI.more (by simp; omega) ⟨by simp; omega, fun x hx => ?_⟩, .int _⟩
    rcases List.mem_append.mp hx with hx | hx
    · exact hZ x hx
    · rw [List.mem_singleton.mp hx]
      omega
  · rintro i acc hi ⟨zs, rfl, hl, hl2, hZ⟩ _
    exact ⟨zs, rfl, hl, by omega, hZ⟩
  · rintro d H2 _ ⟨acc, rfl, zs, rfl, _, hl, hZ⟩
    rw [Int.toNat_natCast] at hl
    exact ⟨zs, rfl, hl, hZ⟩
/-- new, known by what holds of it -/
theorem EP.anyL {PL : List D → Prop} (h : EP K te σ H fun d _ => ∃ ds, d = .lst ds ∧ PL ds) : EP K te σ H fun d _ => ∃ ds, d = .lst ds := h.weak fun d _ _ ⟨ds, e, _⟩ => ⟨ds, e⟩
theorem EA_weak {A : TA} {P1 P2 : List D → Hp → Prop} (h : EA K A σ H P1) (w : ∀ ds H2, P1 ds H2 → P2 ds H2) : EA K A σ H P2 := fun H1 a Q q => h H1 a Q fun vs ds H2 b p r => q vs ds H2 b (w ds H2 p) r
/-! promises of a new list -/
def spF (K : PySem.W.Frag) (R : List D → Hp → (List D → Prop) → Prop) : Sp := fun vs H Q _ => ∃ ds PL, Rps K H vs ds ∧ R ds H PL ∧ ∀ p us es H2, H p = none → Le H H2 → H2 p = some (.lst us) → NotH us → Rps K H2 us es → PL es → Q (.ref p) H2
theorem ef_call {R : List D → Hp → (List D → Prop) → Prop} {E : XK} {A : TA} {ds : List D} {PL : List D → Prop} (h : EDA K A σ H ds) (hr : ∀ H2, Le H H2 → R ds H2 PL) : EF K (tCall (spF K R) [] E A) σ H PL := fun H1 e Q q =>
  h H1 e _ fun vs es H2 e2 p r => by
    have p' : es = ds := p
    subst p'
    exact ⟨es, PL, by rw [List.append_nil]; exact r, hr H2 (e.trans e2), fun a us fs H3 na e3 ha nh r3 pl => q a us fs H3 (e2.fresh na) (e2.trans e3) ha nh r3 pl⟩
theorem ef_sortedI {PN : List Int → Prop} (h : EP K ta σ H fun d _ => ∃ ns : List Int, d = .lst (ns.map .int) ∧ PN ns) :
    EF K (tCB (rSortedI K) (tCons ta tNil)) σ H (fun ds => ∃ ns ns' : List Int, ds = ns'.map .int ∧ PN ns ∧ ns'.Perm ns ∧ ns'.Pairwise (· ≤ ·)) := fun H1 e Q q => h H1 e _ fun v d H2 e2 p r => by
  obtain ⟨ns, rfl, pn⟩ := p
  obtain ⟨a, xs, rfl, s, nh, rr⟩ := rp_lst r
  have ex := ints_rps rr
  subst ex
  exact ⟨a, ns, rfl, SqL.of s, fun ns' p hp hs hn => q p _ _ _ (e2.fresh hn) (e2.trans (Le.new hn)) upd_same (notH_ints _) (rps_ints _) ⟨ns, ns', rfl, pn, hp, hs⟩⟩
theorem s_retF {PL : List D → Prop} (h : EF K te σ H PL) (k : ∀ p us ds H1, H p = none → Le H H1 → H1 p = some (.lst us) → NotH us → Rps K H1 us ds → PL ds → D1.rt (.ref p) H1) : tRet te D1 σ H := h H (Le.refl _) _ k
theorem EF.le {PL : List D → Prop} (e : Le H H') (h : EF K te σ H PL) : EF K te σ H' PL := fun H1 a Q q => h H1 (e.trans a) Q q
theorem s_forLF {PL : List α → Prop} (E : Enc enc) (h : EF K te σ H fun ds => ∃ xs : List α, ds = xs.map enc ∧ PL xs)
    (k : ∀ xs a us H1, PL xs → H a = none → Le H H1 → H1 a = some (.lst us) → NotH us → ∃ Pv : Nat → L2.St → Hp → Prop, Pv 0 σ H1 ∧ (∀ i σ' H', i ≤ xs.length → Pv i σ' H' → LeT H1 H' ∧ H' a = some (.lst us)) ∧
      (∀ i x v σ' H', xs[i]? = some x → Rp K H' v (enc x) → Pv i σ' H' → g v σ' H' fun σ2 H2 => tu { D1 with nx := Pv (i + 1), ct := Pv (i + 1), bk := D1.nx } σ2 H2) ∧ ∀ σ' H', Pv xs.length σ' H' → D1.nx σ' H') : tFor (iList K te) g tu D1 σ H := h H (Le.refl _) _ fun a us ds H1 na e s nh rr p => by
  obtain ⟨xs, rfl, pl⟩ := p
  obtain ⟨Pv, h0, hle, hs, hd⟩ := k xs a us H1 pl na e s nh
  have el : us.length = xs.length := by rw [rr.len, List.length_map]
  refine ⟨a, rfl, ⟨us, SqL.of s⟩, for_it (walk_list (xs := us)) Pv h0 (fun i σ' H' hi q => SqL.of (hle i σ' H' (by rw [← el]; exact hi) q).2) ?_ (fun σ' H' q => hd σ' H' (by rw [← el]; exact q))⟩
  rintro i x σ' H' _ hi q ⟨rfl, hx⟩
  obtain ⟨d, h1, h2⟩ := rr.at' hx
  obtain ⟨b, hb, rfl⟩ := map_at h1
  exact hs i b x σ' _ hb (h2.leT (hle i σ' _ (by rw [← el]; omega) q).1 (E.noL _)) q
theorem q_forLF {PL : List α → Prop} (E : Enc enc) (h : EF K te σ H fun ds => ∃ xs : List α, ds = xs.map enc ∧ PL xs)
    (k : ∀ xs a us H1, PL xs → H a = none → Le H H1 → H1 a = some (.lst us) → NotH us → ∃ Pv : Nat → L2.St → Hp → Prop, Pv 0 σ H1 ∧ (∀ i σ' H', i ≤ xs.length → Pv i σ' H' → LeT H1 H' ∧ H' a = some (.lst us)) ∧
      (∀ i x v σ' H', xs[i]? = some x → Rp K H' v (enc x) → Pv i σ' H' → g v σ' H' fun σ2 H2 => tu { D1 with nx := Pv (i + 1), ct := Pv (i + 1), bk := tz D1 } σ2 H2) ∧ ∀ σ' H', Pv xs.length σ' H' → tz D1 σ' H') : tSeq (tFor (iList K te) g tu) tz D1 σ H := s_forLF (D1 := { D1 with nx := tz D1 }) E h k
end
section
variable {P : Program} {w : World} {K : PySem.W.Frag} {mg : Str → Option Value} {base : Heap}
theorem defF {x : Str} {st : Stmt} {N ps : List Str} {k : Nat} {R : List D → Hp → (List D → Prop) → Prop} (g : GDef K mg x st ps) (S : FnScope N ps (defScope st)) (hl : ∀ ds H Pd, R ds H Pd → ds.length = ps.length)
    (body : ∀ (cdv : Value) (A : Around) (outer : List Env) (s : Shared) (f : Addr) (H : Hp) (vs : List V) (ds : List D) (PL : List D → Prop) (Q : VK) (E : XK), Room k (A.deeper (envOfC x (defScope st) s.heap.objs.size f cdv)) → Rps K H vs ds → R ds H PL →
      (∀ p us es H2, H p = none → Le H H2 → H2 p = some (.lst us) → NotH us → Rps K H2 us es → PL es → Q (.ref p) H2) →
      ∃ t, PSs (cxOf CX0 P w K mg base N x (defScope st) f cdv A outer s H E).nox (defBody st) t ∧ t { nx := fun _ H' => Q .non H', rt := Q } (start N vs) H) : Def P w K mg base (k + 1) x ps (spF K R) := by
  refine defS g S (fun vs H Q E h => ?_) fun cdv A outer s f H vs Q E hr h => ?_
  · obtain ⟨ds, Pd, r, h, _⟩ := h
    rw [r.len]
    exact hl ds H Pd h
  · obtain ⟨ds, Pd, r, h, q⟩ := h
    exact body cdv A outer s f H vs ds Pd Q E hr r h q
end
end W1

set_option maxRecDepth 100000
set_option maxHeartbeats 4000000
namespace W1
open PySem PyProof.Rows L2
section
variable {X : Cx} {K : PySem.W.Frag} {σ : L2.St} {H H' : Hp} {ta tb tc te : TE} {tt : TT} {t u : TT} {d d1 d2 d3 : D} {P P1 P2 P3 : Pd} {D1 : Ends} {tu tw tz : TS}
/-- a name of the module that holds a number -/
theorem pe_gl {x : Str} {pos : Pos} {v : V} (hm : ∃ u, X.mg x = some u ∧ RelV v u) (hg : Gl X x := by rfl) (hd : (x == ("__debug__" : Str)) = false := by decide) : PE X (.Name x pos) (tC v) := by
  obtain ⟨u, h1, h2⟩ := hm
  exact pe_glob hg h1 h2 hd
/-- a way that is not taken -/
theorem s_no {b : Bool} (h : EB t σ H b) (hb : b = false) (k : ∀ H1, Le H H1 → tw D1 σ H1) : tIfS t tu tw D1 σ H := s_ifB h (fun e => by rw [hb] at e; cases e) fun _ => k
theorem q_no {b : Bool} (h : EB t σ H b) (hb : b = false) (k : ∀ H1, Le H H1 → tz D1 σ H1) : tSeq (tIfS t tu tNext) tz D1 σ H := s_no (D1 := { D1 with nx := tz D1 }) h hb k
theorem kitB_bool : kitB "bool" "int" = some true := by decide +kernel
end
/-! ### which data is an integer -/
def isI : D → Bool
  | .int _ => true
  | _ => false
def btw (l m : Int) : D → Bool
  | .int i => decide (l ≤ i) && decide (i ≤ m)
  | _ => false
def noObj : D → Bool
  | .obj _ => false
  | _ => true
theorem noObj_ne {d : D} (h : noObj d = true) : ∀ u, d ≠ .obj u := fun u e => by
  subst e
  cases h
def subI : D → Bool
  | .int _ => true
  | .bl _ => true
  | _ => false
theorem kit_int {d : D} (h : noObj d = true) : kitB (tyD d) "int" = some (subI d) := by
  cases d <;> first | rfl | decide +kernel | cases h
theorem kit_bool {d : D} (h : noObj d = true) : kitB (tyD d) "bool" = some (match d with | .bl _ => true | _ => false) := by
  cases d <;> first | rfl | decide +kernel | cases h
theorem kit_tup {d : D} (h : noObj d = true) : kitB (tyD d) "tuple" = some (match d with | .tup _ => true | _ => false) := by
  cases d <;> first | rfl | decide +kernel | cases h
/-! ### a web -/
def webFs (m t n : V) : List (Str × V) := putF "near" n (putF "ties" t (putF "memories" m []))
theorem mt_ : ¬ (("memories" : Str) = "ties") := by decide +kernel
theorem mn_ : ¬ (("memories" : Str) = "near") := by decide +kernel
theorem tn_ : ¬ (("ties" : Str) = "near") := by decide +kernel
theorem web_m (m t n : V) : (webFs m t n).lookup ("memories" : Str) = some m := by
  unfold webFs
  rw [lookup_putF, if_neg mn_, lookup_putF, if_neg mt_, lookup_putF, if_pos rfl]
theorem web_t (m t n : V) : (webFs m t n).lookup ("ties" : Str) = some t := by
  unfold webFs
  rw [lookup_putF, if_neg tn_, lookup_putF, if_pos rfl]
theorem web_n (m t n : V) : (webFs m t n).lookup ("near" : Str) = some n := by
  unfold webFs
  rw [lookup_putF, if_pos rfl]
structure WTxt (K : PySem.W.Frag) (C : Addr) : Prop where
  cl : Cls K C
  nM : NoAttr K C "memories"
  nT : NoAttr K C "ties"
  nN : NoAttr K C "near"
end W1

set_option maxRecDepth 100000
set_option maxHeartbeats 4000000
namespace W1
open PySem PyProof.Rows L2
abbrev topS (i : Nat) : Stmt := PySem.Challenge.pw_staletags_k05_whole_keepers_led.main.body.getD i (.Pass ⟨0, 0, 0, 0⟩)
abbrev s__law_draw : Stmt := topS 41
abbrev N__law_draw : List Str := ["_law_hand_here", "_law_many", "_law_cell", "_law_digit", "_law_number"]
theorem sc__law_draw : FnScope N__law_draw ["_law_hand_here", "_law_many"] (defScope s__law_draw) := ⟨rfl, rfl, rfl, by decide +kernel, rfl, by decide +kernel, by decide +kernel⟩
/-- no built-in that is called is hidden -/
structure Txt (mg : Str → Option Value) : Prop where
  n_len : mg "len" = none
  n_abs : mg "abs" = none
  n_int : mg "int" = none
  n_range : mg "range" = none
  n_tuple : mg "tuple" = none
  n_list : mg "list" = none
  n_sorted : mg "sorted" = none
  n_set : mg "set" = none
  n_enumerate : mg "enumerate" = none
  n_isinstance : mg "isinstance" = none
  n_all : mg "all" = none
  n_max : mg "max" = none
  n_min : mg "min" = none
  n_bool : mg "bool" = none
section
variable {P : Program} {w : World} {K : PySem.W.Frag} {mg : Str → Option Value} {base : Heap}
/-! ### _law_draw -/
def R_draw : List D → Hp → Pd → Prop := fun ds H P => ∃ (h : Addr) (m : Int), ds = [.obj (.ref h), .int m] ∧ Hand H h ∧ 1 ≤ m ∧ m ≤ 1000000 ∧ P = fun d _ => ∃ r : Int, d = .int r ∧ 0 ≤ r ∧ r < m
/-- the frame of a draw: the hand at h, H0 what stood -/
def Dw (H0 : Hp) (h : Addr) (H : Hp) : Prop := Le H0 H ∧ ∃ c cells p x s n, HandAt H h c cells p x s n
theorem ok_draw (T : Txt mg) (g : GDef K mg "_law_draw" s__law_draw ["_law_hand_here", "_law_many"]) : Def P w K mg base 1 "_law_draw" ["_law_hand_here", "_law_many"] (spD K R_draw) := by
  refine defD g sc__law_draw (fun ds H Pd h => ?_) fun cdv A outer s f H vs ds Pd Q E hr r h q => ?_
  · obtain ⟨h, m, rfl, _⟩ := h
    rfl
  obtain ⟨h, m, rfl, ⟨c, cells, p, x, z, n, a⟩, m1, m2, rfl⟩ := h
  obtain ⟨v1, v2, rfl, r1, r2⟩ := rps2 r
  have e1 := rp_obj r1
  have e2 := rp_int r2
  subst e1 e2
  refine ⟨_, (Evl.pss_cut (ps_if (PW.pt (pw_and (pt_cmpR op_eq (pe_ix ix_list (pv 0) pe_int (fun _ _ => rfl)) pe_int (nomark _)) (pw_and1 (pt_cmpR op_lt (pe_ix ix_list (pv 0) pe_int (fun _ _ => rfl)) (pe_callB call_len_seq (by rfl) T.n_len boot_len (pa_cons (pe_ix ix_list (pv 0) pe_int (fun _ _ => rfl)) pa_nil)) (nomark _)))))
      (pss_cons (ps_set (i := 2) sc__law_draw.nd rfl (Or.inl rfl) (pe_ix ix_list (pe_ix ix_list (pv 0) pe_int (fun _ _ => rfl)) (pe_ix ix_list (pv 0) pe_int (fun _ _ => rfl)) (fun _ _ => rfl)))
    (pss_cons (ps_asg (pe_op op_add (pe_ix ix_list (pv 0) pe_int (fun _ _ => rfl)) pe_int) (pg_sub (pv 0) pe_int set_list))
    (pss_cons (ps_asg (pe_op op_mod (pe_callTy call_int1 (by rfl) T.n_int boot_int (pa_cons (pe_op op_add (pe_op op_add (pe_op op_mul (pe_ix ix_list (pv 0) pe_int (fun _ _ => rfl)) pe_int) (pv 2)) pe_int) pa_nil)) pe_int) (pg_sub (pv 0) pe_int set_list))
    (pss_one (ps_if (pt_cmpR op_ge (pv 2) (pe_op op_pow pe_int pe_int) (nomark _))
      (pss_one (ps_asg (pv 2) (pg_sub (pv 0) pe_int set_list)))
      pss_nil)))))
      pss_nil)
    (pss_cons (ps_if (pt_cmpR op_gt (pe_ix ix_list (pv 0) pe_int (fun _ _ => rfl)) pe_int (nomark _))
      (pss_cons (ps_set (i := 3) sc__law_draw.nd rfl (Or.inl rfl) (pe_op op_modN (pe_callTy call_int1 (by rfl) T.n_int boot_int (pa_cons (pe_ix ix_list (pv 0) pe_int (fun _ _ => rfl)) pa_nil)) (pv 1)))
    (pss_cons (ps_asg (pe_op op_fdivN (pe_ix ix_list (pv 0) pe_int (fun _ _ => rfl)) (pv 1)) (pg_sub (pv 0) pe_int set_list))
    (pss_one (ps_ret (pv 3)))))
      pss_nil)
    (pss_cons (ps_asg (pe_op op_add (pe_ix ix_list (pv 0) pe_int (fun _ _ => rfl)) pe_int) (pg_sub (pv 0) pe_int set_list))
    (pss_cons (ps_set (i := 4) sc__law_draw.nd rfl (Or.inl rfl) (pe_op op_mod (pe_callTy call_int1 (by rfl) T.n_int boot_int (pa_cons (pe_op op_mul (pe_callTy call_int1 (by rfl) T.n_int boot_int (pa_cons (pe_op op_add (pe_ix ix_list (pv 0) pe_int (fun _ _ => rfl)) (pe_op op_mul pe_int (pe_ix ix_list (pv 0) pe_int (fun _ _ => rfl)))) pa_nil)) pe_int) pa_nil)) pe_int))
    (pss_cons (ps_set (i := 4) sc__law_draw.nd rfl (Or.inl rfl) (pe_op op_mod (pe_callTy call_int1 (by rfl) T.n_int boot_int (pa_cons (pe_op op_mul (pv 4) (pe_op op_add (pe_op op_fdiv (pv 4) pe_int) pe_int)) pa_nil)) pe_int))
    (pss_cons (ps_set (i := 4) sc__law_draw.nd rfl (Or.inl rfl) (pe_op op_mod (pe_callTy call_int1 (by rfl) T.n_int boot_int (pa_cons (pe_op op_mul (pv 4) (pe_op op_add (pe_op op_fdiv (pv 4) pe_int) pe_int)) pa_nil)) pe_int))
    (pss_one (ps_ret (pe_op op_modN (pe_callTy call_int1 (by rfl) T.n_int boot_int (pa_cons (pe_op op_fdiv (pv 4) pe_int) pa_nil)) (pv 1)))))))))), ?_⟩
  -- between the first if and the rest
  refine ⟨fun σ H' => (∃ y : Option V, σ = [some (.ref h), some (.int m), y, none, none]) ∧ Dw H h H', ?_, ?_⟩
  · refine ⟨_, rfl, h, _, 2, .int x, rfl, rfl, SqL.of a.hand, atI_nat (j := 2) rfl, rfl, _, rfl, ?_⟩
    refine ite2 (fun c1 => ?_) (fun c1 => ?_)
    · refine ⟨_, rfl, h, _, 1, .int p, rfl, rfl, SqL.of a.hand, atI_nat (j := 1) rfl, _, rfl, h, _, 0, .ref c, rfl, rfl, SqL.of a.hand, atI_nat (j := 0) rfl, c, _, rfl, .inl (SqL.of a.cell), p, _, rfl, rfl, _, rfl, ?_⟩
      refine ite2 (fun c2 => ?_) (fun c2 => ?_)
      · have hp : p.toNat < cells.length := by
          have c3 := of_decide_eq_true c2
          rw [List.length_map] at c3
          have := a.p0
          omega
        obtain ⟨y, hy⟩ : ∃ y, cells[p.toNat]? = some y := ⟨cells[p.toNat], List.getElem?_eq_getElem hp⟩
        have hy0 : 0 ≤ y := a.pos y (List.mem_of_getElem? hy)
        have ep : p = ((p.toNat : Nat) : Int) := by have := a.p0; omega
        have hyV : atI (cells.map V.int) p = some (.int y) := by
          rw [ep]
          exact atI_nat (by rw [List.getElem?_map, hy]; rfl)
        -- cell = hand[0][hand[1]]
        refine ⟨_, rfl, h, _, 0, .ref c, rfl, rfl, SqL.of a.hand, atI_nat (j := 0) rfl, _, rfl, h, _, 1, .int p, rfl, rfl, SqL.of a.hand, atI_nat (j := 1) rfl, c, _, p, .int y, rfl, rfl, SqL.of a.cell, hyV, ?_⟩
        -- hand[1] = hand[1] + 1
        refine ⟨_, rfl, h, _, 1, .int p, rfl, rfl, SqL.of a.hand, atI_nat (j := 1) rfl, p, 1, rfl, rfl, _, rfl, h, _, 1, 1, rfl, rfl, a.hand, rfl, ?_⟩
        obtain ⟨a1, l1⟩ := a.put (p2 := p + 1) (x2 := x) (s2 := z) (n2 := n) (by have := a.p0; omega) a.x0
        -- hand[3] = int(hand[3] * 69621 + cell + 11) % 2147483629
        refine ⟨_, rfl, h, _, 3, .int z, rfl, rfl, SqL.of a1.hand, atI_nat (j := 3) rfl, z, 69621, rfl, rfl, .inr ⟨by decide, by decide⟩, _, rfl, _, y, rfl, rfl, _, 11, rfl, rfl, .inl ⟨_, rfl, _, 2147483629, rfl, rfl, (by show (0 : Int) < 2147483629; decide), _, rfl, h, _, 3, 3, rfl, rfl, a1.hand, rfl, ?_⟩⟩
        obtain ⟨a2, l2⟩ := a1.put (p2 := p + 1) (x2 := x) (s2 := (z * 69621 + y + 11) % 2147483629) (n2 := n) (by have := a.p0; omega) a.x0
        -- if cell >= 10 ** 18: hand[2] = cell
        refine ⟨_, rfl, 10, 18, rfl, rfl, ⟨by decide, by decide, by decide⟩, y, _, rfl, rfl, _, rfl, ?_⟩
        refine ite2 (fun c3 => ?_) (fun c3 => ?_)
        · refine ⟨_, rfl, _, rfl, h, _, 2, 2, rfl, rfl, a2.hand, rfl, ?_⟩
          obtain ⟨a3, l3⟩ := a2.put (p2 := p + 1) (x2 := y) (s2 := (z * 69621 + y + 11) % 2147483629) (n2 := n) (by have := a.p0; omega) hy0
          exact ⟨⟨_, rfl⟩, (l1.trans l2).trans l3, c, cells, _, _, _, _, a3⟩
        · exact ⟨⟨_, rfl⟩, l1.trans l2, c, cells, _, _, _, _, a2⟩
      · exact ⟨⟨none, rfl⟩, Le.refl _, c, cells, _, _, _, _, a⟩
    · exact ⟨⟨none, rfl⟩, Le.refl _, c, cells, _, _, _, _, a⟩
  · clear a
    rintro σ H1 ⟨⟨y, rfl⟩, l0, c, cells, p, x, z, n, a⟩
    -- if hand[2] > 0
    refine ⟨_, rfl, h, _, 2, .int x, rfl, rfl, SqL.of a.hand, atI_nat (j := 2) rfl, x, 0, rfl, rfl, _, rfl, ?_⟩
    refine ite2 (fun c1 => ?_) (fun c1 => ?_)
    · have hx0 : (0 : Int) < x := of_decide_eq_true c1
      refine ⟨_, rfl, h, _, 2, .int x, rfl, rfl, SqL.of a.hand, atI_nat (j := 2) rfl, .inl ⟨x, rfl, _, rfl, x, m, rfl, rfl, by omega, ?_⟩⟩
      refine ⟨_, rfl, h, _, 2, .int x, rfl, rfl, SqL.of a.hand, atI_nat (j := 2) rfl, _, rfl, x, m, rfl, rfl, ⟨by omega, by omega⟩, _, rfl, h, _, 2, 2, rfl, rfl, a.hand, rfl, ?_⟩
      obtain ⟨a1, l1⟩ := a.put (p2 := p) (x2 := x.fdiv m) (s2 := z) (n2 := n) a.p0 (by
        rw [Int.fdiv_eq_ediv_of_nonneg _ (by omega)]
        exact Int.ediv_nonneg (by omega) (by omega))
      refine ⟨_, rfl, ?_⟩
      refine q _ (.int (x.fmod m)) _ (l0.trans l1) ⟨_, rfl, ?_⟩ (.int _)
      rw [Int.fmod_eq_emod_of_nonneg _ (by omega)]
      exact ⟨Int.emod_nonneg _ (by omega), Int.emod_lt_of_pos _ (by omega)⟩
    · -- hand[4] = hand[4] + 1
      refine ⟨_, rfl, h, _, 4, .int n, rfl, rfl, SqL.of a.hand, atI_nat (j := 4) rfl, n, 1, rfl, rfl, _, rfl, h, _, 4, 4, rfl, rfl, a.hand, rfl, ?_⟩
      obtain ⟨a1, l1⟩ := a.put (p2 := p) (x2 := x) (s2 := z) (n2 := n + 1) a.p0 a.x0
      -- number = int(int(hand[3] + 7919 * hand[4]) * 48271) % 2147483647
      refine ⟨_, rfl, h, _, 3, .int z, rfl, rfl, SqL.of a1.hand, atI_nat (j := 3) rfl, _, rfl, h, _, 4, .int (n + 1), rfl, rfl, SqL.of a1.hand, atI_nat (j := 4) rfl, 7919, n + 1, rfl, rfl, .inl ⟨by decide, by decide⟩, z, _, rfl, rfl, .inl ⟨_, rfl, _, 48271, rfl, rfl, .inr ⟨by decide, by decide⟩, .inl ⟨_, rfl, _, 2147483647, rfl, rfl, (by show (0 : Int) < 2147483647; decide), ?_⟩⟩⟩
      obtain ⟨u, eu⟩ : ∃ u : Int, u = (z + 7919 * (n + 1)) * 48271 % 2147483647 := ⟨_, rfl⟩
      have hu : 0 ≤ u ∧ u < 2147483647 := by omega
      have ev : ((fun i j => V.int (i % j)) ((z + 7919 * (n + 1)) * 48271) 2147483647 : V) = V.int u := by rw [eu]
      rw [ev]
      refine ⟨_, rfl, _, rfl, u, 1009, rfl, rfl, ⟨by decide, by decide⟩, _, 69621, rfl, rfl, u, _, rfl, rfl, .inl ⟨by omega, by omega⟩, .inl ⟨_, rfl, _, 2147483647, rfl, rfl, (by show (0 : Int) < 2147483647; decide), ?_⟩⟩
      obtain ⟨u2, eu2⟩ : ∃ u2 : Int, u2 = u * (u / 1009 + 69621) % 2147483647 := ⟨_, rfl⟩
      have hu2 : 0 ≤ u2 ∧ u2 < 2147483647 := by
        rw [eu2]
        exact ⟨Int.emod_nonneg _ (by decide), Int.emod_lt_of_pos _ (by decide)⟩
      have ev2 : ((fun i j => V.int (i % j)) (u * (u / 1009 + 69621)) 2147483647 : V) = V.int u2 := by rw [eu2]
      rw [ev2]
      refine ⟨_, rfl, _, rfl, u2, 2003, rfl, rfl, ⟨by decide, by decide⟩, _, 40692, rfl, rfl, u2, _, rfl, rfl, .inl ⟨by omega, by omega⟩, .inl ⟨_, rfl, _, 2147483399, rfl, rfl, (by show (0 : Int) < 2147483399; decide), ?_⟩⟩
      obtain ⟨u3, eu3⟩ : ∃ u3 : Int, u3 = u2 * (u2 / 2003 + 40692) % 2147483399 := ⟨_, rfl⟩
      have ev3 : ((fun i j => V.int (i % j)) (u2 * (u2 / 2003 + 40692)) 2147483399 : V) = V.int u3 := by rw [eu3]
      rw [ev3]
      refine ⟨_, rfl, u3, 16, rfl, rfl, ⟨by decide, by decide⟩, .inl ⟨_, rfl, _, rfl, _, m, rfl, rfl, by omega, ?_⟩⟩
      refine q _ (.int ((u3 / 16).fmod m)) _ (l0.trans l1) ⟨_, rfl, ?_⟩ (.int _)
      rw [Int.fmod_eq_emod_of_nonneg _ (by omega)]
      exact ⟨Int.emod_nonneg _ (by omega), Int.emod_lt_of_pos _ (by omega)⟩
end
end W1

set_option maxRecDepth 100000
set_option maxHeartbeats 4000000
namespace W1
open PySem PyProof.Rows L2
local macro_rules | `(tactic| walk_at "rp") => `(tactic| first | assumption | exact Rp.int _ | exact Rp.bl _ | exact Rp.str _ | exact Rp.non | exact Rp.obj _ | (refine Rp.le (by assumption) ?_; walk_at "rp"))
local macro_rules | `(tactic| walk_at "ed") => `(tactic| first
  | exact ed_int | exact ed_str | exact ed_bl | exact ed_non
  | (refine ed_var rfl ?_; walk_at "rp")
  | (refine ed_ixT (ds := [_, _]) ?_ ed_int (by decide) rfl; walk_at "ed")
  | (refine ed_I0 ?_ ?_ <;> walk_at "ed")
  | (refine ed_B0 ?_ ?_ <;> walk_at "ed")
  | (refine ed_eqS ?_ ?_ rfl rfl rfl <;> walk_at "ed")
  | assumption)
local macro_rules | `(tactic| walk_at "ea") => `(tactic| first | exact ea_nil | (refine ea_cons ?_ ?_; walk_at "ed"; walk_at "ea"))

abbrev s__law_hand : Stmt := topS 40
abbrev N__law_hand : List Str := ["_law_script", "_law_cells", "_law_cell"]
theorem sc__law_hand : FnScope N__law_hand ["_law_script"] (defScope s__law_hand) := ⟨rfl, rfl, rfl, by decide +kernel, rfl, by decide +kernel, by decide +kernel⟩
abbrev s__law_any : Stmt := topS 42
abbrev N__law_any : List Str := ["_law_hand_here", "_law_items"]
theorem sc__law_any : FnScope N__law_any ["_law_hand_here", "_law_items"] (defScope s__law_any) := ⟨rfl, rfl, rfl, by decide +kernel, rfl, by decide +kernel, by decide +kernel⟩
section
variable {P : Program} {w : World} {K : PySem.W.Frag} {mg : Str → Option Value} {base : Heap}
/-! ### _law_hand -/
theorem Le.sqlI {H H' : Hp} {a : Addr} {ns : List Int} (e : Le H H') (h : SqL K H a (ns.map V.int)) : SqL K H' a (ns.map V.int) := by
  rcases h with (h | ⟨o, h⟩) | h
  · exact .inl (.inl (e.lst h (notH_ints _)))
  · exact .inl (.inr ⟨o, e.frz h⟩)
  · exact .inr h
theorem ed_slS {σ : L2.St} {H : Hp} {i : Nat} {a : Addr} {ns : List Int} {m : Int} (h : σ[i]? = some (some (.ref a))) (hs : SqL K H a (ns.map V.int)) : ED K (tSl (rSlL K) (tVar i) tNoPart (tPart (tC (.int m)))) σ H (.lst ((cutG ns none (some m)).map .int)) := fun H1 e Q q => by
  have ec : cutV (ns.map V.int) none (some m) = (cutG ns none (some m)).map V.int := by
    unfold cutV cutG
    rw [List.length_map, List.map_take, List.map_drop]
  refine ⟨_, h, m, rfl, a, _, rfl, e.sqlI hs, fun p np => ?_⟩
  rw [ec]
  exact q _ _ _ (Le.new np) rfl (.lst upd_same (notH_ints _) (rps_ints _))
def R_hand (K : PySem.W.Frag) : List D → Hp → Pd → Prop := fun ds H P => ∃ (a : Addr) (ns : List Int), ds = [.obj (.ref a)] ∧ SqL K H a (ns.map V.int) ∧ ns.length ≤ 63 ∧ P = fun d H2 => ∃ h, d = .obj (.ref h) ∧ Hand H2 h
theorem ok_hand (T : Txt mg) (g : GDef K mg "_law_hand" s__law_hand ["_law_script"]) : Def P w K mg base 1 "_law_hand" ["_law_script"] (spD K (R_hand K)) := by
  refine defD g sc__law_hand (fun ds H Pd h => ?_) fun cdv A outer s f H vs ds Pd Q E hr r h q => ?_
  · obtain ⟨a, ns, rfl, _⟩ := h
    rfl
  obtain ⟨a, ns, rfl, hS, hl, rfl⟩ := h
  obtain ⟨v1, rfl, r1⟩ := rps1 r
  have e1 := rp_obj r1
  subst e1
  refine ⟨_, (pss_cons (ps_setLc (i := 1) (own := [("_law_cell", 2)]) rfl sc__law_hand.nd rfl rfl (sw_true rfl rfl rfl (by decide +kernel)) (kpi_list (K := K) (pe_slice (ksl_list (K := K)) (pv 0) po_none (po_some pe_int))) (blkOk_by (N := N__law_hand) (sc := defScope s__law_hand) (by decide +kernel)) (fun _ _ _ _ _ => (pg_name (i := 2) sc__law_hand.nd rfl (Or.inl rfl))) (fun _ _ _ _ _ => pts_nil) (fun _ _ _ _ _ => (pe_callB call_abs (by rfl) T.n_abs boot_abs (pa_cons (pe_callTy call_int1 (by rfl) T.n_int boot_int (pa_cons (pv 2) pa_nil)) pa_nil))))
    (pss_one (ps_ret (pe_lst (pa_cons (pv 1) (pa_cons pe_int (pa_cons pe_int (pa_cons (pe_op op_add pe_int (pe_callB (kc_len (K := K)) (by rfl) T.n_len boot_len (pa_cons (pv 1) pa_nil))) (pa_cons pe_int pa_nil))))))))), ?_⟩
  refine q_asgD (ed_lcL enc_int (encS := .int) (cutG ns none (some 63)) (fun _ => true) (fun z => if z < 0 then -z else z) (ed_slS rfl hS) ?_ (fun _ => rfl) (fun b v H1 e _ r => et_yes) (fun b v H1 e _ r _ => ed_abs (ed_int1 (ed_var rfl r)))) fun v H1 e1 r1 => ?_
  · rw [cutG_hi _ _ (by decide)]
    exact Nat.le_trans (List.length_take_le' _ _) (by omega)
  rw [List.filter_eq_self.mpr (fun _ _ => rfl)] at r1
  generalize hz : (cutG ns none (some 63)).map (fun z => if z < 0 then -z else z) = zs at r1
  obtain ⟨c, xs, rfl, hc, nh, rr⟩ := rp_lst r1
  have ex := ints_rps rr
  subst ex
  refine s_ret (P := fun d H2 => ∃ h, d = .obj (.ref h) ∧ Hand H2 h) ?_ fun v d H2 e2 p r2 => q v d H2 (e1.trans e2) p r2
  intro H2 e2 Q' q'
  have hc2 := e2.lst hc (notH_ints _)
  refine ⟨_, rfl, _, rfl, c, _, rfl, .inl (SqL.of hc2), _, _, rfl, rfl, (by show 5 ≤ sizeLine; decide), fun p np => ?_⟩
  have hcp : c ≠ p := ne_of_none hc2 np
  refine q' _ (.obj (.ref p)) _ (Le.new np) ⟨p, rfl, c, zs, 0, 0, _, 0, upd_same, by rw [upd_ne hcp]; exact hc2, by decide, by decide, fun z hz2 => ?_⟩ (.obj _)
  rw [← hz] at hz2
  obtain ⟨y, _, rfl⟩ := List.mem_map.mp hz2
  by_cases hy : y < 0
  · rw [if_pos hy]; omega
  · rw [if_neg hy]; omega
/-! ### _law_any -/
def R_any : List D → Hp → Pd → Prop := fun ds H P => ∃ (h : Addr) (xs : List D), ds = [.obj (.ref h), .lst xs] ∧ Hand H h ∧ xs ≠ [] ∧ xs.length ≤ 100000 ∧ P = fun d _ => d ∈ xs
theorem ep_draw {σ : L2.St} {H : Hp} {E : XK} {h : Addr} {m : Int} {ta : TA} (hh : Hand H h) (ha : EDA K ta σ H [.obj (.ref h), .int m]) (h1 : 1 ≤ m ∧ m ≤ 1000000) : EP K (tCall (spD K R_draw) [] E ta) σ H (fun d _ => ∃ r : Int, d = .int r ∧ 0 ≤ r ∧ r < m) :=
  ed_call ha fun H2 e => ⟨h, m, rfl, hh.le e, h1.1, h1.2, rfl⟩
theorem ok_any (T : Txt mg) (g : GDef K mg "_law_any" s__law_any ["_law_hand_here", "_law_items"]) (G_law_draw : Def P w K mg base 1 "_law_draw" ["_law_hand_here", "_law_many"] (spD K R_draw)) :
    Def P w K mg base 2 "_law_any" ["_law_hand_here", "_law_items"] (spD K R_any) := by
  refine defD g sc__law_any (fun ds H Pd h => ?_) fun cdv A outer s f H vs ds Pd Q E hr r h q => ?_
  · obtain ⟨h, xs, rfl, _⟩ := h
    rfl
  obtain ⟨h, xs, rfl, hh, hne, hl, rfl⟩ := h
  obtain ⟨v1, v2, rfl, r1, r2⟩ := rps2 r
  refine ⟨_, (pss_one (ps_ret (pe_ix (kix_list (K := K)) (pv 1) (pe_def G_law_draw (hr.mono (by decide)) (pa_cons (pv 0) (pa_cons (pe_callB (kc_len (K := K)) (by rfl) T.n_len boot_len (pa_cons (pv 1) pa_nil)) pa_nil))) (fun _ _ => rfl)))), ?_⟩
  have hlen : 1 ≤ (xs.length : Int) ∧ (xs.length : Int) ≤ 1000000 := by
    have : xs.length ≠ 0 := fun e => hne (List.eq_nil_of_length_eq_zero e)
    omega
  refine s_ret (P := fun d _ => d ∈ xs) ?_ q
  refine ep_op (P1 := is (.lst xs)) (P2 := fun d _ => ∃ r : Int, d = .int r ∧ 0 ≤ r ∧ r < xs.length) (ed_var rfl r2) ?_ ?_
  · exact ep_draw hh (ea_cons (ed_var rfl r1) (ea_cons (ed_lenL (ed_var rfl r2)) ea_nil)) hlen
  · rintro x y d1 d2 H1 H2 _ _ rfl ⟨i, rfl, h0, h1⟩ q1 q2 Q' q'
    obtain ⟨a, us, rfl, s, nh, rr⟩ := rp_lst q1
    have hi : xs[i.toNat]? = some xs[i.toNat] := List.getElem?_eq_getElem (by omega)
    obtain ⟨v, h3, h4⟩ := atI_rps rr h0 hi
    exact ⟨a, us, i, v, rfl, rp_int q2, SqL.of s, h3, q' v _ H2 (Le.refl _) (List.getElem_mem _) h4⟩
end
end W1

set_option maxRecDepth 100000
set_option maxHeartbeats 4000000
/-! own rules: zip of a tuple and a list; a tuple from behind -/
namespace L2
open PySem PySem.Spec PyProof.Rows
/-- the tuple at a and the list at b side by side, the items of each turn in a new pair -/
def IzTL (K : PySem.W.Frag) (a b : Addr) : It where
  go := fun i H => ∃ (xs ys : List V) (x y : V), SqT K H a xs ∧ SqL K H b ys ∧ xs[i]? = some x ∧ ys[i]? = some y
  yld := fun i H v H' => ∃ T x y, v = .ref T ∧ H T = none ∧ H' = upd H T (.tup [x, y]) ∧ (∀ xs, SqT K H a xs → xs[i]? = some x) ∧ ∀ ys, SqL K H b ys → ys[i]? = some y
  stop := fun i H => ∃ xs ys : List V, SqT K H a xs ∧ SqL K H b ys ∧ (xs.length ≤ i ∨ ys.length ≤ i) ∧ i ≤ xs.length ∧ i ≤ ys.length
theorem sqt_inj {X : Cx} {pins : List (Addr × Obj)} {σ : L2.St} {H : Hp} {s : Shared} {a : Addr} {xs ys : List V} (I : Inv X pins σ H s) (h1 : SqT X.K H a xs) (h2 : SqT X.K H a ys) : xs = ys := I.tuple_inj h1 h2
theorem turn_zTL {P : Program} {w : World} {K : PySem.W.Frag} {elts : List Expr} {kk : Nat} {tp : Pos} {a b z TI TO i1 i2 : Addr} (S : ZipSep2 z TI TO i1 i2 [i1, a] [i2, b]) (ha : a ≠ i1) (hb : b ≠ i2) :
    Turn P w K (.Tuple elts kk tp) (IzTL K a b) [z, TI, TO, i1, i2] z (fun i h => IsZip h z TI TO .none ∧ IsTupOf2 h TI (.ref i1) (.ref i2) ∧ (∃ x y, IsTupOf2 h TO x y) ∧ h.IsTupleIter i1 a i ∧ h.IsListIter i2 b i) := by
  refine ⟨by simp, ?_, ?_, ?_, ?_, ?_⟩
  · rintro i h ⟨g1, g2, ⟨x, y, g3⟩, ⟨o4, g4, _, k4⟩, ⟨o5, g5, _, k5⟩⟩ c hc
    simp only [List.mem_cons, List.not_mem_nil, or_false] at hc
    rcases hc with rfl | rfl | rfl | rfl | rfl
    · exact ⟨_, g1, fun v q => nomatch q⟩
    · exact ⟨_, g2, fun v q => nomatch q⟩
    · exact ⟨_, g3, fun v q => nomatch q⟩
    · exact ⟨o4, g4, fun v q => by rw [k4] at q; cases q⟩
    · exact ⟨o5, g5, fun v q => by rw [k5] at q; cases q⟩
  · rintro i h h' ⟨g1, g2, ⟨x, y, g3⟩, g4, g5⟩ k
    exact ⟨k _ (by simp) _ g1, k _ (by simp) _ g2, ⟨x, y, k _ (by simp) _ g3⟩, g4.at fun o q => k _ (by simp) o q, g5.at fun o q => k _ (by simp) o q⟩
  · intro X hP hw hK hc i pins s σ H E I hf st hg
    subst hP hw hK
    obtain ⟨g1, g2, ⟨x0, y0, g3⟩, g4, g5⟩ := st
    obtain ⟨xs, ys, x, y, hqx, hqy, hx, hy⟩ := hg
    obtain ⟨its, rv, pt, _⟩ := I.tuple hqx
    obtain ⟨jts, rw', pl, _⟩ := I.list hqy
    have hzl : z < s.heap.objs.size := Heap.lt_size g1
    have hn : X.A.in1.handled = none := by
      have h0 := I.ok.hd hc
      simpa using h0
    have in1 : i < its.toArray.size := by
      have h2 := (List.getElem?_eq_some_iff.mp hx).1
      have h3 := rv.length
      simpa [← h3] using h2
    have in2 : i < jts.toArray.size := by
      have h2 := (List.getElem?_eq_some_iff.mp hy).1
      have h3 := rw'.length
      simpa [← h3] using h2
    refine wpAny_pyNext_zipD2_item S (Draws.tuple hn i1 a ha its.toArray) (Draws.list hn i2 b hb jts.toArray) g1 g2 g3 ⟨g4, isTup_isTuple pt⟩ ⟨g5, pl.isList⟩ in1 in2 fun u1 u2 h' tk hu1 hu2 z' TO' s1' s2' hT hsz hk => ?_
    refine ⟨_, rfl, wpAny_letOwnedTupleGo_zip (s := { s with heap := h', toks := tk }) z' fun h2 z2 sb => ?_⟩
    have hT2 : h2.get? s.heap.objs.size = some { cls := .type "tuple", data := .seq #[u1, u2] } := (sb.2 _ (Nat.ne_of_gt hzl)).trans hT
    obtain ⟨w1, hw1, ru1⟩ := rv.get hx
    obtain ⟨w2, hw2, ru2⟩ := rw'.get hy
    have e1 : u1 = w1 := by
      have h3 : its.toArray[i]? = some w1 := by simpa using hw1
      exact Option.some.inj (hu1.symm.trans h3)
    have e2 : u2 = w2 := by
      have h3 : jts.toArray[i]? = some w2 := by simpa using hw2
      exact Option.some.inj (hu2.symm.trans h3)
    subst e1 e2
    have nw : ObjOk X.prog X.w (upd H s.heap.objs.size (.tup [x, y])) h2 s.heap.objs.size (.tup [x, y]) := by
      refine ⟨?_, [u1, u2], .cons ru1 (.cons ru2 .nil), ?_⟩
      · show 2 ≤ sizeLine
        decide
      · exact ⟨_, hT2, rfl, _, rfl⟩
    have nz : ∀ c, c ∉ [z, TI, TO, i1, i2] → c ≠ z ∧ c ≠ TO ∧ c ≠ i1 ∧ c ≠ i2 := fun c hc => ⟨fun q => hc (by simp [q]), fun q => hc (by simp [q]), fun q => hc (by simp [q]), fun q => hc (by simp [q])⟩
    have I1 : Inv X pins σ (upd H s.heap.objs.size (.tup [x, y])) { s with heap := h2, toks := tk } := by
      refine I.turnedNew (ch := [z, TI, TO, i1, i2]) (fun c o hb q => ?_) hf (Nat.le_refl _) nw
      obtain ⟨n1, n2, n3, n4⟩ := nz c hb
      exact (sb.2 c n1).trans (hk c o n1 n2 n3 n4 q)
    refine ⟨.ref s.heap.objs.size, _, I1, rfl, ⟨_, x, y, rfl, I.hok.fresh (Nat.le_refl _), rfl, fun l hl => ?_, fun l hl => ?_⟩, ⟨z2, ?_, ⟨u1, u2, ?_⟩, ?_, ?_⟩, fun c hcm => ?_⟩
    · rw [sqt_inj I hl hqx]
      exact hx
    · rw [I.list_inj hl hqy]
      exact hy
    · exact (sb.2 _ S.TIz).trans (hk _ _ S.TIz S.TITO S.TIi1 S.TIi2 g2)
    · exact (sb.2 _ S.TOz).trans TO'
    · exact s1'.1.at fun o q => (sb.2 i1 (Ne.symm S.zi1)).trans q
    · exact s2'.1.at fun o q => (sb.2 i2 (Ne.symm S.zi2)).trans q
    · have hlt : c < s.heap.objs.size := by
        simp only [List.mem_cons, List.not_mem_nil, or_false] at hcm
        obtain ⟨o4, q4, _⟩ := g4
        obtain ⟨o5, q5, _⟩ := g5
        rcases hcm with rfl | rfl | rfl | rfl | rfl
        · exact hzl
        · exact Heap.lt_size g2
        · exact Heap.lt_size g3
        · exact Heap.lt_size q4
        · exact Heap.lt_size q5
      rw [upd_ne (Nat.ne_of_lt hlt)]
      exact (hf c hcm).1
  · intro X hP hw hK hc i pins s σ H E I hf st hg
    subst hP hw hK
    obtain ⟨g1, g2, ⟨x0, y0, g3⟩, g4, g5⟩ := st
    obtain ⟨xs, ys, hqx, hqy, hend, l1, l2⟩ := hg
    obtain ⟨its, rv, pt, _⟩ := I.tuple hqx
    obtain ⟨jts, rw', pl, _⟩ := I.list hqy
    have hn : X.A.in1.handled = none := by
      have h0 := I.ok.hd hc
      simpa using h0
    have e1 : its.toArray.size = xs.length := by simp [← rv.length]
    have e2 : jts.toArray.size = ys.length := by simp [← rw'.length]
    refine wpAny_pyNext_zipD2_end S (Draws.tuple hn i1 a ha its.toArray) (Draws.list hn i2 b hb jts.toArray) g1 g2 g3 ⟨g4, isTup_isTuple pt⟩ ⟨g5, pl.isList⟩ (by omega) (by omega) (by omega) fun h' tk hk => ⟨rfl, ?_⟩
    exact I.turnedL (t' := tk) (ch := [z, TI, TO, i1, i2]) (fun c o hb q => hk c o (fun e => hb (by simp [e])) (fun e => hb (by simp [e])) (fun e => hb (by simp [e])) (fun e => hb (by simp [e])) q) hf
  · rintro A i s Q E ⟨g1, _⟩ h
    exact wpAny_pyIter_zip g1 h
def iZTL (K : PySem.W.Frag) (ta : TA) : TI := fun σ H R => ta σ H fun vs H1 => ∃ a b xs ys, vs = [.ref a, .ref b] ∧ SqT K H1 a xs ∧ SqL K H1 b ys ∧ R (IzTL K a b) H1
theorem pi_zTL {X : Cx} {e e2 : Expr} {ta : TA} {p pos tp : Pos} {elts : List Expr} {kk : Nat} (hg : Gl X "zip") (hm : X.mg "zip" = none) (ha : PA X [e, e2] ta)
    (hs : starEach [e, e2] X.env = (false, eval e X.env) :: starEach [e2] X.env := by rfl) (hpl : (backTo pos (starEach [e2] X.env)).any (·.1) = false := by rfl) :
    PI X (.Tuple elts kk tp) (.Call (.Name "zip" p) [e, e2] [] pos) (iZTL X.K ta) := by
  constructor
  intro pins s σ H R I h
  refine Call_ (ld_blt I hg hm boot_zip ?_)
  refine PyProof.Rows.callWith_type1 (thn (ha.run pos pins s σ H _ I h) fun us s1 hh => ?_) hs hpl
  obtain ⟨vs, H1, I1, r1, a, b, xs, ys, rfl, hqx, hqy, q⟩ := hh
  cases r1 with
  | cons r rr =>
    cases rr with
    | cons r' rr =>
      cases rr
      cases r
      cases r'
      obtain ⟨its, rv, pt, _⟩ := I1.tuple hqx
      obtain ⟨jts, rw', pl, _⟩ := I1.list hqy
      have la : a < s1.heap.objs.size := by
        obtain ⟨o, ho, _⟩ := pt
        exact Heap.lt_size ho
      have lb : b < s1.heap.objs.size := pl.lt
      refine zip_begins2 (begins_tuple a its.toArray) (begins_list b jts.toArray) (isTup_isTuple pt) pl.isList fun h' y1 y2 y3 y4 y5 y6 hk => ?_
      refine wpAny_pyIter_zip y1 ?_
      have I2 : Inv X pins σ H1 { s1 with heap := h' } := I1.kept (t' := s1.toks) hk
      have S : ZipSep2 (s1.heap.objs.size + 4) (s1.heap.objs.size + 2) (s1.heap.objs.size + 3) s1.heap.objs.size (s1.heap.objs.size + 1) [s1.heap.objs.size, a] [s1.heap.objs.size + 1, b] := zip_sep2 (fp1 := [a]) (fp2 := [b]) (fun c hc => by rw [List.mem_singleton.mp hc]; exact la) (fun c hc => by rw [List.mem_singleton.mp hc]; exact lb)
      refine ⟨s1.heap.objs.size + 4, [s1.heap.objs.size + 4, s1.heap.objs.size + 2, s1.heap.objs.size + 3, s1.heap.objs.size, s1.heap.objs.size + 1], _, _, H1, rfl, I2, turn_zTL S (Nat.ne_of_lt la) (Nat.ne_of_lt (Nat.lt_succ_of_lt lb)), ⟨y1, y2, ⟨_, _, y3⟩, ⟨_, y4, rfl, rfl⟩, ⟨_, y5, rfl, rfl⟩⟩, fun c hc => ?_, q⟩
      have hle : s1.heap.objs.size ≤ c := by
        simp only [List.mem_cons, List.not_mem_nil, or_false] at hc
        rcases hc with rfl | rfl | rfl | rfl | rfl <;> first | exact Nat.le_refl _ | exact Nat.le_add_right _ _
      exact I1.fpOk hle (I1.hok.fresh hle)
theorem walk_zTL {K : PySem.W.Frag} {a b : Addr} {xs ys : List V} (hl : xs.length = ys.length) : Walk (IzTL K a b) xs.length (fun H => SqT K H a xs ∧ SqL K H b ys) (YPair (fun i => xs[i]?) (fun i => ys[i]?)) := by
  constructor
  · intro i H hi q
    have h2 : i < ys.length := by omega
    exact ⟨xs, ys, xs[i], ys[i], q.1, q.2, by simp [hi], by simp [h2]⟩
  · intro H q
    exact ⟨xs, ys, q.1, q.2, .inl (Nat.le_refl _), Nat.le_refl _, by omega⟩
  · rintro i H v H' _ q ⟨T, x, y, h1, h2, h3, h4, h5⟩
    exact ⟨T, x, y, h1, h2, h3, h4 xs q.1, h5 ys q.2⟩

/-! ### a tuple from behind -/
section
variable {P : Program} {w : World} {A : Around} {E : Value → Shared → Prop} {s : Shared}
theorem back_adjust (n : Nat) : Builtin.Slice.sliceAdjust none none (-1) (n : Int) = ((n : Int) - 1, -1) := by
  unfold Builtin.Slice.sliceAdjust
  rfl
theorem back_places (n : Nat) : Builtin.Slice.slicePlaces ((n : Int) - 1) (-1) (-1) = n := by
  unfold Builtin.Slice.slicePlaces
  rw [if_neg (by decide)]
  by_cases hn : (n : Int) - 1 > -1
  · rw [if_pos hn]
    have e : -(-1 : Int) = 1 := by decide
    rw [e, Int.ediv_one]
    omega
  · rw [if_neg hn]
    omega
theorem back_items {α : Type} (xs : Array α) : ((List.range xs.size).filterMap fun (m : Nat) => xs[((xs.size : Int) - 1 + (m : Int) * (-1)).toNat]?) = xs.toList.reverse := by
  apply List.ext_getElem?
  intro i
  have h0 : ∀ n, n ≤ xs.size → ((List.range n).filterMap fun (m : Nat) => xs[((xs.size : Int) - 1 + (m : Int) * (-1)).toNat]?) = (xs.toList.reverse).take n := by
    intro n
    induction n with
    | zero => intro _; simp
    | succ n ih =>
      intro hn
      have hi : n < xs.toList.reverse.length := by simp; omega
      rw [List.range_succ, List.filterMap_append, ih (by omega), List.take_add_one, List.getElem?_eq_getElem hi]
      congr 1
      have e : ((xs.size : Int) - 1 + (n : Int) * (-1)).toNat = xs.size - 1 - n := by omega
      have e2 : xs[xs.size - 1 - n]? = some (xs.toList.reverse[n]) := by
        rw [Array.getElem?_eq_getElem (by omega)]
        simp
      show List.filterMap _ [n] = _
      rw [List.filterMap_cons, e, e2]
      rfl
  rw [h0 xs.size (Nat.le_refl _), List.take_of_length_le (by simp)]
theorem tup_back {t c : Addr} {its : Array Value} {v : Value} {Q : Value → Shared → Prop} (qt : IsTup s.heap t its) (qs : s.heap.IsSliceOf c .none .none v) (pv : IsPart v (some (-1))) (hz : its.size ≤ sizeLine)
    (h : Q (.ref s.heap.objs.size) { s with heap := s.heap.push { cls := .type "tuple", data := .seq its.toList.reverse.toArray } }) : wpAny (model P w) A (getItem (.ref t) (.ref c)) Q E s := by
  have zl : sizeOk (.seq its.toList.reverse.toArray) := by
    show its.toList.reverse.toArray.size ≤ sizeLine
    simpa using hz
  obtain ⟨oc, gc, cc, dc⟩ := id qs
  have yc : s.TypeIs (.ref c) "slice" := ⟨oc, gc, cc⟩
  have ac : wpAny (model P w) A.in1 (Builtin.Slice.sliceApplied (.ref c) (pure (its.size : Int))) (fun r s1 => r = ((its.size : Int) - 1, (-1 : Int), its.size) ∧ s1 = s) (fun _ _ => False) s := by
    unfold Builtin.Slice.sliceApplied Builtin.Slice.sliceFields
    refine wpAny_bind (wpAny_bind (wpAny_field gc dc (x := .none) rfl (wpAny_bind (wpAny_field gc dc (x := .none) rfl (wpAny_bind (wpAny_field gc dc (x := v) rfl (wpAny_pure ?_)))))))
    refine wpAny_bind (HT.slicePart_ pv ?_)
    show wpAny _ _ (if ((-1 : Int) == 0) = true then _ else _) _ _ _
    rw [if_neg (by decide)]
    refine wpAny_bind (HT.slicePart_ .none (wpAny_bind (HT.slicePart_ .none (wpAny_bind (wpAny_pure ?_)))))
    show wpAny _ _ (match Builtin.Slice.sliceAdjust none none (-1) (its.size : Int) with | (lo, hi) => pure (lo, (-1 : Int), Builtin.Slice.slicePlaces lo hi (-1))) _ _ _
    rw [back_adjust]
    show wpAny _ _ (pure ((its.size : Int) - 1, (-1 : Int), Builtin.Slice.slicePlaces ((its.size : Int) - 1) (-1) (-1))) _ _ _
    rw [back_places]
    exact wpAny_pure ⟨rfl, rfl⟩
  unfold getItem
  try with_reducible refine wpAny_holding ?_
  first | refine wpAny_bind (wpAny_pure ?_) | skip
  refine wpAny_bind (wpAny_sequenceKey qt.typeIs (by decide) ?_)
  refine wpAny_bind (wpAny_callSpecial?_slot (name := Str.ofString "__getitem__") qt.typeIs slot_tuple_getitem (wpAny_call_entry slot_tuple_getitem qt.typeIs entry_tuple_getitem ?_ (args_tuple_getitem _ _)))
  show wpAny _ _ (Builtin.Tuple.tupleItemsOf (.ref t) >>= _) _ _ _
  refine wpAny_bind (tupleItemsOf_ qt ?_)
  refine wpAny_bind (wpAny_typeOf yc ?_)
  rw [if_pos (by decide)]
  refine wpAny_bind (wpAny_mono ac (fun r s1 hr => ?_) fun _ _ z => z.elim)
  obtain ⟨rfl, rfl⟩ := hr
  show wpAny _ _ (if (((its.size : Int) - 1) == 0 && (-1 : Int) == 1 && its.size == its.size) = true then _ else _) _ _ _
  rw [if_neg (by simp), back_items]
  first
    | exact wpAny_bind (m := Builtin.Tuple.tupleExact _) (wpAny_newObj_type (wpAny_pure ⟨_, rfl, wpAny_pure h⟩) zl)
    | exact wpAny_bind (m := Builtin.Tuple.tupleExact _) (wpAny_newObj_type (wpAny_bind (wpAny_pure (wpAny_pure ⟨_, rfl, wpAny_pure h⟩))) zl)
    | exact wpAny_bind (wpAny_bind (m := Builtin.Tuple.tupleExact _) (wpAny_newObj_type (wpAny_pure (wpAny_pure ⟨_, rfl, wpAny_pure h⟩)) zl))
    | exact wpAny_bind (wpAny_bind (m := Builtin.Tuple.tupleExact _) (wpAny_newObj_type (wpAny_pure ⟨_, rfl, wpAny_pure h⟩) zl))
end
/-- t[::-1] -/
def tRevT (K : PySem.W.Frag) (te : TE) : TE := fun σ H Q => te σ H fun x H1 => ∃ a xs, x = .ref a ∧ SqT K H1 a xs ∧ ∀ p, H1 p = none → Q (.ref p) (upd H1 p (.tup xs.reverse))
theorem pe_revT {X : Cx} {e : Expr} {te : TE} {k : Nat} {p1 p2 p3 pos : Pos} (he : PE X e te) : PE X (.Subscript e (.Slice none none (some (.UnaryOp .USub (.Constant (.int 1) k p1) p2)) p3) pos) (tRevT X.K te) := by
  constructor
  intro pins s σ H Q I h
  refine Subscript_ (thn (he.run pins s σ H _ I h) fun v s1 hh => ?_)
  obtain ⟨x, H1, I1, r1, a, xs, rfl, hx, q⟩ := hh
  cases r1
  have hs : PO X (some (.UnaryOp .USub (.Constant (.int 1) k p1) p2)) (tPart (tUn (rU fun i => .int (-i)) (tC (.int 1)))) := po_some (pe_un un_neg pe_int)
  refine wpAny_Slice (thn (po_none.run pins s1 σ H1 (fun o H2 => o = none ∧ H2 = H1) I1 ⟨rfl, rfl⟩) fun vl s2 h2 => ?_)
  obtain ⟨l, H2, I2, pl, rfl, rfl⟩ := h2
  refine thn (po_none.run pins s2 σ _ (fun o H3 => o = none ∧ H3 = H2) I2 ⟨rfl, rfl⟩) fun vu s3 h3 => ?_
  obtain ⟨u, H3, I3, pu, rfl, rfl⟩ := h3
  refine thn (hs.run pins s3 σ _ (fun o H4 => o = some (-1) ∧ H4 = H3) I3 ⟨1, rfl, -1, rfl, rfl, rfl⟩) fun vs s4 h4 => ?_
  obtain ⟨o, H4, I4, ps, rfl, rfl⟩ := h4
  cases pl
  cases pu
  have I5 : Inv X pins σ H4 { s4 with heap := s4.heap.push { cls := .type "slice", data := .fields #[.none, .none, vs] } } := I4.kept (t' := s4.toks) fun b ob q => Heap.get?_push_of_some _ q
  obtain ⟨its, r, qt, hz⟩ := I5.tuple hx
  show wpAny (model X.prog X.w) X.A (subscriptTail e (.Slice none none (some (.UnaryOp .USub (.Constant (.int 1) k p1) p2)) p3) (.ref a) (.ref s4.heap.objs.size)) (EP X pins σ Q) X.xe { s4 with heap := s4.heap.push { cls := .type "slice", data := .fields #[.none, .none, vs] } }
  refine tail_any (ops := [.ref a, .ref s4.heap.objs.size]) qt.typeIs (slot_tuple_getitem.lookup) ?_ (by with_unfolding_all rfl)
  have hl := r.length
  refine tup_back qt (Heap.IsSliceOf.new _ .none .none vs) ps (by rw [List.size_toArray]; omega) ?_
  refine ⟨.ref _, _, I5.laid (t' := s4.toks) (o := .tup xs.reverse) (fun b ob q => Heap.get?_push_of_some _ q) (Nat.le_refl _) ?_, rfl, q _ (I5.hok.fresh (Nat.le_refl _))⟩
  exact ⟨by rw [List.length_reverse]; exact hz, its.reverse, r.reverse, ⟨_, Heap.get?_push_size _ rfl, rfl, _, rfl⟩⟩
end L2

set_option maxRecDepth 100000
set_option maxHeartbeats 4000000
/-! things of any kind: lists and dicts told by their kind alone -/
namespace W1
open PySem PyProof.Rows L2
theorem Le.dK {H H' : Hp} {a : Addr} {kvs : List (Key × V)} (e : Le H H') (h : H a = some (.dK kvs)) : H' a = some (.dK kvs) := by
  rcases e a _ h with h1 | ⟨_, _, _, _, _, _, _, _, _, z, _⟩
  · exact h1
  · cases z
theorem Le.anyL {H H' : Hp} {a : Addr} (e : Le H H') (h : ∃ xs, H a = some (.lst xs)) : ∃ xs, H' a = some (.lst xs) := by
  obtain ⟨xs, h⟩ := h
  rcases e a _ h with h1 | ⟨c, p, x, s, n, p', x', s', n', _, h1, _⟩
  · exact ⟨_, h1⟩
  · exact ⟨_, h1⟩
/-- some list, or an empty dict -/
def Ob (H : Hp) (v : V) : Prop := ∃ a, v = .ref a ∧ ((∃ xs, H a = some (.lst xs)) ∨ H a = some (.dK []))
theorem Ob.le {H H' : Hp} {v : V} (e : Le H H') (h : Ob H v) : Ob H' v := by
  obtain ⟨a, rfl, h⟩ := h
  exact ⟨a, rfl, h.imp e.anyL e.dK⟩
theorem Ob.ty {K : PySem.W.Frag} {H : Hp} {v : V} (h : Ob H v) : TyX K H v (.type "list") ∨ TyX K H v (.type "dict") := by
  obtain ⟨a, rfl, h⟩ := h
  rcases h with ⟨xs, h⟩ | h
  · exact .inl (.base (.lst h))
  · exact .inr (.base (.dK h))
def Tk (H : Hp) (d : D) : Prop := noObj d = true ∨ ∃ v, d = .obj v ∧ Ob H v
theorem Tk.le {H H' : Hp} {d : D} (e : Le H H') (h : Tk H d) : Tk H' d := h.imp (fun h => h) fun ⟨v, h1, h2⟩ => ⟨v, h1, h2.le e⟩
def sca : D → Bool
  | .non => true
  | .bl _ => true
  | .int _ => true
  | .str _ => true
  | _ => false
inductive Th (H : Hp) : D → Prop
  | sc {d : D} : sca d = true → Th H d
  | tup {ds : List D} : ds.length ≤ 50000 → (∀ d ∈ ds, Th H d) → Th H (.tup ds)
  | ob {v : V} : Ob H v → Th H (.obj v)
theorem Th.le {H H' : Hp} {d : D} (e : Le H H') (h : Th H d) : Th H' d := by
  induction h with
  | sc h => exact .sc h
  | tup hl _ ih => exact .tup hl ih
  | ob h => exact .ob (h.le e)
theorem Th.tk {H : Hp} {d : D} (h : Th H d) : Tk H d := by
  cases h with
  | sc h => exact .inl (by cases d <;> first | rfl | cases h)
  | tup _ _ => exact .inl rfl
  | ob h => exact .inr ⟨_, rfl, h⟩
theorem Th.noL {H : Hp} {d : D} (h : Th H d) : NoL d := by
  induction h with
  | @sc d h => cases d <;> first | exact .non | exact .bl _ | exact .int _ | exact .str _ | cases h
  | tup _ _ ih => exact .tup ih
  | ob _ => exact .obj _
theorem Th.items {H : Hp} {ds : List D} (h : Th H (.tup ds)) : ds.length ≤ 50000 ∧ ∀ d ∈ ds, Th H d := by
  cases h with
  | sc h => cases h
  | tup h1 h2 => exact ⟨h1, h2⟩
/-- isinstance(x, T) of a thing -/
theorem ed_isK {K : PySem.W.Frag} {σ : L2.St} {H : Hp} {ta : TE} {d : D} {T : String} {f : D → Bool} (h : ED K ta σ H d) (t : Tk H d) (hb : noObj d = true → kitB (tyD d) T = some (f d)) (h1 : kitB "list" T = some false) (h2 : kitB "dict" T = some false) (h3 : ∀ v, f (.obj v) = false) :
    ED K (tCB (rIsi K) (tCons ta (tCons (tC (.ty T)) tNil))) σ H (.bl (f d)) := by
  rcases t with hn | ⟨v, rfl, ho⟩
  · exact ed_isi h (noObj_ne hn) (hb hn)
  · intro H1 e Q q
    refine h H1 e _ fun x d' H2 e2 p r => ?_
    have p' : d' = .obj v := p
    subst p'
    have ex := rp_obj r
    subst ex
    rw [h3]  at q
    rcases (ho.le (e.trans e2)).ty (K := K) with ty | ty
    · exact ⟨x, .ty T, .type "list", .type T, false, rfl, .ty T, ty, kit_ty h1, q _ _ H2 e2 rfl (.bl _)⟩
    · exact ⟨x, .ty T, .type "dict", .type T, false, rfl, .ty T, ty, kit_ty h2, q _ _ H2 e2 rfl (.bl _)⟩
def tupB : D → Bool
  | .tup _ => true
  | _ => false
def strB : D → Bool
  | .str _ => true
  | _ => false
def blB : D → Bool
  | .bl _ => true
  | _ => false
section
variable {K : PySem.W.Frag} {σ : L2.St} {H : Hp} {ta : TE} {d : D}
theorem ed_isTup (h : ED K ta σ H d) (t : Tk H d) : ED K (tCB (rIsi K) (tCons ta (tCons (tC (.ty "tuple")) tNil))) σ H (.bl (tupB d)) :=
  ed_isK (f := tupB) h t (fun hn => by cases d <;> first | rfl | decide +kernel | cases hn) (by decide +kernel) (by decide +kernel) fun _ => rfl
theorem ed_isStr (h : ED K ta σ H d) (t : Tk H d) : ED K (tCB (rIsi K) (tCons ta (tCons (tC (.ty "str")) tNil))) σ H (.bl (strB d)) :=
  ed_isK (f := strB) h t (fun hn => by cases d <;> first | rfl | decide +kernel | cases hn) (by decide +kernel) (by decide +kernel) fun _ => rfl
theorem ed_isInt (h : ED K ta σ H d) (t : Tk H d) : ED K (tCB (rIsi K) (tCons ta (tCons (tC (.ty "int")) tNil))) σ H (.bl (subI d)) :=
  ed_isK (f := subI) h t (fun hn => kit_int hn) (by decide +kernel) (by decide +kernel) fun _ => rfl
theorem ed_isBool (h : ED K ta σ H d) (t : Tk H d) : ED K (tCB (rIsi K) (tCons ta (tCons (tC (.ty "bool")) tNil))) σ H (.bl (blB d)) :=
  ed_isK (f := blB) h t (fun hn => by cases d <;> first | rfl | decide +kernel | cases hn) (by decide +kernel) (by decide +kernel) fun _ => rfl
/-- a list is told by its kind -/
theorem ep_hide {P : List D → Hp → Prop} (h : EP K ta σ H fun d H2 => ∃ ds, d = .lst ds ∧ P ds H2) : EP K ta σ H fun d H2 => ∃ v, d = .obj v ∧ Ob H2 v := fun H1 e Q q => h H1 e _ fun v d H2 e2 p r => by
  obtain ⟨ds, rfl, _⟩ := p
  obtain ⟨a, xs, rfl, s, _, _⟩ := rp_lst r
  exact q _ (.obj (.ref a)) H2 e2 ⟨_, rfl, a, rfl, .inl ⟨xs, s⟩⟩ (.obj _)
theorem ep_lstO {A : TA} {P : List D → Hp → Prop} (h : EA K A σ H P) (hl : ∀ ds H2, P ds H2 → ds.length ≤ 100000) : EP K (tLst A) σ H fun d H2 => ∃ v, d = .obj v ∧ Ob H2 v := fun H1 e Q q => h H1 e _ fun vs ds H2 e2 p r => by
  refine ⟨by rw [r.len]; exact Evl.sz_of (hl ds H2 p), fun a na => ?_⟩
  exact q _ (.obj (.ref a)) _ (e2.trans (Le.new na)) ⟨_, rfl, a, rfl, .inl ⟨vs, upd_same⟩⟩ (.obj _)
/-- a list of a length that no hand has -/
theorem ed_lstN {A : TA} {ds : List D} (h : EDA K A σ H ds) (hl : ds.length ≤ 100000) (hn : ds.length ≠ 5) : ED K (tLst A) σ H (.lst ds) :=
  ep_lst h (fun ds' H2 p => by rw [show ds' = ds from p]; exact hl) (fun ds' H2 xs p r => by rw [show ds' = ds from p] at r; exact notH_len (by rw [r.len]; exact hn)) fun ds' H2 p H3 _ => by rw [show ds' = ds from p]
theorem ep_lstN {A : TA} {P : List D → Hp → Prop} (h : EA K A σ H P) (hl : ∀ ds H2, P ds H2 → ds.length ≤ 100000) (hn : ∀ ds H2, P ds H2 → ds.length ≠ 5) (hP : ∀ ds H2, P ds H2 → ∀ H3, Le H2 H3 → P ds H3) : EP K (tLst A) σ H fun d H2 => ∃ ds, d = .lst ds ∧ P ds H2 :=
  ep_lst h hl (fun ds H2 xs p r => notH_len (by rw [r.len]; exact hn ds H2 p)) fun ds H2 p H3 e => ⟨ds, rfl, hP ds H2 p H3 e⟩
/-- t[::-1] -/
theorem rps_rev {H : Hp} : ∀ {vs : List V} {ds : List D}, Rps K H vs ds → Rps K H vs.reverse ds.reverse
  | _, _, .nil => .nil
  | _, _, .cons h r => by
    rw [List.reverse_cons, List.reverse_cons]
    exact (rps_rev r).app (.cons h .nil)
theorem ed_revT {ds : List D} (h : ED K ta σ H (.tup ds)) : ED K (tRevT K ta) σ H (.tup ds.reverse) := fun H1 e Q q =>
  h H1 e _ fun v d H2 e2 p r => by
    have p' : d = .tup ds := p
    subst p'
    obtain ⟨a, xs, rfl, s, rr⟩ := rp_tup r
    exact ⟨a, xs, rfl, s, fun p np => q _ _ _ (e2.trans (Le.new np)) rfl (.tup (Evl.st_of upd_same) ((rps_rev rr).le (Le.new np)))⟩
end
section
variable {X : Cx} {K : PySem.W.Frag}
theorem kpe_revT {e : Expr} {te : TE} {k : Nat} {p1 p2 p3 pos : Pos} (he : PE X e te) (h : X.K = K := by rfl) : PE X (.Subscript e (.Slice none none (some (.UnaryOp .USub (.Constant (.int 1) k p1) p2)) p3) pos) (tRevT K te) := h ▸ pe_revT he
theorem kpi_zTL {e e2 : Expr} {ta : TA} {p pos tpos : Pos} {elts : List Expr} {kk : Nat} (hg : Gl X "zip") (hm : X.mg "zip" = none) (ha : PA X [e, e2] ta)
    (hs : starEach [e, e2] X.env = (false, eval e X.env) :: starEach [e2] X.env := by rfl) (hpl : (backTo pos (starEach [e2] X.env)).any (·.1) = false := by rfl) (h : X.K = K := by rfl) :
    PI X (.Tuple elts kk tpos) (.Call (.Name "zip" p) [e, e2] [] pos) (iZTL K ta) := h ▸ pi_zTL hg hm ha hs hpl
end
/-! ### loops in which nothing changes but by calls -/
section
variable {K : PySem.W.Frag} {σ : L2.St} {H H' : Hp} {te : TE} {D1 : Ends} {tu tz : TS} {g : TG}
theorem s_forT2 {ds : List D} (h : ED K te σ H (.tup ds))
    (k : ∀ H1, Le H H1 → ∃ Pv : Nat → L2.St → Hp → Prop, Pv 0 σ H1 ∧ (∀ i σ' H', i ≤ ds.length → Pv i σ' H' → Le H1 H') ∧
      (∀ i d v σ' H', ds[i]? = some d → Rp K H' v d → Pv i σ' H' → g v σ' H' fun σ2 H2 => tu (bodyEnds D1 (Pv (i + 1))) σ2 H2) ∧ ∀ σ' H', Pv ds.length σ' H' → D1.nx σ' H') : tFor (iTup K te) g tu D1 σ H := h H (Le.refl _) _ fun v d0 H1 e p r => by
  have p' : d0 = .tup ds := p
  subst p'
  obtain ⟨a, xs, rfl, s, rr⟩ := rp_tup r
  obtain ⟨Pv, h0, hle, hs, hd⟩ := k H1 e
  refine ⟨a, rfl, ⟨xs, s⟩, for_it (walk_tup (xs := xs)) Pv h0 (fun i σ' H' hi q => (hle i σ' H' (by rw [← rr.len]; exact hi) q).sqt s) ?_ (fun σ' H' q => hd σ' H' (by rw [← rr.len]; exact q))⟩
  rintro i x σ' H' _ hi q ⟨rfl, hx⟩
  obtain ⟨d, h1, h2⟩ := rr.at' hx
  exact hs i d x σ' _ h1 (h2.le (hle i σ' _ (by rw [← rr.len]; omega) q)) q
theorem q_forT2 {ds : List D} (h : ED K te σ H (.tup ds))
    (k : ∀ H1, Le H H1 → ∃ Pv : Nat → L2.St → Hp → Prop, Pv 0 σ H1 ∧ (∀ i σ' H', i ≤ ds.length → Pv i σ' H' → Le H1 H') ∧
      (∀ i d v σ' H', ds[i]? = some d → Rp K H' v d → Pv i σ' H' → g v σ' H' fun σ2 H2 => tu ({ D1 with nx := Pv (i + 1), ct := Pv (i + 1), bk := tz D1 }) σ2 H2) ∧ ∀ σ' H', Pv ds.length σ' H' → tz D1 σ' H') : tSeq (tFor (iTup K te) g tu) tz D1 σ H := s_forT2 (D1 := { D1 with nx := tz D1 }) h k
theorem s_forL2 {ds : List D} (h : ED K te σ H (.lst ds))
    (k : ∀ H1, Le H H1 → ∃ Pv : Nat → L2.St → Hp → Prop, Pv 0 σ H1 ∧ (∀ i σ' H', i ≤ ds.length → Pv i σ' H' → Le H1 H') ∧
      (∀ i d v σ' H', ds[i]? = some d → Rp K H' v d → Pv i σ' H' → g v σ' H' fun σ2 H2 => tu (bodyEnds D1 (Pv (i + 1))) σ2 H2) ∧ ∀ σ' H', Pv ds.length σ' H' → D1.nx σ' H') : tFor (iList K te) g tu D1 σ H := h H (Le.refl _) _ fun v d0 H1 e p r => by
  have p' : d0 = .lst ds := p
  subst p'
  obtain ⟨a, xs, rfl, s, nh, rr⟩ := rp_lst r
  obtain ⟨Pv, h0, hle, hs, hd⟩ := k H1 e
  refine ⟨a, rfl, ⟨xs, SqL.of s⟩, for_it (walk_list (xs := xs)) Pv h0 (fun i σ' H' hi q => SqL.of ((hle i σ' H' (by rw [← rr.len]; exact hi) q).lst s nh)) ?_ (fun σ' H' q => hd σ' H' (by rw [← rr.len]; exact q))⟩
  rintro i x σ' H' _ hi q ⟨rfl, hx⟩
  obtain ⟨d, h1, h2⟩ := rr.at' hx
  exact hs i d x σ' _ h1 (h2.le (hle i σ' _ (by rw [← rr.len]; omega) q)) q
end
end W1

set_option maxRecDepth 100000
set_option maxHeartbeats 4000000
namespace W1
open PySem PyProof.Rows L2 RZ
local macro_rules | `(tactic| walk_at "rp") => `(tactic| first | assumption | exact Rp.int _ | exact Rp.bl _ | exact Rp.str _ | exact Rp.non | exact Rp.obj _ | (refine Rp.le (by assumption) ?_; walk_at "rp"))
local macro_rules | `(tactic| walk_at "ed") => `(tactic| first
  | exact ed_int | exact ed_str | exact ed_bl | exact ed_non
  | (refine ed_var rfl ?_; walk_at "rp")
  | (refine ed_ixT (ds := [_, _]) ?_ ed_int (by decide) rfl; walk_at "ed")
  | (refine ed_I0 ?_ ?_ <;> walk_at "ed")
  | (refine ed_B0 ?_ ?_ <;> walk_at "ed")
  | (refine ed_eqS ?_ ?_ rfl rfl rfl <;> walk_at "ed")
  | assumption)
local macro_rules | `(tactic| walk_at "ea") => `(tactic| first | exact ea_nil | (refine ea_cons ?_ ?_; walk_at "ed"; walk_at "ea"))

abbrev s__law_is : Stmt := topS 43
abbrev N__law_is : List Str := ["_law_told", "_law_due", "_law_one", "_law_two"]
theorem sc__law_is : FnScope N__law_is ["_law_told", "_law_due"] (defScope s__law_is) := ⟨rfl, rfl, rfl, by decide +kernel, rfl, by decide +kernel, by decide +kernel⟩
section
variable {X : Cx} {K : PySem.W.Frag}
theorem kc_isiT (h : X.K = K := by rfl) : CallR X (.builtin "isinstance") (rIsiT K) := h ▸ call_isiT
theorem kpi_zipA {e e2 : Expr} {ta : TA} {p pos tpos : Pos} {elts : List Expr} {kk : Nat} (hg : Gl X "zip") (hm : X.mg "zip" = none) (ha : PA X [e, e2] ta)
    (hs : starEach [e, e2] X.env = (false, eval e X.env) :: starEach [e2] X.env := by rfl) (hpl : (backTo pos (starEach [e2] X.env)).any (·.1) = false := by rfl) (h : X.K = K := by rfl) :
    PI X (.Tuple elts kk tpos) (.Call (.Name "zip" p) [e, e2] [] pos) (iZipA K ta) := h ▸ pi_zipA hg hm ha hs hpl
end
theorem walk_zipT {K : PySem.W.Frag} {a b : Addr} {xs ys : List V} {n : Nat} (hn : n = min xs.length ys.length) : Walk (ItzT K a b) n (fun H => SqT K H a xs ∧ SqT K H b ys) (YPair (fun i => xs[i]?) (fun i => ys[i]?)) := by
  subst hn
  constructor
  · intro i H hi q
    have h1 : i < xs.length := by omega
    have h2 : i < ys.length := by omega
    exact ⟨xs, ys, xs[i], ys[i], q.1, q.2, by simp [h1], by simp [h2]⟩
  · intro H q
    exact ⟨xs, ys, q.1, q.2, by omega⟩
  · rintro i H v H' _ q ⟨T, x, y, h1, h2, h3, h4, h5⟩
    exact ⟨T, x, y, h1, h2, h3, h4 xs q.1, h5 ys q.2⟩
/-! ### deep data -/
def Dp : Nat → D → Prop
  | 0, _ => False
  | n + 1, .tup xs => xs.length ≤ 50000 ∧ ∀ x ∈ xs, Dp n x
  | n + 1, .lst xs => xs.length ≤ 50000 ∧ ∀ x ∈ xs, Dp n x
  | _ + 1, .obj _ => False
  | _ + 1, _ => True
theorem Dp.no {n : Nat} {d : D} (h : Dp n d) : noObj d = true := by
  cases n with
  | zero => exact absurd h id
  | succ n =>
    cases d with
    | obj v => exact absurd h id
    | _ => rfl
def isTupD : D → Bool
  | .tup _ => true
  | _ => false
def isLstD : D → Bool
  | .lst _ => true
  | _ => false
def isBlD : D → Bool
  | .bl _ => true
  | _ => false
theorem kd_tup {d : D} (h : noObj d = true) : kitB (tyD d) "tuple" = some (isTupD d) := by cases d <;> first | rfl | decide +kernel | exact absurd h Bool.false_ne_true
theorem kd_lst {d : D} (h : noObj d = true) : kitB (tyD d) "list" = some (isLstD d) := by cases d <;> first | rfl | decide +kernel | exact absurd h Bool.false_ne_true
theorem kd_bl {d : D} (h : noObj d = true) : kitB (tyD d) "bool" = some (isBlD d) := by cases d <;> first | rfl | decide +kernel | exact absurd h Bool.false_ne_true
def isSeq : D → Bool
  | .tup _ => true
  | .lst _ => true
  | _ => false
section
variable {K : PySem.W.Frag} {σ : L2.St} {H : Hp} {ta te : TE} {d : D} {vs : List Nat}
theorem ed_isiT (h : ED K te σ H d) (no : noObj d = true) : ED K (tCB (rIsiT K) (tCons te (tCons (tTup (tCons (tC (.ty "tuple")) (tCons (tC (.ty "list")) tNil))) tNil))) σ H (.bl (isSeq d)) := fun H1 e Q q => h H1 e _ fun v d' H2 e2 p r => by
  have p' : d' = d := p
  subst p'
  refine ⟨(by decide), fun a na => ⟨v, a, _, .type (tyD d'), [.type "tuple", .type "list"], isSeq d', rfl, upd_same, .cons (.ty "tuple") (.cons (.ty "list") .nil), tyx_of (noObj_ne no) (r.le (Le.new na)), ?_, q _ _ _ (e2.trans (Le.new na)) rfl (.bl _)⟩⟩
  have k1 : PySem.W.kitOne K (.type (tyD d')) (.type "tuple") = some (isTupD d') := kit_ty (kd_tup no)
  have k2 : PySem.W.kitOne K (.type (tyD d')) (.type "list") = some (isLstD d') := kit_ty (kd_lst no)
  unfold PySem.W.kitAny
  rw [k1]
  cases d' with
  | tup xs => rfl
  | _ =>
    show PySem.W.kitAny K _ [.type "list"] = _
    unfold PySem.W.kitAny
    rw [k2]
    rfl
theorem CI.le {H' H2 : Hp} {L : Addr} {I : Nat → List D → Prop} {i : Nat} (G : Good I) (c : CI K H L I i H') (e : Le H' H2) : CI K H L I i H2 := by
  obtain ⟨q1, q2, ws, acc, q3, q4, q5⟩ := c
  exact ⟨q1, q2.trans e, ws, acc, e.lst q3 ((G.uni i acc q5).notH q4), q4.le e, q5⟩
theorem ed_lcZ {A : TA} {ds : List D} {j l : Nat} (hd : d = .tup ds ∨ d = .lst ds) (ha : EDA K A σ H [d, d]) (hz : ds.length ≤ 50000) (hw : ∀ x y, wipe (((wipe σ vs).set j (some x)).set l (some y)) vs = wipe σ vs)
    (he : ∀ x v u H1, Le H H1 → x ∈ ds → Rp K H1 v x → Rp K H1 u x → ED K te (((wipe σ vs).set j (some v)).set l (some u)) H1 (.bl true)) :
    ED K (tLc (iZipA K A) (gTup K 2 (gCons (gName j) (gCons (gName l) gNil))) tYes te vs) σ H (.lst ((List.replicate ds.length true).map .bl)) := fun H1 e Q q => ha H1 e _ fun us es H2 e2 p rr => by
  have p' : es = [d, d] := p
  subst p'
  obtain ⟨v, u, rfl, r1, r2⟩ := rps2 rr
  have G := good enc_bl fun i zs => zs = List.replicate i true ∧ i ≤ ds.length
  have fin : ∀ {L : Addr} {H' : Hp}, CI K H2 L (GI D.bl fun i zs => zs = List.replicate i true ∧ i ≤ ds.length) ds.length H' → Q (.ref L) H' := fun c => ci_end G c fun v d H3 e3 p r => q v d H3 (e2.trans e3) (by
    obtain ⟨acc, rfl, zs, rfl, _, rfl, _⟩ := p
    rfl) r
  have turn : ∀ {L : Addr} {H' : Hp} {i : Nat} {x : D} {v u : V} {σ2 : L2.St}, ds[i]? = some x → Rp K H2 v x → Rp K H2 u x → CI K H2 L (GI D.bl fun i zs => zs = List.replicate i true ∧ i ≤ ds.length) i H' → σ2 = ((wipe σ vs).set j (some v)).set l (some u) →
      tYes σ2 H' fun b H3 => if b = true then te σ2 H3 fun y H4 => ∃ ac, H4 L = some (.lst ac) ∧ ac.length < sizeLine ∧ CI K H2 L (GI D.bl fun i zs => zs = List.replicate i true ∧ i ≤ ds.length) (i + 1) (upd H4 L (.lst (ac ++ [y]))) else CI K H2 L (GI D.bl fun i zs => zs = List.replicate i true ∧ i ≤ ds.length) (i + 1) H3 := by
    intro L H' i x v u σ2 hx rv ru c es
    subst es
    have hi := (List.getElem?_eq_some_iff.mp hx).1
    refine ci_turn G c (PT := fun b => b = true) (fun acc ia => et_yes) (fun acc ia _ => ?_) (fun acc ia hf => nomatch hf)
    obtain ⟨zs, rfl, hl, rfl, _⟩ := ia
    refine (he x v u H2 (e.trans e2) (List.mem_of_getElem? hx) rv ru).weak fun d' H3 _ p => ?_
    have p' : d' = .bl true := p
    subst p'
    exact ⟨GI.more (by simp; omega) ⟨by rw [← List.replicate_succ'], hi⟩, .bl _⟩
  rcases hd with rfl | rfl
  · obtain ⟨a, xs, rfl, s, r⟩ := rp_tup r1
    obtain ⟨b, ys, rfl, s2, rb⟩ := rp_tup r2
    refine ⟨a, b, xs, ys, rfl, .inr ⟨s, s2, fun L hL => lc_it (walk_zipT (n := ds.length) (by rw [r.len, rb.len, Nat.min_self])) (CI K H2 L (GI D.bl fun i zs => zs = List.replicate i true ∧ i ≤ ds.length)) (ci_start (I := GI D.bl fun i zs => zs = List.replicate i true ∧ i ≤ ds.length) hL ⟨[], rfl, Nat.zero_le _, rfl, Nat.zero_le _⟩) (fun i H' _ c => ⟨c.2.1.sqt s, c.2.1.sqt s2⟩) ?_ (fun H' c => fin c)⟩⟩
    rintro i x H' H3 hi c ⟨T, x1, x2, rfl, nT, rfl, f1, f2⟩
    obtain ⟨d1, g1, g2⟩ := r.at' f1
    obtain ⟨d2, g3, g4⟩ := rb.at' f2
    have ed : d1 = d2 := Option.some.inj (g1.symm.trans g3)
    subst ed
    exact ⟨T, _, rfl, Evl.st_of upd_same, rfl, _, _, rfl, _, _, rfl, rfl, hw _ _, turn g1 g2 g4 (CI.le G c (Le.new nT)) rfl⟩
  · obtain ⟨a, xs, rfl, s, nh, r⟩ := rp_lst r1
    obtain ⟨b, ys, rfl, s2, nh2, rb⟩ := rp_lst r2
    refine ⟨a, b, xs, ys, rfl, .inl ⟨SqL.of s, SqL.of s2, fun L hL => lc_it (walk_zip (n := ds.length) (by rw [r.len, rb.len, Nat.min_self])) (CI K H2 L (GI D.bl fun i zs => zs = List.replicate i true ∧ i ≤ ds.length)) (ci_start (I := GI D.bl fun i zs => zs = List.replicate i true ∧ i ≤ ds.length) hL ⟨[], rfl, Nat.zero_le _, rfl, Nat.zero_le _⟩) (fun i H' _ c => ⟨SqL.of (c.2.1.lst s nh), SqL.of (c.2.1.lst s2 nh2)⟩) ?_ (fun H' c => fin c)⟩⟩
    rintro i x H' H3 hi c ⟨T, x1, x2, rfl, nT, rfl, f1, f2⟩
    obtain ⟨d1, g1, g2⟩ := r.at' f1
    obtain ⟨d2, g3, g4⟩ := rb.at' f2
    have ed : d1 = d2 := Option.some.inj (g1.symm.trans g3)
    subst ed
    exact ⟨T, _, rfl, Evl.st_of upd_same, rfl, _, _, rfl, _, _, rfl, rfl, hw _ _, turn g1 g2 g4 (CI.le G c (Le.new nT)) rfl⟩
end
structure STxt (mg : Str → Option Value) : Prop extends Txt mg where
  n_zip : mg "zip" = none
/-- == of what is flat, and of empty dicts -/
def rEqX : R2 := fun x y H Q => rEq x y H Q ∨ ∃ a b, x = .ref a ∧ y = .ref b ∧ H a = some (.dK []) ∧ H b = some (.dK []) ∧ Q (.bl true) H
theorem op_eqX {X : Cx} (hu : X.A.units < cLine) : OpR X (compareOp .Eq) rEqX := by
  intro pins s σ H x y v u Q I rx ry h
  rcases h with h | ⟨a, b, rfl, rfl, h1, h2, q⟩
  · exact op_eq pins s σ H x y v u Q I rx ry h
  · exact op_eq_dict hu pins s σ H _ _ v u Q I rx ry ⟨a, b, [], rfl, rfl, h1, h2, List.nodup_nil, (fun p hp => nomatch hp), q⟩
section
variable {P : Program} {w : World} {K : PySem.W.Frag} {mg : Str → Option Value} {base : Heap}
def R_is (n : Nat) : List D → Hp → Pd → Prop := fun ds H P => P = is (.bl true) ∧ ((∃ d, ds = [d, d] ∧ Dp n d) ∨ 0 < n ∧ ∃ p : Addr, ds = [.obj (.ref p), .obj (.ref p)] ∧ H p = some (.dK []))
theorem ok_is (T : STxt mg) (g : GDef K mg "_law_is" s__law_is ["_law_told", "_law_due"]) : ∀ n : Nat, Def P w K mg base (n + 1) "_law_is" ["_law_told", "_law_due"] (spD K (R_is n))
  | 0 => by
    have no : ∀ ds H Pd, ¬ R_is 0 ds H Pd := fun ds H Pd h => by
      rcases h.2 with ⟨d, _, h⟩ | ⟨h, _⟩
      · exact absurd h id
      · exact absurd h (Nat.lt_irrefl 0)
    exact defD g sc__law_is (fun ds H Pd h => (no _ _ _ h).elim) fun cdv A outer s f H vs ds Pd Q E hr r h q => (no _ _ _ h).elim
  | n + 1 => by
    have G_law_is := ok_is T g n
    refine defD g sc__law_is (fun ds H Pd h => ?_) fun cdv A outer s f H vs ds Pd Q E hr r h q => ?_
    · rcases h.2 with ⟨d, rfl, _⟩ | ⟨_, p, rfl, _⟩ <;> rfl
    refine ⟨_, (pss_cons (ps_if (pt_val (pe_callB (kc_isiT (K := K)) (by rfl) T.n_isinstance boot_isinstance (pa_cons (pv 1) (pa_cons (pe_tup (pa_cons (pe_bltn (v := V.ty "tuple") (by rfl) T.n_tuple boot_tuple rfl) (pa_cons (pe_bltn (v := V.ty "list") (by rfl) T.n_list boot_list rfl) pa_nil))) pa_nil))))
      (pss_cons (ps_if (PW.pt (pw_or (pt_cmpR op_ne (pe_callB (kc_isi (K := K)) (by rfl) T.n_isinstance boot_isinstance (pa_cons (pv 0) (pa_cons (pe_bltn (v := V.ty "tuple") (by rfl) T.n_tuple boot_tuple rfl) pa_nil))) (pe_callB (kc_isi (K := K)) (by rfl) T.n_isinstance boot_isinstance (pa_cons (pv 1) (pa_cons (pe_bltn (v := V.ty "tuple") (by rfl) T.n_tuple boot_tuple rfl) pa_nil))) (nomark _)) (pw_or1 (pt_not (pt_val (pe_callB (kc_isiT (K := K)) (by rfl) T.n_isinstance boot_isinstance (pa_cons (pv 0) (pa_cons (pe_tup (pa_cons (pe_bltn (v := V.ty "tuple") (by rfl) T.n_tuple boot_tuple rfl) (pa_cons (pe_bltn (v := V.ty "list") (by rfl) T.n_list boot_list rfl) pa_nil))) pa_nil))))))))
      (pss_one (ps_ret pe_bl))
      pss_nil)
    (pss_one (ps_ret (pe_and (pe_cmpR op_eq (pe_callB (kc_len (K := K)) (by rfl) T.n_len boot_len (pa_cons (pv 0) pa_nil)) (pe_callB (kc_len (K := K)) (by rfl) T.n_len boot_len (pa_cons (pv 1) pa_nil)) (nomark _)) (pe_one (pe_callB (kc_all (K := K) rfl) (by rfl) T.n_all boot_all (pa_cons (pe_lc (own := [("_law_one", 2), ("_law_two", 3)]) rfl sc__law_is.nd (kpi_zipA (K := K) (by rfl) T.n_zip (pa_cons (pv 0) (pa_cons (pv 1) pa_nil))) (blkOk_by (N := N__law_is) (sc := defScope s__law_is) (by decide +kernel)) (fun _ _ _ _ _ => (kpg_tup (K := K) (n := 2) rfl (pgs_cons (pg_name (i := 2) sc__law_is.nd rfl (Or.inl rfl)) (pgs_cons (pg_name (i := 3) sc__law_is.nd rfl (Or.inl rfl)) pgs_nil)))) (fun _ _ _ _ _ => pts_nil) (fun _ _ _ _ _ => (pe_def G_law_is hr (pa_cons (pv 2) (pa_cons (pv 3) pa_nil))))) pa_nil)))))))
      pss_nil)
    (pss_one (ps_ret (pe_and (pe_cmpR op_eq (pe_callB (kc_isi (K := K)) (by rfl) T.n_isinstance boot_isinstance (pa_cons (pv 0) (pa_cons (pe_bltn (v := V.ty "bool") (by rfl) T.n_bool boot_bool rfl) pa_nil))) (pe_callB (kc_isi (K := K)) (by rfl) T.n_isinstance boot_isinstance (pa_cons (pv 1) (pa_cons (pe_bltn (v := V.ty "bool") (by rfl) T.n_bool boot_bool rfl) pa_nil))) (nomark _)) (pe_one (pe_cmpR (op_eqX hr.units0) (pv 0) (pv 1) (nomark _))))))), ?_⟩
    obtain ⟨rfl, h⟩ := h
    rcases h with ⟨d, rfl, hd⟩ | ⟨_, p, rfl, hp⟩
    rotate_left
    · obtain ⟨v1, v2, rfl, r1, r2⟩ := rps2 r
      have e1 := rp_obj r1
      have e2 := rp_obj r2
      subst e1 e2
      have ty : ∀ {H1 : Hp}, Le H H1 → TyX K H1 (.ref p) (.type "dict") := fun e => .base (.dK (e.dK hp))
      have hT : ∀ {H1 : Hp} {σ : L2.St} {j : Nat}, Le H H1 → σ[j]? = some (some (.ref p)) → ED K (tCB (rIsiT K) (tCons (tVar j) (tCons (tTup (tCons (tC (.ty "tuple")) (tCons (tC (.ty "list")) tNil))) tNil))) σ H1 (.bl false) := fun e hs H2 e2 Q q =>
        ⟨_, hs, (by decide), fun a na => ⟨.ref p, a, _, .type "dict", [.type "tuple", .type "list"], false, rfl, upd_same, .cons (.ty "tuple") (.cons (.ty "list") .nil), ty ((e.trans e2).trans (Le.new na)), (by
          unfold PySem.W.kitAny
          rw [show PySem.W.kitOne K (.type "dict") (.type "tuple") = some false from kit_ty (by decide +kernel)]
          dsimp only
          unfold PySem.W.kitAny
          rw [show PySem.W.kitOne K (.type "dict") (.type "list") = some false from kit_ty (by decide +kernel)]
          rfl), q _ _ _ (Le.new na) rfl (.bl _)⟩⟩
      have hB : ∀ {H1 : Hp} {σ : L2.St} {j : Nat}, Le H H1 → σ[j]? = some (some (.ref p)) → ED K (tCB (rIsi K) (tCons (tVar j) (tCons (tC (.ty "bool")) tNil))) σ H1 (.bl false) := fun e hs H2 e2 Q q =>
        ⟨_, hs, .ref p, .ty "bool", .type "dict", .type "bool", false, rfl, .ty "bool", ty (e.trans e2), kit_ty (by decide +kernel), q _ _ _ (Le.refl _) rfl (.bl _)⟩
      refine q_whenB (b := false) (et_B (K := K) (hT (Le.refl _) rfl)) (fun hb => nomatch hb) (fun _ H1 e1 => ?_)
      refine s_retD (K := K) (d := .bl true) (ed_eq (ed_andV (a := true) (b := true) (ed_eq (ed_eqS (d1 := .bl false) (d2 := .bl false) (hB e1 rfl) (hB e1 rfl) rfl rfl rfl) (congrArg D.bl (decide_eq_true rfl))) fun _ H2 e2 Q' q' => ?_) rfl) fun v H3 e3 r => q v _ H3 (e1.trans e3) rfl r
      exact ⟨_, rfl, _, rfl, .inr ⟨p, p, rfl, rfl, (e1.trans e2).dK hp, (e1.trans e2).dK hp, q' _ _ H2 (Le.refl _) rfl (.bl _)⟩⟩
    obtain ⟨v1, v2, rfl, r1, r2⟩ := rps2 r
    have no := hd.no
    have vsb : ∀ b : Bool, decide (vOf (.bl b) = vOf (.bl b)) = true := fun b => decide_eq_true rfl
    have hlen : ∀ {H1 : Hp} {σ : L2.St} {j : Nat} {v : V} {ds : List D}, (d = .tup ds ∨ d = .lst ds) → σ[j]? = some (some v) → Rp K H1 v d → ED K (tCB (fun xs H Q => ∃ p ys, xs = [.ref p] ∧ (SqL K H p ys ∨ SqT K H p ys) ∧ Q (.int ys.length) H) (tCons (tVar j) tNil)) σ H1 (.int (ds.length : Int)) := by
      intro H1 σ j v ds hd hs r
      rcases hd with rfl | rfl
      · exact ed_lenT (ed_var hs r)
      · exact ed_lenL (ed_var hs r)
    refine q_whenB (b := isSeq d) (et_B (K := K) (ed_isiT (ed_var rfl r2) no)) (fun hb H1 e1 => ?_) (fun hb H1 e1 => ?_)
    · obtain ⟨ds, hds, hz, hdp⟩ : ∃ ds, (d = .tup ds ∨ d = .lst ds) ∧ ds.length ≤ 50000 ∧ ∀ x ∈ ds, Dp n x := by
        cases d with
        | tup xs => exact ⟨xs, .inl rfl, hd.1, hd.2⟩
        | lst xs => exact ⟨xs, .inr rfl, hd.1, hd.2⟩
        | _ => cases hb
      refine q_no (b := false) (eb_eq (eb_or (a := false) (b := false) (eb_eq (et_test (K := K) (ed_neS (ed_isi (ed_var rfl (r1.le e1)) (noObj_ne no) (kd_tup no)) (ed_isi (ed_var rfl (r2.le e1)) (noObj_ne no) (kd_tup no)) rfl rfl rfl)) (by rw [vsb]; rfl)) fun _ => eb_eq (eb_not (et_B (K := K) (ed_isiT (ed_var rfl (r1.le e1)) no))) (by rw [hb]; rfl)) rfl) rfl fun H2 e2 => ?_
      refine s_retD (K := K) (d := .bl true) (ed_eq (ed_andV (a := true) (b := true) (ed_eq (ed_eqS (d1 := .int (ds.length : Int)) (d2 := .int (ds.length : Int)) (hlen hds rfl (r1.le (e1.trans e2))) (hlen hds rfl (r2.le (e1.trans e2))) rfl rfl rfl) (congrArg D.bl (decide_eq_true rfl))) fun _ => ed_eq (ed_all (bs := List.replicate ds.length true) (ed_lcZ hds (ea_cons (ed_var rfl (r1.le (e1.trans e2))) (ea_cons (ed_var rfl (r2.le (e1.trans e2))) ea_nil)) hz (fun _ _ => rfl) fun x v u H3 e3 hx rv ru => ed_call (ea_cons (ed_var rfl rv) (ea_cons (ed_var rfl ru) ea_nil)) fun H4 e4 => ⟨rfl, .inl ⟨x, rfl, hdp x hx⟩⟩)) ?_) rfl) fun v H3 e3 r => q v _ H3 ((e1.trans e2).trans e3) rfl r
      congr 1
      rw [List.all_eq_true]
      intro b hb2
      rw [List.eq_of_mem_replicate hb2]
      rfl
    · have hf : flat d = true := by cases d <;> first | rfl | cases hb
      have hs : scal (vOf d) (vOf d) = true := by cases d <;> first | rfl | exact absurd no Bool.false_ne_true | cases hb
      have kb := kd_bl no
      exact s_retD (K := K) (d := .bl true) (ed_eq (ed_andV (a := true) (b := true) (ed_eq (ed_eqS (ed_isi (ed_var rfl (r1.le e1)) (noObj_ne no) kb) (ed_isi (ed_var rfl (r2.le e1)) (noObj_ne no) kb) rfl rfl rfl) (congrArg D.bl (vsb _))) fun _ => ed_op (ed_var rfl (r1.le e1)) (ed_var rfl (r2.le e1)) fun x y H2 _ q1 q2 Q q => .inl ⟨by rw [rp_flat hf q1, rp_flat hf q2]; exact hs, by rw [rp_flat hf q1, rp_flat hf q2, decide_eq_true rfl]; exact q _ _ H2 (Le.refl _) rfl (.bl _)⟩) rfl) fun v H3 e3 r => q v _ H3 (e1.trans e3) rfl r
end
end W1

set_option maxRecDepth 100000
set_option maxHeartbeats 4000000
namespace W1
open PySem PyProof.Rows L2
local macro_rules | `(tactic| walk_at "rp") => `(tactic| first | assumption | exact Rp.int _ | exact Rp.bl _ | exact Rp.str _ | exact Rp.non | exact Rp.obj _ | (refine Rp.le (by assumption) ?_; walk_at "rp"))
local macro_rules | `(tactic| walk_at "ed") => `(tactic| first
  | exact ed_int | exact ed_str | exact ed_bl | exact ed_non
  | (refine ed_var rfl ?_; walk_at "rp")
  | (refine ed_ixT (ds := [_, _]) ?_ ed_int (by decide) rfl; walk_at "ed")
  | (refine ed_I0 ?_ ?_ <;> walk_at "ed")
  | (refine ed_B0 ?_ ?_ <;> walk_at "ed")
  | (refine ed_eqS ?_ ?_ rfl rfl rfl <;> walk_at "ed")
  | assumption)
local macro_rules | `(tactic| walk_at "ea") => `(tactic| first | exact ea_nil | (refine ea_cons ?_ ?_; walk_at "ed"; walk_at "ea"))

abbrev s__law_pairs : Stmt := topS 45
abbrev N__law_pairs : List Str := ["_law_many", "_law_found", "_law_one", "_law_other"]
theorem sc__law_pairs : FnScope N__law_pairs ["_law_many"] (defScope s__law_pairs) := ⟨rfl, rfl, rfl, by decide +kernel, rfl, by decide +kernel, by decide +kernel⟩
abbrev s__law_near : Stmt := topS 48
abbrev N__law_near : List Str := ["_law_parts_here", "_law_room", "_law_one", "_law_other"]
theorem sc__law_near : FnScope N__law_near ["_law_parts_here", "_law_room"] (defScope s__law_near) := ⟨rfl, rfl, rfl, by decide +kernel, rfl, by decide +kernel, by decide +kernel⟩
abbrev s__law_start : Stmt := topS 49
abbrev N__law_start : List Str := ["_law_parts_here"]
theorem sc__law_start : FnScope N__law_start ["_law_parts_here"] (defScope s__law_start) := ⟨rfl, rfl, rfl, by decide +kernel, rfl, by decide +kernel, by decide +kernel⟩
/-- the pairs i < j below n, row by row -/
def pairsL (n : Nat) : List (Int × Int) := (List.range n).flatMap fun i : Nat => (List.range ((n : Int) - ((i : Int) + 1)).toNat).map fun j : Nat => ((i : Int), (i : Int) + 1 + (j : Int))
theorem mem_pairsL {n : Nat} {p : Int × Int} : p ∈ pairsL n ↔ 0 ≤ p.1 ∧ p.1 < p.2 ∧ p.2 < n := by
  unfold pairsL
  rw [List.mem_flatMap]
  constructor
  · rintro ⟨i, hi, hp⟩
    obtain ⟨j, hj, rfl⟩ := List.mem_map.mp hp
    rw [List.mem_range] at hi hj
    dsimp only
    omega
  · rintro ⟨h1, h2, h3⟩
    refine ⟨p.1.toNat, List.mem_range.mpr (by omega), List.mem_map.mpr ⟨(p.2 - p.1 - 1).toNat, List.mem_range.mpr (by omega), ?_⟩⟩
    have e1 : ((p.1.toNat : Nat) : Int) = p.1 := by omega
    rw [e1]
    have e2 : p.1 + 1 + (((p.2 - p.1 - 1).toNat : Nat) : Int) = p.2 := by omega
    rw [e2]
theorem flatMap_len {α β : Type} (f : α → List β) (m : Nat) : ∀ l : List α, (∀ a ∈ l, (f a).length ≤ m) → (l.flatMap f).length ≤ l.length * m
  | [], _ => by simp
  | a :: l, h => by
    rw [List.flatMap_cons, List.length_append, List.length_cons, Nat.add_mul, Nat.one_mul]
    have h1 := h a (List.mem_cons_self ..)
    have h2 := flatMap_len f m l fun b hb => h b (List.mem_cons_of_mem _ hb)
    omega
theorem pairs_len {n i : Nat} (hi : i ≤ n) (hn : n ≤ 60) : ((List.range i).flatMap fun i : Nat => (List.range ((n : Int) - ((i : Int) + 1)).toNat).map fun j : Nat => ((i : Int), (i : Int) + 1 + (j : Int))).length ≤ 3600 := by
  refine Nat.le_trans (flatMap_len _ 60 _ fun a _ => ?_) ?_
  · rw [List.length_map, List.length_range]
    omega
  · rw [List.length_range]
    have := Nat.mul_le_mul (show i ≤ 60 by omega) (Nat.le_refl 60)
    omega
section
variable {P : Program} {w : World} {K : PySem.W.Frag} {mg : Str → Option Value} {base : Heap}
def R_pairs : List D → Hp → Pd → Prop := fun ds _ P => ∃ n : Nat, ds = [.int (n : Int)] ∧ n ≤ 60 ∧ P = is (.lst ((pairsL n).map eP))
theorem ok_pairs (T : Txt mg) (g : GDef K mg "_law_pairs" s__law_pairs ["_law_many"]) : Def P w K mg base 1 "_law_pairs" ["_law_many"] (spD K R_pairs) := by
  refine defD g sc__law_pairs (fun ds H Pd h => ?_) fun cdv A outer s f H vs ds Pd Q E hr r h q => ?_
  · obtain ⟨n, rfl, _⟩ := h
    rfl
  obtain ⟨n, rfl, hn, rfl⟩ := h
  obtain ⟨v1, rfl, r1⟩ := rps1 r
  have e1 := rp_int r1
  subst e1
  refine ⟨_, (pss_cons (ps_set (i := 1) sc__law_pairs.nd rfl (Or.inl rfl) (pe_lst pa_nil))
    (pss_cons (ps_for PassesOwn.never rfl (pi_range1 (by rfl) T.n_range (pa_cons (pv 0) pa_nil)) (pg_name (i := 2) sc__law_pairs.nd rfl (Or.inr rfl))
      (pss_one (ps_expr (pe_bm PySem.F.plainAttrs_list PySem.F.slot_list_extend PySem.F.type_list_extend mt_extend (pv 1) (pa_cons (pe_lc (own := [("_law_other", 3)]) rfl sc__law_pairs.nd (pi_range2 (by rfl) T.n_range (pa_cons (pe_op op_add (pv 2) pe_int) (pa_cons (pv 0) pa_nil))) (blkOk_by (N := N__law_pairs) (sc := defScope s__law_pairs) (by decide +kernel)) (fun _ _ _ _ _ => (pg_name (i := 3) sc__law_pairs.nd rfl (Or.inl rfl))) (fun _ _ _ _ _ => pts_nil) (fun _ _ _ _ _ => (pe_tup (pa_cons (pv 2) (pa_cons (pv 3) pa_nil))))) pa_nil)))))
    (pss_one (ps_ret (pv 1))))), ?_⟩
  refine q_asgF (K := K) (ef_lst (ds := []) ea_nil (by decide) rfl) fun c vs ds H1 nc e1 hc nh rr hd => ?_
  subst hd
  refine q_forR1 (K := K) (n := (n : Int)) (ea_cons (ed_var rfl (.int _)) ea_nil) (by omega) fun H2 e2 => ?_
  refine ⟨fun i σ H' => ∃ y ws, σ = [some (.int (n : Int)), some (.ref c), y, none] ∧ Le H H' ∧ H' c = some (.lst ws) ∧ i ≤ n ∧
    Rps K H' ws (((List.range i).flatMap fun i : Nat => (List.range ((n : Int) - ((i : Int) + 1)).toNat).map fun j : Nat => ((i : Int), (i : Int) + 1 + (j : Int))).map eP), ⟨none, vs, rfl, e1.trans e2, e2.lst hc nh, Nat.zero_le _, rr.le e2⟩, ?_, ?_⟩
  · rintro i σ H' hi ⟨y, ws, rfl, e, hc', _, rr'⟩
    have nh' : NotH ws := (enc_P.un _).notH rr'
    refine s_ext (ds := ((List.range ((n : Int) - ((i : Int) + 1)).toNat).map fun j : Nat => ((i : Int), (i : Int) + 1 + (j : Int))).map eP) hc' nh' (ed_var rfl (.obj _)) (fun H3 e3 => ?_) ?_ ?_
    · refine ed_lcR2 enc_P (fun k => ((i : Int), k)) (ea_cons (ed_I0 (f := fun i j => i + j) (ed_var rfl (.int (i : Int))) ed_int) (ea_cons (ed_var rfl (.int (n : Int))) ea_nil)) (by omega) (fun _ => rfl) fun j H4 e4 hj => ?_
      exact ed_tup (ea_cons (ed_var rfl (.int _)) (ea_cons (ed_var rfl (.int _)) ea_nil)) (by show 2 ≤ 100000; decide)
    · rw [rr'.len, List.length_map, List.length_map, List.length_map, List.length_range]
      have := pairs_len (n := n) (i := i) (by omega) hn
      omega
    · intro ws2 H3 e3 rr2 hc3
      refine ⟨_, ws ++ ws2, rfl, (e.trans e3).mut nc, upd_same, by omega, ?_⟩
      rw [List.range_succ, List.flatMap_append, List.map_append]
      refine ((rr'.le e3).upd hc3 (enc_P.nl _)).app ?_
      rw [List.flatMap_cons, List.flatMap_nil, List.append_nil]
      exact rr2.upd hc3 (enc_P.nl _)
  · rintro σ H' ⟨y, ws, rfl, e, hc', _, rr'⟩
    rw [Int.toNat_natCast] at rr'
    refine s_retD (ed_var rfl (.lst hc' ((enc_P.un _).notH rr') rr')) fun v H3 e3 r3 => ?_
    exact q v _ H3 (e.trans e3) rfl r3
/-! ### parts as data -/
def eW (ms : List Int) (ties : List (Int × Int)) : D := .tup [.tup (ms.map .int), .tup (ties.map eP)]
def rawNear (ties : List (Int × Int)) (r : Int) : List Int := (ties.filter fun p => decide (r ∈ [p.1, p.2])).map fun p => p.1 + p.2 - r
structure Near (ties : List (Int × Int)) (r : Int) (ns : List Int) : Prop where
  perm : ns.Perm (rawNear ties r)
  up : ns.Pairwise (· ≤ ·)
def R_near : List D → Hp → (List D → Prop) → Prop := fun ds _ P => ∃ ms ties r, ds = [eW ms ties, .int r] ∧ ties.length ≤ 3600 ∧ P = fun es => ∃ ns : List Int, es = ns.map .int ∧ Near ties r ns
theorem ok_near (T : Txt mg) (g : GDef K mg "_law_near" s__law_near ["_law_parts_here", "_law_room"]) : Def P w K mg base 1 "_law_near" ["_law_parts_here", "_law_room"] (spF K R_near) := by
  refine defF g sc__law_near (fun ds H Pd h => ?_) fun cdv A outer s f H vs ds Pd Q E hr r h q => ?_
  · obtain ⟨ms, ties, n, rfl, _⟩ := h
    rfl
  obtain ⟨ms, ties, n, rfl, hz, rfl⟩ := h
  obtain ⟨v1, v2, rfl, r1, r2⟩ := rps2 r
  refine ⟨_, (pss_one (ps_ret (pe_callB (kc_sortedI (K := K)) (by rfl) T.n_sorted boot_sorted (pa_cons (pe_lc (own := [("_law_one", 2), ("_law_other", 3)]) rfl sc__law_near.nd (kpi_tup (K := K) (pe_ix (kix_tup (K := K)) (pv 0) pe_int (fun _ _ => rfl))) (blkOk_by (N := N__law_near) (sc := defScope s__law_near) (by decide +kernel)) (fun _ _ _ _ _ => (kpg_tup (K := K) (n := 2) rfl (pgs_cons (pg_name (i := 2) sc__law_near.nd rfl (Or.inl rfl)) (pgs_cons (pg_name (i := 3) sc__law_near.nd rfl (Or.inl rfl)) pgs_nil)))) (fun _ _ _ _ _ => (pts_one (pt_cmpR (kop_in (K := K)) (pv 1) (pe_tup (pa_cons (pv 2) (pa_cons (pv 3) pa_nil))) (by rfl)))) (fun _ _ _ _ _ => (pe_op op_sub (pe_op op_add (pv 2) (pv 3)) (pv 1)))) pa_nil)))), ?_⟩
  refine s_retF (ef_sortedI (PN := fun ns => ns = rawNear ties n) ?_) fun p us es H1 np e1 hp nh rr pl => q p us es H1 np e1 hp nh rr (by
    obtain ⟨ns, ns', rfl, rfl, hp, hs⟩ := pl
    exact ⟨ns', rfl, hp, hs⟩)
  · refine EP.weak (ed_lcT2 enc_int ties (fun p => decide (n ∈ [p.1, p.2])) (fun p => p.1 + p.2 - n) (ed_ixT (ds := [_, _]) (ed_var rfl r1) ed_int (by decide) rfl) (by omega) (fun _ _ => rfl) (fun p H1 e hp => ?_) fun p H1 e hp _ => ?_) fun d H2 _ p => ⟨_, p, rfl⟩
    · exact et_test (ed_inT (ns := [p.1, p.2]) (ed_var rfl (r2.le e)) (ed_tup (ea_cons (ed_var rfl (.int _)) (ea_cons (ed_var rfl (.int _)) ea_nil)) (by show 2 ≤ 100000; decide)))
    · exact ed_I0 (f := fun i j => i - j) (ed_I0 (f := fun i j => i + j) (ed_var rfl (.int _)) (ed_var rfl (.int _))) (ed_var rfl (r2.le e))
def eR (x : Bool × List Int) : D := .tup [.bl x.1, .tup (x.2.map .int)]
theorem enc_R : Enc eR := enc_tup fun a d hd => by
  rcases List.mem_cons.mp hd with rfl | hd
  · exact .bl _
  · rcases List.mem_cons.mp hd with rfl | hd
    · exact .tup (noL_ints _)
    · cases hd
theorem rep_flat {α : Type} (a : α) : ∀ n : Nat, (List.replicate n [a]).flatten = List.replicate n a
  | 0 => rfl
  | n + 1 => by
    rw [List.replicate_succ, List.flatten_cons, rep_flat a n]
    rfl
def R_start : List D → Hp → Pd → Prop := fun ds _ P => ∃ ms ties, ds = [eW ms ties] ∧ ms.length ≤ 60 ∧ P = is (.lst ((List.replicate ms.length (false, [])).map eR))
theorem ok_start (T : Txt mg) (g : GDef K mg "_law_start" s__law_start ["_law_parts_here"]) : Def P w K mg base 1 "_law_start" ["_law_parts_here"] (spD K R_start) := by
  refine defD g sc__law_start (fun ds H Pd h => ?_) fun cdv A outer s f H vs ds Pd Q E hr r h q => ?_
  · obtain ⟨ms, ties, rfl, _⟩ := h
    rfl
  obtain ⟨ms, ties, rfl, hz, rfl⟩ := h
  obtain ⟨v1, rfl, r1⟩ := rps1 r
  refine ⟨_, (pss_one (ps_ret (pe_op op_rep (pe_lst (pa_cons (pe_tup (pa_cons pe_bl (pa_cons (pe_tup pa_nil) pa_nil))) pa_nil)) (pe_callB (kc_len (K := K)) (by rfl) T.n_len boot_len (pa_cons (pe_ix (kix_tup (K := K)) (pv 0) pe_int (fun _ _ => rfl)) pa_nil))))), ?_⟩
  have eq : (List.replicate ((ms.map D.int).length : Int).toNat [eR (false, [])]).flatten = (List.replicate ms.length (false, [])).map eR := by
    rw [rep_flat, Int.toNat_natCast, List.length_map, List.map_replicate]
  refine s_retD (ed_eq (ed_rep (ds := [eR (false, [])]) (k := ((ms.map D.int).length : Int)) ?_ ?_ ?_ (by show 1 ≤ 1000; decide) ?_) (congrArg D.lst eq)) fun v H1 e1 r => q v _ H1 e1 rfl r
  · exact ed_lst (ea_cons (ed_tup (ea_cons ed_bl (ea_cons (ed_tup ea_nil (by decide)) ea_nil)) (by show 2 ≤ 100000; decide)) ea_nil) (by show 1 ≤ 100000; decide) rfl
  · exact ed_lenT (ed_ixT (ds := [_, _]) (ed_var rfl r1) ed_int (by decide) rfl)
  · rw [List.length_map]; omega
  · rw [eq]
    exact enc_R.un _
end
end W1

set_option maxRecDepth 100000
set_option maxHeartbeats 4000000
namespace W1
open PySem PyProof.Rows L2
local macro_rules | `(tactic| walk_at "rp") => `(tactic| first | assumption | exact Rp.int _ | exact Rp.bl _ | exact Rp.str _ | exact Rp.non | exact Rp.obj _ | (refine Rp.le (by assumption) ?_; walk_at "rp"))
local macro_rules | `(tactic| walk_at "ed") => `(tactic| first
  | exact ed_int | exact ed_str | exact ed_bl | exact ed_non
  | (refine ed_var rfl ?_; walk_at "rp")
  | (refine ed_ixT (ds := [_, _]) ?_ ed_int (by decide) rfl; walk_at "ed")
  | (refine ed_I0 ?_ ?_ <;> walk_at "ed")
  | (refine ed_B0 ?_ ?_ <;> walk_at "ed")
  | (refine ed_eqS ?_ ?_ rfl rfl rfl <;> walk_at "ed")
  | assumption)
local macro_rules | `(tactic| walk_at "ea") => `(tactic| first | exact ea_nil | (refine ea_cons ?_ ?_; walk_at "ed"; walk_at "ea"))

abbrev s__law_parts : Stmt := topS 46
abbrev N__law_parts : List Str := ["_law_hand_here", "_law_most", "_law_memory", "_law_many", "_law_kind", "_law_share", "_law_memories", "_law_pairs_here", "_law_ties", "_law_room", "_law_pair"]
theorem sc__law_parts : FnScope N__law_parts ["_law_hand_here", "_law_most", "_law_memory"] (defScope s__law_parts) := ⟨rfl, rfl, rfl, by decide +kernel, rfl, by decide +kernel, by decide +kernel⟩
structure PartsOk (ms : List Int) (ties : List (Int × Int)) : Prop where
  some : 1 ≤ ms.length
  few : ms.length ≤ 60
  mem : ∀ m ∈ ms, 0 ≤ m ∧ m ≤ 30
  sub : ties.Sublist (pairsL ms.length)
theorem PartsOk.len {ms : List Int} {ties : List (Int × Int)} (h : PartsOk ms ties) : ties.length ≤ 3600 := Nat.le_trans h.sub.length_le (pairs_len (n := ms.length) (i := ms.length) (Nat.le_refl _) h.few)
section
variable {P : Program} {w : World} {K : PySem.W.Frag} {mg : Str → Option Value} {base : Heap}
section
variable {σ : L2.St} {H : Hp} {E : XK} {h : Addr} {ta tb : TE} {a : TA}
theorem ep_plus {m k : Int} (hd : EP K tb σ H (fun d _ => ∃ r : Int, d = .int r ∧ 0 ≤ r ∧ r < m)) : EP K (tOp (rI0 fun i j => .int (i + j)) (tC (.int k)) tb) σ H (fun d _ => ∃ r : Int, d = .int r ∧ k ≤ r ∧ r < k + m) :=
  ep_I0 ed_int hd fun d1 d2 H1 H2 _ _ p1 ⟨r, e, h0, h1⟩ => ⟨k, r, p1, e, _, ⟨k + r, rfl, by omega, by omega⟩, .int _⟩
theorem et_eq0 {k : Int} (hd : EP K ta σ H (fun d _ => ∃ r : Int, d = .int r)) : ET (tTest (tOp rEq ta (tC (.int k)))) σ H fun _ => True :=
  et_testp (ep_op hd ed_int fun x y d1 d2 H1 H2 _ _ ⟨r, e⟩ p2 r1 r2 Q q => by
    have p2' : d2 = .int k := p2
    subst e p2'
    rw [rp_int r1, rp_int r2]
    exact ⟨rfl, q _ (.bl _) H2 (Le.refl _) ⟨_, rfl⟩ (.bl _)⟩)
theorem et_cmp {g : Int → Int → Bool} (hd : EP K ta σ H (fun d _ => ∃ r : Int, d = .int r)) (hb : EP K tb σ H (fun d _ => ∃ r : Int, d = .int r)) : ET (tTest (tOp (rI0 fun i j => .bl (g i j)) ta tb)) σ H fun _ => True :=
  et_testp (ep_I0 hd hb fun d1 d2 H1 H2 _ _ ⟨i, e1⟩ ⟨j, e2⟩ => ⟨i, j, e1, e2, .bl (g i j), ⟨_, rfl⟩, .bl _⟩)
theorem EP.anyI {m : Int} (hd : EP K tb σ H (fun d _ => ∃ r : Int, d = .int r ∧ 0 ≤ r ∧ r < m)) : EP K tb σ H (fun d _ => ∃ r : Int, d = .int r) := hd.weak fun d _ _ ⟨r, e, _⟩ => ⟨r, e⟩
end
def R_parts : List D → Hp → Pd → Prop := fun ds H P => ∃ (h : Addr) (most m : Int), ds = [.obj (.ref h), .int most, .int m] ∧ Hand H h ∧ 1 ≤ most ∧ most ≤ 60 ∧ 0 ≤ m ∧ m ≤ 30 ∧
  P = fun d _ => ∃ ms ties, d = eW ms ties ∧ PartsOk ms ties ∧ (ms.length : Int) ≤ most ∧ ∀ z ∈ ms, z ≤ m
theorem ok_parts (T : Txt mg) (g : GDef K mg "_law_parts" s__law_parts ["_law_hand_here", "_law_most", "_law_memory"]) (G_law_draw : Def P w K mg base 1 "_law_draw" ["_law_hand_here", "_law_many"] (spD K R_draw))
    (G_law_pairs : Def P w K mg base 1 "_law_pairs" ["_law_many"] (spD K R_pairs)) : Def P w K mg base 2 "_law_parts" ["_law_hand_here", "_law_most", "_law_memory"] (spD K R_parts) := by
  refine defD g sc__law_parts (fun ds H Pd h => ?_) fun cdv A outer s f H vs ds Pd Q E hr r h q => ?_
  · obtain ⟨h, a, b, rfl, _⟩ := h
    rfl
  obtain ⟨h, most, mm, rfl, hh, m1, m2, mm0, mm1, rfl⟩ := h
  obtain ⟨v1, v2, v3, rfl, r1, r2, r3⟩ := rps3 r
  refine ⟨_, (pss_cons (ps_asg (pe_tup (pa_cons (pe_op op_add pe_int (pe_def G_law_draw (hr.mono (by decide)) (pa_cons (pv 0) (pa_cons (pv 1) pa_nil)))) (pa_cons (pe_def G_law_draw (hr.mono (by decide)) (pa_cons (pv 0) (pa_cons pe_int pa_nil))) (pa_cons (pe_op op_add pe_int (pe_def G_law_draw (hr.mono (by decide)) (pa_cons (pv 0) (pa_cons pe_int pa_nil)))) pa_nil)))) (kpg_tup (K := K) (n := 3) rfl (pgs_cons (pg_name (i := 3) sc__law_parts.nd rfl (Or.inr rfl)) (pgs_cons (pg_name (i := 4) sc__law_parts.nd rfl (Or.inl rfl)) (pgs_cons (pg_name (i := 5) sc__law_parts.nd rfl (Or.inr rfl)) pgs_nil)))))
    (pss_cons (ps_setLc (i := 6) (own := [("_law_room", 9)]) rfl sc__law_parts.nd rfl rfl (sw_true rfl rfl rfl (by decide +kernel)) (pi_range1 (by rfl) T.n_range (pa_cons (pv 3) pa_nil)) (blkOk_by (N := N__law_parts) (sc := defScope s__law_parts) (by decide +kernel)) (fun _ _ _ _ _ => (pg_name (i := 9) sc__law_parts.nd rfl (Or.inl rfl))) (fun _ _ _ _ _ => pts_nil) (fun _ _ _ _ _ => (pe_def G_law_draw (hr.mono (by decide)) (pa_cons (pv 0) (pa_cons (pe_op op_add (pv 2) pe_int) pa_nil)))))
    (Evl.pss_cut (ps_if (pt_cmpR op_eq (pe_def G_law_draw (hr.mono (by decide)) (pa_cons (pv 0) (pa_cons pe_int pa_nil))) pe_int (nomark _))
      (pss_one (ps_set (i := 6) sc__law_parts.nd rfl (Or.inl rfl) (pe_op op_rep (pe_lst (pa_cons (pe_ix (kix_list (K := K)) (pv 6) pe_int (fun _ _ => rfl)) pa_nil)) (pv 3))))
      pss_nil)
    (pss_cons (ps_set (i := 7) sc__law_parts.nd rfl (Or.inl rfl) (pe_def G_law_pairs (hr.mono (by decide)) (pa_cons (pv 3) pa_nil)))
    (Evl.pss_cut (ps_if (pt_cmpR op_eq (pv 4) pe_int (nomark _))
      (pss_one (ps_setLc (i := 8) (own := [("_law_pair", 10)]) rfl sc__law_parts.nd rfl rfl (sw_true rfl rfl rfl (by decide +kernel)) (kpi_list (K := K) (pv 7)) (blkOk_by (N := N__law_parts) (sc := defScope s__law_parts) (by decide +kernel)) (fun _ _ _ _ _ => (pg_name (i := 10) sc__law_parts.nd rfl (Or.inl rfl))) (fun _ _ _ _ _ => (pts_one (pt_cmpR (kop_in (K := K)) (pe_op op_sub (pe_ix (kix_tup (K := K)) (pv 10) pe_int (fun _ _ => rfl)) (pe_ix (kix_tup (K := K)) (pv 10) pe_int (fun _ _ => rfl))) (pe_tup (pa_cons pe_int (pa_cons (pe_op op_sub (pv 3) pe_int) pa_nil))) (by rfl)))) (fun _ _ _ _ _ => (pv 10))))
      (pss_one (ps_if (pt_cmpR op_eq (pv 4) pe_int (nomark _))
      (pss_one (ps_setLc (i := 8) (own := [("_law_pair", 10)]) rfl sc__law_parts.nd rfl rfl (sw_true rfl rfl rfl (by decide +kernel)) (kpi_list (K := K) (pv 7)) (blkOk_by (N := N__law_parts) (sc := defScope s__law_parts) (by decide +kernel)) (fun _ _ _ _ _ => (pg_name (i := 10) sc__law_parts.nd rfl (Or.inl rfl))) (fun _ _ _ _ _ => (pts_one (pt_cmpR op_eq (pe_op op_sub (pe_ix (kix_tup (K := K)) (pv 10) pe_int (fun _ _ => rfl)) (pe_ix (kix_tup (K := K)) (pv 10) pe_int (fun _ _ => rfl))) pe_int (nomark _)))) (fun _ _ _ _ _ => (pv 10))))
      (pss_one (ps_if (pt_cmpR op_eq (pv 4) pe_int (nomark _))
      (pss_one (ps_setLc (i := 8) (own := [("_law_pair", 10)]) rfl sc__law_parts.nd rfl rfl (sw_true rfl rfl rfl (by decide +kernel)) (kpi_list (K := K) (pv 7)) (blkOk_by (N := N__law_parts) (sc := defScope s__law_parts) (by decide +kernel)) (fun _ _ _ _ _ => (pg_name (i := 10) sc__law_parts.nd rfl (Or.inl rfl))) (fun _ _ _ _ _ => (pts_one (PW.pt (pw_and (pt_cmpR op_eq (pe_op op_mod (pe_callTy call_int1 (by rfl) T.n_int boot_int (pa_cons (pe_op op_add (pe_ix (kix_tup (K := K)) (pv 10) pe_int (fun _ _ => rfl)) (pe_ix (kix_tup (K := K)) (pv 10) pe_int (fun _ _ => rfl))) pa_nil)) pe_int) pe_int (nomark _)) (pw_and1 (pt_cmpR op_lt (pe_def G_law_draw (hr.mono (by decide)) (pa_cons (pv 0) (pa_cons pe_int pa_nil))) (pv 5) (nomark _))))))) (fun _ _ _ _ _ => (pv 10))))
      (pss_one (ps_if (pt_cmpR op_eq (pv 4) pe_int (nomark _))
      (pss_one (ps_setLc (i := 8) (own := [("_law_pair", 10)]) rfl sc__law_parts.nd rfl rfl (sw_true rfl rfl rfl (by decide +kernel)) (kpi_list (K := K) (pv 7)) (blkOk_by (N := N__law_parts) (sc := defScope s__law_parts) (by decide +kernel)) (fun _ _ _ _ _ => (pg_name (i := 10) sc__law_parts.nd rfl (Or.inl rfl))) (fun _ _ _ _ _ => (pts_one (pt_cmpR op_eq (pe_ix (kix_tup (K := K)) (pv 10) pe_int (fun _ _ => rfl)) pe_int (nomark _)))) (fun _ _ _ _ _ => (pv 10))))
      (pss_one (ps_setLc (i := 8) (own := [("_law_pair", 10)]) rfl sc__law_parts.nd rfl rfl (sw_true rfl rfl rfl (by decide +kernel)) (kpi_list (K := K) (pv 7)) (blkOk_by (N := N__law_parts) (sc := defScope s__law_parts) (by decide +kernel)) (fun _ _ _ _ _ => (pg_name (i := 10) sc__law_parts.nd rfl (Or.inl rfl))) (fun _ _ _ _ _ => (pts_one (pt_cmpR op_lt (pe_def G_law_draw (hr.mono (by decide)) (pa_cons (pv 0) (pa_cons pe_int pa_nil))) (pv 5) (nomark _)))) (fun _ _ _ _ _ => (pv 10)))))))))))
    (pss_one (ps_ret (pe_tup (pa_cons (pe_callTy (kc_tuple (K := K)) (by rfl) T.n_tuple boot_tuple (pa_cons (pv 6) pa_nil)) (pa_cons (pe_callTy (kc_tuple (K := K)) (by rfl) T.n_tuple boot_tuple (pa_cons (pv 8) pa_nil)) pa_nil)))))))))), ?_⟩
  -- many, kind, share
  refine q_tup3 (K := K) (ep_cons (ep_plus (ep_draw hh (ea_cons (ed_var rfl r1) (ea_cons (ed_var rfl r2) ea_nil)) (by omega)))
    (ep_cons (ep_draw hh (ea_cons (ed_var rfl r1) (ea_cons ed_int ea_nil)) (by omega)) (ep_cons (ep_plus (ep_draw hh (ea_cons (ed_var rfl r1) (ea_cons ed_int ea_nil)) (by omega))) ea_nil))) ?_ ?_
  · rintro ds H1 ⟨d, r, H2, rfl, _, _, d2, r2, H3, rfl, _, _, d3, r3, H4, rfl, _, _, rfl⟩
    rfl
  rintro w1 w2 w3 d1 d2 d3 H1 e1 ⟨d, r, H2, er, _, ⟨many, em, n1, n2⟩, d', r', H3, er2, _, ⟨kind, ek, _, _⟩, d'', r'', H4, er3, _, ⟨share, es, _, _⟩, er4⟩ q1 q2 q3 H5 e5
  injection er with ea eb
  subst eb
  injection er2 with ea2 eb
  subst eb
  injection er3 with ea3 eb
  subst er4 ea ea2 ea3 em ek es
  have ew1 := rp_int q1
  have ew2 := rp_int q2
  have ew3 := rp_int q3
  subst ew1 ew2 ew3
  have e0 := e1.trans e5
  obtain ⟨n, rfl⟩ : ∃ n : Nat, many = (n : Int) := ⟨many.toNat, by omega⟩
  have hh1 := hh.le e0
  have hv1 : v1 = .ref h := rp_obj r1
  have hv3 : v3 = .int mm := rp_int r3
  subst hv1 hv3
  -- memories
  refine q_asg (K := K) (ep_lcR enc_int (n := n) (fun z => 0 ≤ z ∧ z ≤ mm) (ea_cons (ed_var rfl (.int _)) ea_nil) (by omega) (fun _ => rfl) fun i H6 e6 hi => ?_) ?_
  · refine (ep_draw (hh1.le e6) (ea_cons (ed_var rfl (.obj _)) (ea_cons (ed_I0 (f := fun i j => i + j) (ed_var rfl (.int mm)) ed_int) ea_nil)) (by omega)).weak fun d H7 _ p => ?_
    obtain ⟨r, rfl, h0, h1⟩ := p
    exact ⟨r, rfl, h0, by omega⟩
  rintro v6 d6 H6 e6 ⟨zs, rfl, hzl, hz⟩ r6
  -- all of one memory, perhaps
  refine q_cut (M := fun σ H' => ∃ v6 zs, σ = [some (.ref h), some v2, some (.int mm), some (.int (n : Int)), some (.int kind), some (.int share), some v6, none, none, none, none] ∧ Le H6 H' ∧ Rp K H' v6 (.lst (List.map D.int zs)) ∧ zs.length = n ∧ ∀ z ∈ zs, 0 ≤ z ∧ z ≤ mm) ?_ ?_
  · refine s_if (et_eq0 (K := K) (EP.anyI (ep_draw (hh1.le e6) (ea_cons (ed_var rfl (.obj _)) (ea_cons ed_int ea_nil)) (by omega)))) (fun _ H7 e7 => ?_) (fun _ H7 e7 => ?_)
    · obtain ⟨z, zs, rfl⟩ : ∃ z r, zs = z :: r := by
        cases zs with
        | nil =>
          rw [List.length_nil] at hzl
          omega
        | cons z r => exact ⟨z, r, rfl⟩
      have eq : (List.replicate ((n : Int)).toNat [D.int z]).flatten = (List.replicate n z).map D.int := by
        rw [rep_flat, Int.toNat_natCast, List.map_replicate]
      refine s_asgD (ed_eq (ed_rep (ds := [.int z]) (k := (n : Int)) (ed_lst (ea_cons (ed_ixL (ed_var rfl (r6.le e7)) ed_int (by decide) rfl) ea_nil) (by show 1 ≤ 100000; decide) rfl) (ed_var rfl (.int _)) (by omega) (by show 1 ≤ 1000; decide) (by rw [eq]; exact enc_int.un _)) (congrArg D.lst eq)) fun v H8 e8 r8 => ?_
      refine ⟨v, List.replicate n z, rfl, e7.trans e8, r8, List.length_replicate, fun y hy => ?_⟩
      rw [List.eq_of_mem_replicate hy]
      exact hz z (List.mem_cons_self ..)
    · exact ⟨v6, zs, rfl, e7, r6.le e7, hzl, hz⟩
  clear r6 hz hzl zs v6
  rintro σ H7 ⟨v6, zs, rfl, e7, r6, hzl, hz⟩
  have e07 := (e0.trans e6).trans e7
  -- the pairs
  refine q_asgD (K := K) (ed_call (P := is (.lst ((pairsL n).map eP))) (ea_cons (ed_var rfl (.int (n : Int))) ea_nil) fun H8 _ => ⟨n, rfl, by omega, rfl⟩) fun v7 H8 e8 r7 => ?_
  have pl : (pairsL n).length ≤ 50000 := Nat.le_trans (pairs_len (n := n) (i := n) (Nat.le_refl _) (by omega)) (by decide)
  have hh8 := hh.le (e07.trans e8)
  -- the ties
  refine q_cut (M := fun σ H' => ∃ v8 ties, σ = [some (.ref h), some v2, some (.int mm), some (.int (n : Int)), some (.int kind), some (.int share), some v6, some v7, some v8, none, none] ∧ Le H8 H' ∧ Rp K H' v8 (.lst (List.map eP ties)) ∧ ties.Sublist (pairsL n)) ?_ ?_
  · have fin : ∀ {σ : L2.St} {H9 : Hp} {te : TE} {D1 : Ends}, σ = [some (.ref h), some v2, some (.int mm), some (.int (n : Int)), some (.int kind), some (.int share), some v6, some v7, none, none, none] → Le H8 H9 →
        (D1.nx = fun σ H' => ∃ v8 ties, σ = [some (.ref h), some v2, some (.int mm), some (.int (n : Int)), some (.int kind), some (.int share), some v6, some v7, some v8, none, none] ∧ Le H8 H' ∧ Rp K H' v8 (.lst (List.map eP ties)) ∧ ties.Sublist (pairsL n)) →
        EP K te σ H9 (fun d _ => ∃ zs, d = .lst (List.map eP zs) ∧ zs.Sublist (pairsL n)) → tAsg te (gName 8) D1 σ H9 := by
      intro σ H9 te D1 es e9 en hp
      refine s_asg hp fun v d H10 e10 p r => ?_
      obtain ⟨zs, rfl, hs⟩ := p
      rw [en, es]
      exact ⟨v, zs, rfl, e9.trans e10, r, hs⟩
    have prs : ∀ {H9 : Hp} {σ : L2.St}, Le H8 H9 → σ[7]? = some (some v7) → ED K (tVar 7) σ H9 (.lst (List.map eP (pairsL n))) := fun e9 hs => ed_var hs (r7.le e9)
    have comp : ∀ {H9 : Hp} {σ : L2.St} {tt : TT}, Le H8 H9 → σ[7]? = some (some v7) → (∀ x, wipe ((wipe σ [10]).set 10 (some x)) [10] = wipe σ [10]) → ((wipe σ [10]).length = 11) →
        (∀ b v H1, Le H9 H1 → Rp K H1 v (eP b) → ET tt ((wipe σ [10]).set 10 (some v)) H1 fun _ => True) → EP K (tLc (iList K (tVar 7)) (gName 10) tt (tVar 10) [10]) σ H9 (fun d _ => ∃ zs, d = .lst (List.map eP zs) ∧ zs.Sublist (pairsL n)) := by
      intro H9 σ tt e9 h7 hw hlen ht
      refine ep_lcSub enc_P (pairsL n) (fun _ => True) (prs e9 h7) pl hw (fun b v H1 e hb r => et_weak (ht b v H1 e r) fun _ _ _ => trivial) fun b v H1 e hb r => ed_var ?_ r
      rw [List.getElem?_set_self (by omega)]
    have dif : ∀ {H1 : Hp} {σ : L2.St} {v : V} {b : Int × Int}, σ[10]? = some (some v) → Rp K H1 v (eP b) → ED K (tOp (rI0 fun i j => .int (i - j)) (tOp (rIxT K) (tVar 10) (tC (.int 1))) (tOp (rIxT K) (tVar 10) (tC (.int 0)))) σ H1 (.int (b.2 - b.1)) := fun hs r =>
      ed_I0 (f := fun i j => i - j) (ed_ixT (ds := [_, _]) (ed_var hs r) ed_int (by decide) rfl) (ed_ixT (ds := [_, _]) (ed_var hs r) ed_int (by decide) rfl)
    refine s_if (et_eq0 (K := K) (EP.weak (ed_var rfl (.int kind)) fun d _ _ p => ⟨_, p⟩)) (fun _ H9 e9 => ?_) (fun _ H9 e9 => ?_)
    · refine fin rfl e9 rfl (comp e9 rfl (fun _ => rfl) rfl fun b v H1 e r => et_weak (et_test (ed_inT (ns := [1, (n : Int) - 1]) (dif rfl r) (ed_tup (ea_cons ed_int (ea_cons (ed_I0 (f := fun i j => i - j) (ed_var rfl (.int _)) ed_int) ea_nil)) (by show 2 ≤ 100000; decide)))) fun _ _ => trivial)
    refine s_if (et_eq0 (K := K) (EP.weak (ed_var rfl (.int kind)) fun d _ _ p => ⟨_, p⟩)) (fun _ H10 e10 => ?_) (fun _ H10 e10 => ?_)
    · refine fin rfl (e9.trans e10) rfl (comp (e9.trans e10) rfl (fun _ => rfl) rfl fun b v H1 e r => et_weak (et_test (ed_eqS (dif rfl r) ed_int rfl rfl rfl)) fun _ _ => trivial)
    refine s_if (et_eq0 (K := K) (EP.weak (ed_var rfl (.int kind)) fun d _ _ p => ⟨_, p⟩)) (fun _ H11 e11 => ?_) (fun _ H11 e11 => ?_)
    · refine fin rfl ((e9.trans e10).trans e11) rfl (comp ((e9.trans e10).trans e11) rfl (fun _ => rfl) rfl fun b v H1 e r => ?_)
      refine et_weak (et_and (et_test (ed_eqS (ed_I (f := fun i j => i % j) (ed_int1 (ed_I0 (f := fun i j => i + j) (ed_ixT (ds := [_, _]) (ed_var rfl r) ed_int (by decide) rfl) (ed_ixT (ds := [_, _]) (ed_var rfl r) ed_int (by decide) rfl))) ed_int (by show (0 : Int) < 2; decide)) ed_int rfl rfl rfl)) fun _ => et_cmp (K := K) (EP.anyI (ep_draw (((hh8.le e9).le (e10.trans e11)).le e) (ea_cons (ed_var rfl (.obj _)) (ea_cons ed_int ea_nil)) (by omega))) (EP.weak (ed_var rfl (.int share)) fun d _ _ p => ⟨_, p⟩)) fun _ _ => trivial
    refine s_if (et_eq0 (K := K) (EP.weak (ed_var rfl (.int kind)) fun d _ _ p => ⟨_, p⟩)) (fun _ H12 e12 => ?_) (fun _ H12 e12 => ?_)
    · refine fin rfl (((e9.trans e10).trans e11).trans e12) rfl (comp (((e9.trans e10).trans e11).trans e12) rfl (fun _ => rfl) rfl fun b v H1 e r => et_weak (et_test (ed_eqS (ed_ixT (ds := [_, _]) (ed_var rfl r) ed_int (by decide) rfl) ed_int rfl rfl rfl)) fun _ _ => trivial)
    · refine fin rfl (((e9.trans e10).trans e11).trans e12) rfl (comp (((e9.trans e10).trans e11).trans e12) rfl (fun _ => rfl) rfl fun b v H1 e r => ?_)
      exact et_cmp (K := K) (EP.anyI (ep_draw ((((hh8.le e9).le (e10.trans e11)).le e12).le e) (ea_cons (ed_var rfl (.obj _)) (ea_cons ed_int ea_nil)) (by omega))) (EP.weak (ed_var rfl (.int share)) fun d _ _ p => ⟨_, p⟩)
  rintro σ H9 ⟨v8, ties, rfl, e9, r8, hs⟩
  refine s_retD (ed_tup (ea_cons (ed_tupOf (ed_var rfl (r6.le (e8.trans e9)))) (ea_cons (ed_tupOf (ed_var rfl r8)) ea_nil)) (by show 2 ≤ 100000; decide)) fun v H10 e10 r => ?_
  refine q v _ H10 (((e07.trans e8).trans e9).trans e10) ⟨zs, ties, rfl, ⟨by omega, by omega, fun z hz2 => ?_, by rw [hzl]; exact hs⟩, by omega, fun z hz2 => (hz z hz2).2⟩ r
  have := hz z hz2
  omega
end
end W1

set_option maxRecDepth 100000
set_option maxHeartbeats 4000000
namespace W1
open PySem PyProof.Rows L2
local macro_rules | `(tactic| walk_at "rp") => `(tactic| first | assumption | exact Rp.int _ | exact Rp.bl _ | exact Rp.str _ | exact Rp.non | exact Rp.obj _ | (refine Rp.le (by assumption) ?_; walk_at "rp"))
local macro_rules | `(tactic| walk_at "ed") => `(tactic| first
  | exact ed_int | exact ed_str | exact ed_bl | exact ed_non
  | (refine ed_var rfl ?_; walk_at "rp")
  | (refine ed_ixT (ds := [_, _]) ?_ ed_int (by decide) rfl; walk_at "ed")
  | (refine ed_I0 ?_ ?_ <;> walk_at "ed")
  | (refine ed_B0 ?_ ?_ <;> walk_at "ed")
  | (refine ed_eqS ?_ ?_ rfl rfl rfl <;> walk_at "ed")
  | assumption)
local macro_rules | `(tactic| walk_at "ea") => `(tactic| first | exact ea_nil | (refine ea_cons ?_ ?_; walk_at "ed"; walk_at "ea"))

abbrev s__law_done : Stmt := topS 50
abbrev N__law_done : List Str := ["_law_state_here", "_law_deed", "_law_held", "_law_tags", "_law_later"]
theorem sc__law_done : FnScope N__law_done ["_law_state_here", "_law_deed"] (defScope s__law_done) := ⟨rfl, rfl, rfl, by decide +kernel, rfl, by decide +kernel, by decide +kernel⟩
abbrev s__law_asks : Stmt := topS 54
abbrev N__law_asks : List Str := ["_law_state_here", "_law_backs", "_law_room"]
theorem sc__law_asks : FnScope N__law_asks ["_law_state_here"] (defScope s__law_asks) := ⟨rfl, rfl, rfl, by decide +kernel, rfl, by decide +kernel, by decide +kernel⟩
/-! ### states, deeds -/
inductive Deed where
  | give (r t : Int)
  | back (r : Int)
def Deed.room : Deed → Int
  | .give r _ => r
  | .back r => r
def eD : Deed → D
  | .give r t => .tup [.str "give", .int r, .int t]
  | .back r => .tup [.str "back", .int r]
theorem enc_D : Enc eD := by
  refine ⟨.inr fun a => ⟨fun i e => ?_, fun v e => ?_⟩, fun a => ?_⟩
  · cases a <;> cases e
  · cases a <;> cases e
  · cases a with
    | give r t =>
      refine .tup fun d hd => ?_
      rcases List.mem_cons.mp hd with rfl | hd
      · exact .str _
      · rcases List.mem_cons.mp hd with rfl | hd
        · exact .int _
        · rcases List.mem_cons.mp hd with rfl | hd
          · exact .int _
          · cases hd
    | back r =>
      refine .tup fun d hd => ?_
      rcases List.mem_cons.mp hd with rfl | hd
      · exact .str _
      · rcases List.mem_cons.mp hd with rfl | hd
        · exact .int _
        · cases hd
abbrev St1 := List (Bool × List Int)
abbrev eS (st : St1) : D := .lst (st.map eR)
def stAt (st : St1) (r : Int) : Bool × List Int := (st[r.toNat]?).getD (false, [])
def doneL (st : St1) : Deed → St1
  | .give r t => st.set r.toNat (true, t :: (stAt st r).2)
  | .back r => st.set r.toNat (false, (stAt st r).2)
structure StOk (st : St1) : Prop where
  few : st.length ≤ 60
  shown : ∀ x ∈ st, x.1 = true → x.2 ≠ []
  tags : ∀ x ∈ st, x.2.length ≤ 5000
theorem st_get {st : St1} {r : Int} (h0 : 0 ≤ r) (h1 : r < st.length) : st[r.toNat]? = some (stAt st r) := by
  unfold stAt
  rw [List.getElem?_eq_getElem (by omega)]
  rfl
theorem st_mem {st : St1} {r : Int} (h0 : 0 ≤ r) (h1 : r < st.length) : stAt st r ∈ st := List.mem_of_getElem? (st_get h0 h1)
theorem map_get {α : Type} {f : α → D} {xs : List α} {i : Nat} {a : α} (h : xs[i]? = some a) : (xs.map f)[i]? = some (f a) := by
  rw [List.getElem?_map, h]
  rfl
theorem doneL_len (st : St1) (dd : Deed) : (doneL st dd).length = st.length := by
  cases dd <;> simp [doneL]
section
variable {P : Program} {w : World} {K : PySem.W.Frag} {mg : Str → Option Value} {base : Heap}
def R_done : List D → Hp → (List D → Prop) → Prop := fun ds _ P => ∃ st dd, ds = [eS st, eD dd] ∧ StOk st ∧ 0 ≤ dd.room ∧ dd.room < st.length ∧ P = fun es => es = (doneL st dd).map eR
theorem ok_done (T : Txt mg) (g : GDef K mg "_law_done" s__law_done ["_law_state_here", "_law_deed"]) : Def P w K mg base 1 "_law_done" ["_law_state_here", "_law_deed"] (spF K R_done) := by
  refine defF g sc__law_done (fun ds H Pd h => ?_) fun cdv A outer s f H vs ds Pd Q E hr r h q => ?_
  · obtain ⟨st, dd, rfl, _⟩ := h
    rfl
  obtain ⟨st, dd, rfl, ok, h0, h1, rfl⟩ := h
  obtain ⟨v1, v2, rfl, r1, r2⟩ := rps2 r
  refine ⟨_, (pss_cons (ps_asg (pe_ix (kix_list (K := K)) (pv 0) (pe_ix (kix_tup (K := K)) (pv 1) pe_int (fun _ _ => rfl)) (fun _ _ => rfl)) (kpg_tup (K := K) (n := 2) rfl (pgs_cons (pg_name (i := 2) sc__law_done.nd rfl (Or.inl rfl)) (pgs_cons (pg_name (i := 3) sc__law_done.nd rfl (Or.inl rfl)) pgs_nil))))
    (pss_cons (ps_set (i := 4) sc__law_done.nd rfl (Or.inl rfl) (pe_callTy (kc_list (K := K)) (by rfl) T.n_list boot_list (pa_cons (pv 0) pa_nil)))
    (pss_cons (ps_asg (pe_ifExp (pt_cmpR op_eq (pe_ix (kix_tup (K := K)) (pv 1) pe_int (fun _ _ => rfl)) pe_str (nomark _)) (pe_tup (pa_cons pe_bl (pa_cons (pe_op (kop_catA (K := K)) (pe_tup (pa_cons (pe_ix (kix_tup (K := K)) (pv 1) pe_int (fun _ _ => rfl)) pa_nil)) (pv 3)) pa_nil))) (pe_tup (pa_cons pe_bl (pa_cons (pv 3) pa_nil)))) (pg_sub (pv 4) (pe_ix (kix_tup (K := K)) (pv 1) pe_int (fun _ _ => rfl)) set_list))
    (pss_one (ps_ret (pv 4)))))), ?_⟩
  have hroom : ∀ {H1 : Hp} {σ : L2.St}, Le H H1 → σ[1]? = some (some v2) → ED K (tOp (rIxT K) (tVar 1) (tC (.int 1))) σ H1 (.int dd.room) := by
    intro H1 σ e hs
    cases dd with
    | give r t => exact ed_ixT (ds := [_, _, _]) (ed_var hs (r2.le e)) ed_int (by decide) rfl
    | back r => exact ed_ixT (ds := [_, _]) (ed_var hs (r2.le e)) ed_int (by decide) rfl
  have hg := st_get h0 h1
  -- held, tags = state[deed[1]]
  refine q_tup2 (d1 := .bl (stAt st dd.room).1) (d2 := .tup ((stAt st dd.room).2.map .int)) (ed_ixL (ed_var rfl r1) (hroom (Le.refl _) rfl) h0 (map_get hg)) fun v3 v4 H1 e1 r3 r4 => ?_
  -- later = list(state)
  refine q_asgF (K := K) (ef_lstOfL (ds := st.map eR) (ed_var rfl (r1.le e1))) fun c us ds H2 nc e2 hc nh rr hd => ?_
  subst hd
  have r4' := r4.le e2
  refine q_set (K := K) (ds := st.map eR) (i := dd.room) (P := fun d _ => ∃ x, d = eR x ∧ doneL st dd = st.set dd.room.toNat x) hc nh rr.len ?_ (fun H3 e3 => ed_var rfl (.obj _)) (fun H3 e3 => hroom ((e1.trans e2).trans e3) rfl) h0 (by rw [List.length_map]; exact h1) fun y d H3 H4 e3 p e4 ry hc4 => ?_
  · cases dd with
    | give rm t =>
      refine ep_if (b := true) (eb_eq (et_test (K := K) (ed_eqS (d1 := .str "give") (d2 := .str "give") ?_ ed_str rfl rfl rfl)) (by decide +kernel)) (fun _ => ?_) (fun hb => nomatch hb)
      · exact ed_ixT (ds := [_, _, _]) (ed_var rfl (r2.le (e1.trans e2))) ed_int (by decide) rfl
      refine EP.weak (ed_tup (ea_cons ed_bl (ea_cons (ed_catA (ds := [.int t]) (ed_tup (ea_cons (ed_ixT (ds := [_, _, _]) (ed_var rfl (r2.le (e1.trans e2))) ed_int (by decide) rfl) ea_nil) (by show 1 ≤ 100000; decide)) (ed_var rfl r4') ?_) ea_nil)) (by show 2 ≤ 100000; decide)) fun d H5 _ p => ⟨(true, t :: (stAt st rm).2), p, rfl⟩
      have := ok.tags _ (st_mem h0 h1)
      rw [List.length_map]
      show 1 + _ ≤ 100000
      have e5 : (Deed.give rm t).room = rm := rfl
      rw [e5] at this ⊢
      omega
    | back rm =>
      refine ep_if (b := false) (eb_eq (et_test (K := K) (ed_eqS (d1 := .str "back") (d2 := .str "give") ?_ ed_str rfl rfl rfl)) (by decide +kernel)) (fun hb => nomatch hb) (fun _ => ?_)
      · exact ed_ixT (ds := [_, _]) (ed_var rfl (r2.le (e1.trans e2))) ed_int (by decide) rfl
      exact EP.weak (ed_tup (ea_cons ed_bl (ea_cons (ed_var rfl r4') ea_nil)) (by show 2 ≤ 100000; decide)) fun d H5 _ p => ⟨(false, (stAt st rm).2), p, rfl⟩
  · obtain ⟨x, rfl, hx⟩ := p
    have rs : Rps K (upd H4 c (.lst (us.set dd.room.toNat y))) (us.set dd.room.toNat y) ((doneL st dd).map eR) := by
      rw [hx, List.map_set]
      exact Rps.set _ ((rr.le (e3.trans e4)).upd hc4 (enc_R.nl _)) (ry.upd hc4 (enc_R.noL _))
    exact ⟨_, rfl, q c _ _ _ (e1.fresh nc) (((e1.trans e2).trans (e3.trans e4)).mut (e1.fresh nc)) upd_same ((enc_R.un _).notH rs) rs rfl⟩
/-! ### _law_asks -/
def eA (a : Bool × Nat) : D := .tup [.str (if a.1 then "back" else "give"), .int (a.2 : Int)]
theorem enc_A : Enc eA := enc_tup fun a d hd => by
  rcases List.mem_cons.mp hd with rfl | hd
  · exact .str _
  · rcases List.mem_cons.mp hd with rfl | hd
    · exact .int _
    · cases hd
def heldN (st : St1) (i : Nat) : Bool := ((st[i]?).getD (false, [])).1
def asksL (st : St1) : List (Bool × Nat) := (((List.range st.length).filter fun i => heldN st i).map fun i => (true, i)) ++ (((List.range st.length).filter fun i => !heldN st i).map fun i => (false, i))
def R_asks : List D → Hp → Pd → Prop := fun ds _ P => ∃ st, ds = [eS st] ∧ st.length ≤ 60 ∧ P = is (.lst ((asksL st).map eA))
theorem ok_asks (T : Txt mg) (g : GDef K mg "_law_asks" s__law_asks ["_law_state_here"]) : Def P w K mg base 1 "_law_asks" ["_law_state_here"] (spD K R_asks) := by
  refine defD g sc__law_asks (fun ds H Pd h => ?_) fun cdv A outer s f H vs ds Pd Q E hr r h q => ?_
  · obtain ⟨st, rfl, _⟩ := h
    rfl
  obtain ⟨st, rfl, hz, rfl⟩ := h
  obtain ⟨v1, rfl, r1⟩ := rps1 r
  refine ⟨_, (pss_cons (ps_setLc (i := 1) (own := [("_law_room", 2)]) rfl sc__law_asks.nd rfl rfl (sw_true rfl rfl rfl (by decide +kernel)) (pi_range1 (by rfl) T.n_range (pa_cons (pe_callB (kc_len (K := K)) (by rfl) T.n_len boot_len (pa_cons (pv 0) pa_nil)) pa_nil)) (blkOk_by (N := N__law_asks) (sc := defScope s__law_asks) (by decide +kernel)) (fun _ _ _ _ _ => (pg_name (i := 2) sc__law_asks.nd rfl (Or.inl rfl))) (fun _ _ _ _ _ => (pts_one (pt_val (pe_ix (kix_tup (K := K)) (pe_ix (kix_list (K := K)) (pv 0) (pv 2) (fun _ _ => rfl)) pe_int (fun _ _ => rfl))))) (fun _ _ _ _ _ => (pe_tup (pa_cons pe_str (pa_cons (pv 2) pa_nil)))))
    (pss_one (ps_ret (pe_op op_cat (pv 1) (pe_lc (own := [("_law_room", 2)]) rfl sc__law_asks.nd (pi_range1 (by rfl) T.n_range (pa_cons (pe_callB (kc_len (K := K)) (by rfl) T.n_len boot_len (pa_cons (pv 0) pa_nil)) pa_nil)) (blkOk_by (N := N__law_asks) (sc := defScope s__law_asks) (by decide +kernel)) (fun _ _ _ _ _ => (pg_name (i := 2) sc__law_asks.nd rfl (Or.inl rfl))) (fun _ _ _ _ _ => (pts_one (pt_not (pt_val (pe_ix (kix_tup (K := K)) (pe_ix (kix_list (K := K)) (pv 0) (pv 2) (fun _ _ => rfl)) pe_int (fun _ _ => rfl)))))) (fun _ _ _ _ _ => (pe_tup (pa_cons pe_str (pa_cons (pv 2) pa_nil))))))))), ?_⟩
  have hheld : ∀ {H1 : Hp} {σ : L2.St} {j : Nat} (i : Nat), Le H H1 → σ[0]? = some (some v1) → σ[j]? = some (some (.int (i : Int))) → i < st.length → ED K (tOp (rIxT K) (tOp (rIxL K) (tVar 0) (tVar j)) (tC (.int 0))) σ H1 (.bl (heldN st i)) := by
    intro H1 σ j i e h0 hj hi
    have hg : st[i]? = some ((st[i]?).getD (false, [])) := by
      rw [List.getElem?_eq_getElem hi]
      rfl
    refine ed_ixT (ds := [_, _]) (ed_ixL (ed_var h0 (r1.le e)) (ed_var hj (.int _)) (by omega) (d := eR ((st[i]?).getD (false, []))) ?_) ed_int (by decide) rfl
    rw [Int.toNat_natCast]
    exact map_get hg
  have hlen : ∀ {H1 : Hp} {σ : L2.St}, Le H H1 → σ[0]? = some (some v1) → EDA K (tCons (tCB (fun xs H Q => ∃ p ys, xs = [.ref p] ∧ (SqL K H p ys ∨ SqT K H p ys) ∧ Q (.int ys.length) H) (tCons (tVar 0) tNil)) tNil) σ H1 [.int (st.length : Int)] := by
    intro H1 σ e h0
    refine ea_cons (ed_eq (ed_lenL (ed_var h0 (r1.le e))) ?_) ea_nil
    rw [List.length_map]
  refine q_asgD (K := K) (ed_lcR enc_A (n := st.length) (fun i => heldN st i) (fun i => (true, i)) (hlen (Le.refl _) rfl) (by omega) (fun _ => rfl) (fun i H1 e hi => et_B (hheld i e rfl rfl hi)) (fun i H1 e hi _ => ed_tup (ea_cons ed_str (ea_cons (ed_var rfl (.int _)) ea_nil)) (by show 2 ≤ 100000; decide))) fun v2 H1 e1 r2 => ?_
  refine s_retD (ed_eq (ed_cat (ed_var rfl r2) (ed_lcR enc_A (n := st.length) (fun i => !heldN st i) (fun i => (false, i)) (hlen e1 rfl) (by omega) (fun _ => rfl) (fun i H2 e hi => eb_not (et_B (hheld i (e1.trans e) rfl rfl hi))) (fun i H2 e hi _ => ed_tup (ea_cons ed_str (ea_cons (ed_var rfl (.int _)) ea_nil)) (by show 2 ≤ 100000; decide))) ?_ ?_) ?_) fun v H2 e2 r3 => q v _ H2 (e1.trans e2) rfl r3
  · have a1 := fm_len (List.range st.length) (fun i => heldN st i) (fun i => (true, i))
    have a2 := fm_len (List.range st.length) (fun i => !heldN st i) (fun i => (false, i))
    rw [List.length_range] at a1 a2
    simp only [List.length_map] at a1 a2 ⊢
    omega
  · rw [← List.map_append]
    exact enc_A.un _
  · unfold asksL
    rw [← List.map_append]
end
end W1

set_option maxRecDepth 100000
set_option maxHeartbeats 4000000
namespace W1
open PySem PyProof.Rows L2
local macro_rules | `(tactic| walk_at "rp") => `(tactic| first | assumption | exact Rp.int _ | exact Rp.bl _ | exact Rp.str _ | exact Rp.non | exact Rp.obj _ | (refine Rp.le (by assumption) ?_; walk_at "rp"))
local macro_rules | `(tactic| walk_at "ed") => `(tactic| first
  | exact ed_int | exact ed_str | exact ed_bl | exact ed_non
  | (refine ed_var rfl ?_; walk_at "rp")
  | (refine ed_ixT (ds := [_, _]) ?_ ed_int (by decide) rfl; walk_at "ed")
  | (refine ed_I0 ?_ ?_ <;> walk_at "ed")
  | (refine ed_B0 ?_ ?_ <;> walk_at "ed")
  | (refine ed_eqS ?_ ?_ rfl rfl rfl <;> walk_at "ed")
  | assumption)
local macro_rules | `(tactic| walk_at "ea") => `(tactic| first | exact ea_nil | (refine ea_cons ?_ ?_; walk_at "ed"; walk_at "ea"))

abbrev s__law_bars : Stmt := topS 53
abbrev N__law_bars : List Str := ["_law_parts_here", "_law_state_here", "_law_room", "_law_found", "_law_other"]
theorem sc__law_bars : FnScope N__law_bars ["_law_parts_here", "_law_state_here", "_law_room"] (defScope s__law_bars) := ⟨rfl, rfl, rfl, by decide +kernel, rfl, by decide +kernel, by decide +kernel⟩
/-! ### bars -/
def shownL (x : Bool × List Int) : List Int := if x.1 then x.2.take 1 else []
def ownL (ms : List Int) (st : St1) (r : Int) : List Int := (stAt st r).2.take ((ms[r.toNat]?).getD 0).toNat
structure Bars (ms : List Int) (ties : List (Int × Int)) (st : St1) (r : Int) (ns : List Int) : Prop where
  up : ns.Pairwise (· < ·)
  mem : ∀ k, k ∈ ns ↔ k ∈ ownL ms st r ∨ ∃ o ∈ rawNear ties r, k ∈ shownL (stAt st o)
theorem near_few : ∀ n : _root_.Fin 9, ∀ r : _root_.Fin 9, (rawNear (pairsL n.val) (r.val : Int)).length ≤ 8 := by decide +kernel
theorem near_le {ms : List Int} {ties : List (Int × Int)} {r : Int} (ok : PartsOk ms ties) (h8 : ms.length ≤ 8) (h0 : 0 ≤ r) (h1 : r < ms.length) : (rawNear ties r).length ≤ 8 := by
  have h := near_few ⟨ms.length, by omega⟩ ⟨r.toNat, by omega⟩
  have er : ((r.toNat : Nat) : Int) = r := by omega
  simp only [er] at h
  exact Nat.le_trans ((ok.sub.filter _).map _).length_le h
theorem near_in {ms : List Int} {ties : List (Int × Int)} {r o : Int} (ok : PartsOk ms ties) (h : o ∈ rawNear ties r) : 0 ≤ o ∧ o < ms.length := by
  obtain ⟨p, hp, rfl⟩ := List.mem_map.mp h
  obtain ⟨hp1, hp2⟩ := List.mem_filter.mp hp
  have hq := mem_pairsL.mp (ok.sub.subset hp1)
  have hr := of_decide_eq_true hp2
  simp only [List.mem_cons, List.not_mem_nil, or_false] at hr
  omega
section
variable {P : Program} {w : World} {K : PySem.W.Frag} {mg : Str → Option Value} {base : Heap}
def R_bars : List D → Hp → Pd → Prop := fun ds _ P => ∃ ms ties st r, ds = [eW ms ties, eS st, .int r] ∧ PartsOk ms ties ∧ StOk st ∧ st.length = ms.length ∧ ms.length ≤ 8 ∧ 0 ≤ r ∧ r < ms.length ∧
  P = fun d _ => ∃ ns : List Int, d = .tup (ns.map .int) ∧ Bars ms ties st r ns
theorem ok_bars (T : Txt mg) (g : GDef K mg "_law_bars" s__law_bars ["_law_parts_here", "_law_state_here", "_law_room"]) (G_law_near : Def P w K mg base 1 "_law_near" ["_law_parts_here", "_law_room"] (spF K R_near)) :
    Def P w K mg base 2 "_law_bars" ["_law_parts_here", "_law_state_here", "_law_room"] (spD K R_bars) := by
  refine defD g sc__law_bars (fun ds H Pd h => ?_) fun cdv A outer s f H vs ds Pd Q E hr r h q => ?_
  · obtain ⟨ms, ties, st, n, rfl, _⟩ := h
    rfl
  obtain ⟨ms, ties, st, rm, rfl, ok, sok, hl, h8, h0, h1, rfl⟩ := h
  obtain ⟨v1, v2, v3, rfl, r1, r2, r3⟩ := rps3 r
  refine ⟨_, (pss_cons (ps_set (i := 3) sc__law_bars.nd rfl (Or.inl rfl) (pe_callTy (kc_list (K := K)) (by rfl) T.n_list boot_list (pa_cons (pe_slice (ksl_tup (K := K)) (pe_ix (kix_tup (K := K)) (pe_ix (kix_list (K := K)) (pv 1) (pv 2) (fun _ _ => rfl)) pe_int (fun _ _ => rfl)) po_none (po_some (pe_ix (kix_tup (K := K)) (pe_ix (kix_tup (K := K)) (pv 0) pe_int (fun _ _ => rfl)) (pv 2) (fun _ _ => rfl)))) pa_nil)))
    (pss_cons (ps_for PassesOwn.never rfl (kpi_list (K := K) (pe_def G_law_near (hr.mono (by decide)) (pa_cons (pv 0) (pa_cons (pv 2) pa_nil)))) (pg_name (i := 4) sc__law_bars.nd rfl (Or.inl rfl))
      (pss_one (ps_if (pt_val (pe_ix (kix_tup (K := K)) (pe_ix (kix_list (K := K)) (pv 1) (pv 4) (fun _ _ => rfl)) pe_int (fun _ _ => rfl)))
      (pss_one (ps_expr (pe_bm PySem.F.plainAttrs_list PySem.F.slot_list_append PySem.F.type_list_append mt_append (pv 3) (pa_cons (pe_ix (kix_tup (K := K)) (pe_ix (kix_tup (K := K)) (pe_ix (kix_list (K := K)) (pv 1) (pv 4) (fun _ _ => rfl)) pe_int (fun _ _ => rfl)) pe_int (fun _ _ => rfl)) pa_nil))))
      pss_nil)))
    (pss_one (ps_ret (pe_callTy (kc_tuple (K := K)) (by rfl) T.n_tuple boot_tuple (pa_cons (pe_callB (kc_sortedSet (w := w) rfl) (by rfl) T.n_sorted boot_sorted (pa_cons (pe_callTy (kc_setL (K := K) (w := w) rfl) (by rfl) T.n_set boot_set (pa_cons (pv 3) pa_nil)) pa_nil)) pa_nil)))))), ?_⟩
  have hm : ms[rm.toNat]? = some ((ms[rm.toNat]?).getD 0) := by
    rw [List.getElem?_eq_getElem (by omega)]
    rfl
  have hm0 := ok.mem _ (List.mem_of_getElem? hm)
  have hst : ∀ {o : Int}, 0 ≤ o → o < ms.length → (st.map eR)[o.toNat]? = some (eR (stAt st o)) := fun a b => map_get (st_get a (by omega))
  have eq : cutG ((stAt st rm).2.map D.int) none (some ((ms[rm.toNat]?).getD 0)) = (ownL ms st rm).map D.int := by
    rw [cutG_hi _ _ hm0.1, ← List.map_take]
    rfl
  -- found = list(state[room][1][:parts[0][room]])
  refine q_asgF (K := K) (ef_lstOfT (ds := (ownL ms st rm).map D.int) (ed_eq (ed_slT (ed_ixT (ds := [_, _]) (ed_ixL (ed_var rfl r2) (ed_var rfl r3) h0 (hst h0 h1)) ed_int (by decide) rfl) eo_none
    (eo_some (ed_ixT (ed_ixT (ds := [_, _]) (ed_var rfl r1) ed_int (by decide) rfl) (ed_var rfl r3) h0 (map_get hm)))) (congrArg D.tup eq)) (enc_int.un _)) fun c us ds H1 nc e1 hc nh rr hd => ?_
  subst hd
  -- for other in near
  refine q_forLF (K := K) (α := Int) (PL := fun ns => Near ties rm ns) enc_int (ef_call (ea_cons (ed_var rfl (r1.le e1)) (ea_cons (ed_var rfl (r3.le e1)) ea_nil)) fun H2 _ => ⟨ms, ties, rm, rfl, ok.len, rfl⟩) fun ns a as H2 hp na e2 ha nha => ?_
  have hin : ∀ {i : Nat} {o : Int}, ns[i]? = some o → 0 ≤ o ∧ o < ms.length := fun h => near_in ok (hp.perm.mem_iff.mp (List.mem_of_getElem? h))
  have hca : c ≠ a := ne_of_none hc na
  have hnl : ns.length ≤ 8 := by
    rw [hp.perm.length_eq]
    exact near_le ok h8 h0 h1
  have hol : (ownL ms st rm).length ≤ 30 := Nat.le_trans (List.length_take_le _ _) (by omega)
  have hfl : ∀ l : List Int, (l.flatMap fun o => shownL (stAt st o)).length ≤ l.length := fun l => by
    have := flatMap_len (fun o => shownL (stAt st o)) 1 l fun o _ => by
      unfold shownL
      split
      · exact List.length_take_le _ _
      · exact Nat.zero_le _
    omega
  refine ⟨fun i σ H' => ∃ y ws, σ = [some v1, some v2, some v3, some (.ref c), y] ∧ Le H H' ∧ LeT H2 H' ∧ H' a = some (.lst as) ∧ H' c = some (.lst ws) ∧ i ≤ ns.length ∧ Rps K H' ws (((ownL ms st rm) ++ (ns.take i).flatMap fun o => shownL (stAt st o)).map D.int), ?_, ?_, ?_, ?_⟩
  · refine ⟨none, us, rfl, e1.trans e2, LeT.refl _, ha, e2.lst hc nh, Nat.zero_le _, ?_⟩
    rw [List.take_zero, List.flatMap_nil, List.append_nil]
    exact rr.le e2
  · rintro i σ' H' _ ⟨y, ws, rfl, _, lt, ha', _⟩
    exact ⟨lt, ha'⟩
  · rintro i o v σ' H' ho rv ⟨y, ws, rfl, e, lt, ha', hc', _, rr'⟩
    have ev := rp_int rv
    subst ev
    obtain ⟨o0, o1⟩ := hin ho
    have hi : i < ns.length := (List.getElem?_eq_some_iff.mp ho).1
    have nh' : NotH ws := (enc_int.un _).notH rr'
    have tk : (ns.take (i + 1)).flatMap (fun o => shownL (stAt st o)) = (ns.take i).flatMap (fun o => shownL (stAt st o)) ++ shownL (stAt st o) := by
      rw [List.take_add_one, ho, List.flatMap_append]
      simp
    -- if state[other][0]
    refine s_ifB (b := (stAt st o).1) (et_B (K := K) (ed_ixT (ds := [_, _]) (ed_ixL (ed_var rfl (r2.le e)) (ed_var rfl (.int o)) o0 (hst o0 o1)) ed_int (by decide) rfl)) (fun hb H3 e3 => ?_) (fun hb H3 e3 => ?_)
    · have hne := sok.shown _ (st_mem o0 (by omega)) hb
      obtain ⟨t, ts, hts⟩ : ∃ t ts, (stAt st o).2 = t :: ts := by
        cases h : (stAt st o).2 with
        | nil => exact absurd h hne
        | cons t ts => exact ⟨t, ts, rfl⟩
      refine s_app (K := K) (P := is (.int t)) (e3.lst hc' nh') nh' (ed_var rfl (.obj _)) (fun H4 e4 => ?_) ?_ fun y d H4 e4 p ry hc4 => ?_
      · refine ed_ixT (ds := (stAt st o).2.map D.int) (ed_ixT (ds := [_, _]) (ed_ixL (d := eR (stAt st o)) (ed_var rfl (r2.le ((e.trans e3).trans e4))) (ed_var rfl (.int o)) o0 (hst o0 o1)) ed_int (by decide) rfl) ed_int (by decide) ?_
        rw [hts]
        rfl
      · rw [rr'.len, List.length_map, List.length_append]
        have := hfl (ns.take i)
        have := List.length_take_le i ns
        omega
      · have p' : d = .int t := p
        subst p'
        have sh : shownL (stAt st o) = [t] := by
          unfold shownL
          rw [hb, hts]
          rfl
        refine ⟨_, ws ++ [y], rfl, ((e.trans e3).trans e4).mut nc, (lt.trans (e3.trans e4).t).trans (LeT.upd hc4), by rw [upd_ne hca.symm]; exact (e3.trans e4).lst ha' nha, upd_same, hi, ?_⟩
        rw [tk, sh, ← List.append_assoc, List.map_append]
        exact ((rr'.le (e3.trans e4)).upd hc4 (enc_int.nl _)).app (.cons (ry.upd hc4 (.int _)) .nil)
    · have sh : shownL (stAt st o) = [] := by
        unfold shownL
        rw [hb]
        rfl
      refine ⟨_, ws, rfl, e.trans e3, lt.trans e3.t, e3.lst ha' nha, e3.lst hc' nh', hi, ?_⟩
      rw [tk, sh, List.append_nil]
      exact rr'.le e3
  · rintro σ' H' ⟨y, ws, rfl, e, lt, ha', hc', _, rr'⟩
    rw [List.take_length] at rr'
    have nh' : NotH ws := (enc_int.un _).notH rr'
    refine s_ret (EP.weak (ep_tupOf (PL := fun es => ∃ ns' : List Int, es = ns'.map .int ∧ Bars ms ties st rm ns') (EP.weak (ep_sortedSet (w := w) (ns := (ownL ms st rm) ++ ns.flatMap fun o => shownL (stAt st o)) ?_ (ed_var rfl (.lst hc' nh' rr'))) fun d H3 _ p => ?_)) fun d H3 _ p => ?_) fun v d H3 e3 p r => q v d H3 (e.trans e3) p r
    · rw [List.length_append]
      have := hfl ns
      omega
    · obtain ⟨ns', rfl, hs, hm⟩ := p
      refine ⟨_, rfl, ns', rfl, hs, fun k => ?_⟩
      rw [hm k, List.mem_append, List.mem_flatMap]
      refine or_congr Iff.rfl ⟨?_, ?_⟩
      · rintro ⟨o, ho, hk⟩
        exact ⟨o, hp.perm.mem_iff.mp ho, hk⟩
      · rintro ⟨o, ho, hk⟩
        exact ⟨o, hp.perm.mem_iff.mpr ho, hk⟩
    · obtain ⟨es, rfl, ns', rfl, hb⟩ := p
      exact ⟨ns', rfl, hb⟩
end
end W1

set_option maxRecDepth 100000
set_option maxHeartbeats 4000000
namespace W1
open PySem PyProof.Rows L2
local macro_rules | `(tactic| walk_at "rp") => `(tactic| first | assumption | exact Rp.int _ | exact Rp.bl _ | exact Rp.str _ | exact Rp.non | exact Rp.obj _ | (refine Rp.le (by assumption) ?_; walk_at "rp"))
local macro_rules | `(tactic| walk_at "ed") => `(tactic| first
  | exact ed_int | exact ed_str | exact ed_bl | exact ed_non
  | (refine ed_var rfl ?_; walk_at "rp")
  | (refine ed_ixT (ds := [_, _]) ?_ ed_int (by decide) rfl; walk_at "ed")
  | (refine ed_I0 ?_ ?_ <;> walk_at "ed")
  | (refine ed_B0 ?_ ?_ <;> walk_at "ed")
  | (refine ed_eqS ?_ ?_ rfl rfl rfl <;> walk_at "ed")
  | assumption)
local macro_rules | `(tactic| walk_at "ea") => `(tactic| first | exact ea_nil | (refine ea_cons ?_ ?_; walk_at "ed"; walk_at "ea"))

abbrev s__law_deep_parts : Stmt := topS 68
abbrev N__law_deep_parts : List Str := ["_law_hand_here", "_law_most", "_law_many", "_law_memories", "_law_room"]
theorem sc__law_deep_parts : FnScope N__law_deep_parts ["_law_hand_here", "_law_most"] (defScope s__law_deep_parts) := ⟨rfl, rfl, rfl, by decide +kernel, rfl, by decide +kernel, by decide +kernel⟩
/-! ### runs: pasts with the states that they lead to -/
inductive Run (n : Nat) (k : Int) : List Deed → St1 → Prop
  | nil : Run n k [] (List.replicate n (false, []))
  | give {p : List Deed} {st : St1} {r t : Int} : Run n k p st → 0 ≤ r → r < n → (stAt st r).1 = false → 0 ≤ t → t < k → Run n k (p ++ [.give r t]) (doneL st (.give r t))
  | back {p : List Deed} {st : St1} {r : Int} : Run n k p st → 0 ≤ r → r < n → (stAt st r).1 = true → Run n k (p ++ [.back r]) (doneL st (.back r))
theorem mem_set_of {α : Type} {l : List α} {i : Nat} {a x : α} (h : x ∈ l.set i a) : x = a ∨ x ∈ l := by
  rcases List.mem_or_eq_of_mem_set h with h | h
  · exact .inr h
  · exact .inl h
theorem Run.ok {n : Nat} {k : Int} {p : List Deed} {st : St1} (h : Run n k p st) : st.length = n ∧ (∀ x ∈ st, x.1 = true → x.2 ≠ []) ∧ ∀ x ∈ st, x.2.length ≤ p.length := by
  induction h with
  | nil =>
    refine ⟨List.length_replicate, fun x hx => ?_, fun x hx => ?_⟩
    · rw [List.eq_of_mem_replicate hx]
      exact fun h => nomatch h
    · rw [List.eq_of_mem_replicate hx]
      exact Nat.le_refl _
  | @give p st r t h h0 h1 hf t0 t1 ih =>
    obtain ⟨a, b, c⟩ := ih
    refine ⟨by rw [doneL_len, a], fun x hx => ?_, fun x hx => ?_⟩
    · rcases mem_set_of hx with rfl | hx
      · exact fun _ e => nomatch e
      · exact b x hx
    · rw [List.length_append]
      rcases mem_set_of hx with rfl | hx
      · have := c _ (st_mem h0 (by omega))
        show (stAt st r).2.length + 1 ≤ p.length + 1
        omega
      · have := c x hx
        omega
  | @back p st r h h0 h1 hf ih =>
    obtain ⟨a, b, c⟩ := ih
    refine ⟨by rw [doneL_len, a], fun x hx => ?_, fun x hx => ?_⟩
    · rcases mem_set_of hx with rfl | hx
      · exact fun e => nomatch e
      · exact b x hx
    · rw [List.length_append]
      rcases mem_set_of hx with rfl | hx
      · have := c _ (st_mem h0 (by omega))
        show (stAt st r).2.length ≤ p.length + 1
        omega
      · have := c x hx
        omega
theorem Run.sok {n : Nat} {k : Int} {p : List Deed} {st : St1} (h : Run n k p st) (hn : n ≤ 60) (hp : p.length ≤ 5000) : StOk st := by
  obtain ⟨a, b, c⟩ := h.ok
  exact ⟨by omega, b, fun x hx => Nat.le_trans (c x hx) hp⟩
theorem mem_asks {st : St1} {a : Bool × Nat} (h : a ∈ asksL st) : a.2 < st.length ∧ (stAt st a.2).1 = a.1 := by
  have e : ∀ i : Nat, heldN st i = (stAt st (i : Int)).1 := fun i => by
    unfold heldN stAt
    rw [Int.toNat_natCast]
  rcases List.mem_append.mp h with h | h
  · obtain ⟨i, hi, rfl⟩ := List.mem_map.mp h
    obtain ⟨h1, h2⟩ := List.mem_filter.mp hi
    exact ⟨List.mem_range.mp h1, (e i).symm.trans h2⟩
  · obtain ⟨i, hi, rfl⟩ := List.mem_map.mp h
    obtain ⟨h1, h2⟩ := List.mem_filter.mp hi
    refine ⟨List.mem_range.mp h1, (e i).symm.trans ?_⟩
    simpa using h2
theorem asks_ne {st : St1} (h : 1 ≤ st.length) : asksL st ≠ [] := fun e => by
  have hr : 0 ∈ List.range st.length := List.mem_range.mpr (by omega)
  unfold asksL at e
  obtain ⟨e1, e2⟩ := List.append_eq_nil_iff.mp e
  cases hh : heldN st 0 with
  | true =>
    have : (0 : Nat) ∈ (List.range st.length).filter fun i => heldN st i := List.mem_filter.mpr ⟨hr, hh⟩
    have h2 := List.mem_map_of_mem (f := fun i => (true, i)) this
    rw [e1] at h2
    cases h2
  | false =>
    have : (0 : Nat) ∈ (List.range st.length).filter fun i => !heldN st i := List.mem_filter.mpr ⟨hr, by simp [hh]⟩
    have h2 := List.mem_map_of_mem (f := fun i => (false, i)) this
    rw [e2] at h2
    cases h2
theorem asks_len {st : St1} : (asksL st).length ≤ 2 * st.length := by
  unfold asksL
  rw [List.length_append]
  have a1 := fm_len (List.range st.length) (fun i => heldN st i) (fun i => (true, i))
  have a2 := fm_len (List.range st.length) (fun i => !heldN st i) (fun i => (false, i))
  rw [List.length_range] at a1 a2
  omega
section
variable {P : Program} {w : World} {K : PySem.W.Frag} {mg : Str → Option Value} {base : Heap}
/-! ### _law_deep_parts -/
theorem ep_any {σ : L2.St} {H : Hp} {E : XK} {h : Addr} {ta : TA} {PX : List D → Prop} (hh : Hand H h) (ha : EA K ta σ H (fun ds _ => ∃ xs, ds = [.obj (.ref h), .lst xs] ∧ PX xs)) (hne : ∀ xs, PX xs → xs ≠ [] ∧ xs.length ≤ 100000) :
    EP K (tCall (spD K R_any) [] E ta) σ H (fun d _ => ∃ xs, PX xs ∧ d ∈ xs) :=
  ep_call ha fun ds H2 e ⟨xs, ed, px⟩ => ⟨fun d _ => d ∈ xs, ⟨h, xs, ed, hh.le e, (hne xs px).1, (hne xs px).2, rfl⟩, fun d H3 _ hd => ⟨xs, px, hd⟩⟩
def R_deep : List D → Hp → Pd → Prop := fun ds H P => ∃ (h : Addr) (most : Int), ds = [.obj (.ref h), .int most] ∧ Hand H h ∧ 1 ≤ most ∧ most ≤ 60 ∧
  P = fun d _ => ∃ ms ties, d = eW ms ties ∧ PartsOk ms ties ∧ (ms.length : Int) ≤ most
theorem ok_deep (T : Txt mg) (g : GDef K mg "_law_deep_parts" s__law_deep_parts ["_law_hand_here", "_law_most"]) (G_law_draw : Def P w K mg base 1 "_law_draw" ["_law_hand_here", "_law_many"] (spD K R_draw))
    (G_law_any : Def P w K mg base 2 "_law_any" ["_law_hand_here", "_law_items"] (spD K R_any)) (G_law_pairs : Def P w K mg base 1 "_law_pairs" ["_law_many"] (spD K R_pairs)) : Def P w K mg base 3 "_law_deep_parts" ["_law_hand_here", "_law_most"] (spD K R_deep) := by
  refine defD g sc__law_deep_parts (fun ds H Pd h => ?_) fun cdv A outer s f H vs ds Pd Q E hr r h q => ?_
  · obtain ⟨h, a, rfl, _⟩ := h
    rfl
  obtain ⟨h, most, rfl, hh, m1, m2, rfl⟩ := h
  obtain ⟨v1, v2, rfl, r1, r2⟩ := rps2 r
  have hv1 : v1 = .ref h := rp_obj r1
  have hv2 : v2 = .int most := rp_int r2
  subst hv1 hv2
  refine ⟨_, (pss_cons (ps_set (i := 2) sc__law_deep_parts.nd rfl (Or.inl rfl) (pe_op op_add pe_int (pe_def G_law_draw (hr.mono (by decide)) (pa_cons (pv 0) (pa_cons (pv 1) pa_nil)))))
    (pss_cons (ps_setLc (i := 3) (own := [("_law_room", 4)]) rfl sc__law_deep_parts.nd rfl rfl (sw_true rfl rfl rfl (by decide +kernel)) (pi_range1 (by rfl) T.n_range (pa_cons (pv 2) pa_nil)) (blkOk_by (N := N__law_deep_parts) (sc := defScope s__law_deep_parts) (by decide +kernel)) (fun _ _ _ _ _ => (pg_name (i := 4) sc__law_deep_parts.nd rfl (Or.inl rfl))) (fun _ _ _ _ _ => pts_nil) (fun _ _ _ _ _ => (pe_def G_law_any (hr.mono (by decide)) (pa_cons (pv 0) (pa_cons (pe_lst (pa_cons pe_int (pa_cons pe_int (pa_cons pe_int (pa_cons pe_int (pa_cons pe_int (pa_cons (pe_op op_add pe_int (pe_def G_law_draw (hr.mono (by decide)) (pa_cons (pv 0) (pa_cons pe_int pa_nil)))) pa_nil))))))) pa_nil)))))
    (pss_one (ps_ret (pe_tup (pa_cons (pe_callTy (kc_tuple (K := K)) (by rfl) T.n_tuple boot_tuple (pa_cons (pv 3) pa_nil)) (pa_cons (pe_ifExp (pt_cmpR op_gt (pe_def G_law_draw (hr.mono (by decide)) (pa_cons (pv 0) (pa_cons pe_int pa_nil))) pe_int (nomark _)) (pe_callTy (kc_tuple (K := K)) (by rfl) T.n_tuple boot_tuple (pa_cons (pe_def G_law_pairs (hr.mono (by decide)) (pa_cons (pv 2) pa_nil)) pa_nil)) (pe_tup pa_nil)) pa_nil))))))), ?_⟩
  refine q_asg (K := K) (ep_plus (ep_draw hh (ea_cons (ed_var rfl r1) (ea_cons (ed_var rfl r2) ea_nil)) (by omega))) fun v d H1 e1 p1 q1 => ?_
  obtain ⟨many, rfl, n1, n2⟩ := p1
  obtain ⟨n, rfl⟩ : ∃ n : Nat, many = (n : Int) := ⟨many.toNat, by omega⟩
  have ev := rp_int q1
  subst ev
  refine q_asg (K := K) (ep_lcR enc_int (n := n) (fun z => 0 ≤ z ∧ z ≤ 30) (ea_cons (ed_var rfl (.int _)) ea_nil) (by omega) (fun _ => rfl) fun i H2 e2 hi => ?_) ?_
  · refine EP.weak (ep_any (K := K) (PX := fun xs => xs.length = 6 ∧ ∀ d ∈ xs, ∃ z : Int, d = .int z ∧ 0 ≤ z ∧ z ≤ 30) (hh.le (e1.trans e2)) ?_ (fun xs h => ⟨fun e => (by rw [e] at h; exact absurd h.1 (by decide)), (by have := h.1; omega)⟩)) ?_
    · refine EA_weak (ep_cons (ed_var rfl (.obj (.ref h))) (ep_cons (ep_lst (P := fun d _ => ∃ xs, d = .lst xs ∧ xs.length = 6 ∧ ∀ d ∈ xs, ∃ z : Int, d = .int z ∧ 0 ≤ z ∧ z ≤ 30) (PA := fun xs _ => xs.length = 6 ∧ ∀ d ∈ xs, ∃ z : Int, d = .int z ∧ 0 ≤ z ∧ z ≤ 30) ?_ ?_ ?_ ?_) ea_nil)) ?_
      · refine EA_weak (ep_cons ed_int (ep_cons ed_int (ep_cons ed_int (ep_cons ed_int (ep_cons ed_int (ep_cons (ep_plus (ep_draw (hh.le (e1.trans e2)) (ea_cons (ed_var rfl (.obj (.ref h))) (ea_cons ed_int ea_nil)) (by omega))) ea_nil)))))) ?_
        rintro ds H3 ⟨d1, r1, _, rfl, _, rfl, d2, r2, _, rfl, _, rfl, d3, r3, _, rfl, _, rfl, d4, r4, _, rfl, _, rfl, d5, r5, _, rfl, _, rfl, d6, r6, _, rfl, _, ⟨z, rfl, z1, z2⟩, rfl⟩
        refine ⟨rfl, fun d hd => ?_⟩
        simp only [List.mem_cons, List.not_mem_nil, or_false] at hd
        rcases hd with rfl | rfl | rfl | rfl | rfl | rfl
        · exact ⟨_, rfl, by decide, by decide⟩
        · exact ⟨_, rfl, by decide, by decide⟩
        · exact ⟨_, rfl, by decide, by decide⟩
        · exact ⟨_, rfl, by decide, by decide⟩
        · exact ⟨_, rfl, by decide, by decide⟩
        · exact ⟨_, rfl, by omega, by omega⟩
      · rintro ds H3 ⟨h6, _⟩
        omega
      · rintro ds H3 xs ⟨h6, _⟩ rr
        exact notH_len (by rw [rr.len]; omega)
      · rintro ds H3 hp H4 _
        exact ⟨ds, rfl, hp⟩
      · rintro ds H3 ⟨d1, r1, _, rfl, _, rfl, d2, r2, _, rfl, _, ⟨xs, rfl, hx⟩, rfl⟩
        exact ⟨xs, rfl, hx⟩
    · rintro d H3 _ ⟨xs, hx, hd⟩
      exact hx.2 d hd
  rintro v d H2 e2 ⟨zs, rfl, hl, hz⟩ r3
  have hh2 := hh.le (e1.trans e2)
  refine s_ret (K := K) (P := fun d _ => ∃ ties : List (Int × Int), d = eW zs ties ∧ ties.Sublist (pairsL n)) ?_ ?_
  · refine ep_tup (EA_weak (ep_cons (ed_tupOf (ed_var rfl r3)) (ep_cons (P := fun d _ => ∃ ties : List (Int × Int), d = .tup (ties.map eP) ∧ ties.Sublist (pairsL n)) ?_ ea_nil)) (P2 := fun ds _ => ∃ ties : List (Int × Int), ds = [.tup (zs.map .int), .tup (ties.map eP)] ∧ ties.Sublist (pairsL n)) ?_) ?_ ?_
    · intro H3 e3 Q' q'
      refine et_cmp (K := K) (EP.anyI (ep_draw hh2 (ea_cons (ed_var rfl (.obj (.ref h))) (ea_cons ed_int ea_nil)) (by omega))) (EP.weak ed_int fun d _ _ p => ⟨_, p⟩) H3 e3 _ fun b H4 e4 _ => ?_
      cases b with
      | true => exact ed_tupOf (K := K) (ed_call (P := is (.lst ((pairsL n).map eP))) (ea_cons (ed_var rfl (.int (n : Int))) ea_nil) fun H5 _ => ⟨n, rfl, by omega, rfl⟩) H4 (Le.refl _) Q' fun v d H5 e5 p r => q' v d H5 (e4.trans e5) ⟨_, p, List.Sublist.refl _⟩ r
      | false => exact ed_tup (K := K) (σ := [some (.ref h), some (.int most), some (.int (n : Int)), some v, none]) ea_nil (by decide) H4 (Le.refl _) Q' fun v d H5 e5 p r => q' v d H5 (e4.trans e5) ⟨[], p, List.nil_sublist _⟩ r
    · rintro ds H3 ⟨d1, r1, _, rfl, _, rfl, d2, r2, _, rfl, _, ⟨ties, rfl, hs⟩, rfl⟩
      exact ⟨ties, rfl, hs⟩
    · rintro ds H3 ⟨ties, rfl, _⟩
      show 2 ≤ 100000
      decide
    · rintro ds H3 ⟨ties, rfl, hs⟩ H4 _
      exact ⟨ties, rfl, hs⟩
  · rintro v d H3 e3 ⟨ties, rfl, hs⟩ r
    exact q v _ H3 ((e1.trans e2).trans e3) ⟨zs, ties, rfl, ⟨by omega, by omega, hz, by rw [hl]; exact hs⟩, by omega⟩ r
end
end W1

set_option maxRecDepth 100000
set_option maxHeartbeats 4000000
namespace W1
open PySem PyProof.Rows L2 RZ
local macro_rules | `(tactic| walk_at "rp") => `(tactic| first | assumption | exact Rp.int _ | exact Rp.bl _ | exact Rp.str _ | exact Rp.non | exact Rp.obj _ | (refine Rp.le (by assumption) ?_; walk_at "rp"))
local macro_rules | `(tactic| walk_at "ed") => `(tactic| first
  | exact ed_int | exact ed_str | exact ed_bl | exact ed_non
  | (refine ed_var rfl ?_; walk_at "rp")
  | (refine ed_ixT (ds := [_, _]) ?_ ed_int (by decide) rfl; walk_at "ed")
  | (refine ed_I0 ?_ ?_ <;> walk_at "ed")
  | (refine ed_B0 ?_ ?_ <;> walk_at "ed")
  | (refine ed_eqS ?_ ?_ rfl rfl rfl <;> walk_at "ed")
  | assumption)
local macro_rules | `(tactic| walk_at "ea") => `(tactic| first | exact ea_nil | (refine ea_cons ?_ ?_; walk_at "ed"; walk_at "ea"))

abbrev s__law_nested : Stmt := topS 44
abbrev N__law_nested : List Str := ["_law_hand_here", "_law_thing", "_law_turn"]
theorem sc__law_nested : FnScope N__law_nested ["_law_hand_here"] (defScope s__law_nested) := ⟨rfl, rfl, rfl, by decide +kernel, rfl, by decide +kernel, by decide +kernel⟩
section
variable {P : Program} {w : World} {K : PySem.W.Frag} {mg : Str → Option Value} {base : Heap}
def NT (d : D) : Prop := ∀ a b t, d ≠ .tup [a, b, .int t]
/-- what is nested -/
structure Ns (d : D) : Prop where
  nt : NT d
  it : ∀ xs, d = .tup xs → xs.length ≤ 1 ∧ ∀ x ∈ xs, NT x
theorem ns_not {d : D} (h : ∀ xs, d ≠ .tup xs) : Ns d := ⟨fun _ _ _ => h _, fun xs e => absurd e (h xs)⟩
theorem ns_one {d : D} (h : NT d) : Ns (.tup [d]) := ⟨fun _ _ _ e => (nomatch e), fun xs e => by
  injection e with e
  subst e
  exact ⟨Nat.le_refl _, fun x hx => by rw [List.mem_singleton.mp hx]; exact h⟩⟩
def R_nested : List D → Hp → Pd → Prop := fun ds H P => ∃ h : Addr, ds = [.obj (.ref h)] ∧ Hand H h ∧ P = fun d H2 => Th H2 d ∧ Ns d
theorem ok_nested (T : STxt mg) (g : GDef K mg "_law_nested" s__law_nested ["_law_hand_here"]) (G_law_any : Def P w K mg base 2 "_law_any" ["_law_hand_here", "_law_items"] (spD K R_any)) : Def P w K mg base 3 "_law_nested" ["_law_hand_here"] (spD K R_nested) := by
  refine defD g sc__law_nested (fun ds H Pd h => ?_) fun cdv A outer s f H vs ds Pd Q E hr r h q => ?_
  · obtain ⟨h, rfl, _⟩ := h
    rfl
  obtain ⟨h, rfl, hh, rfl⟩ := h
  obtain ⟨v1, rfl, r1⟩ := rps1 r
  have ev := rp_obj r1
  subst ev
  refine ⟨_, (pss_cons (ps_set (i := 1) sc__law_nested.nd rfl (Or.inl rfl) (pe_def G_law_any (hr.mono (by decide)) (pa_cons (pv 0) (pa_cons (pe_lst (pa_cons (pe_tup pa_nil) (pa_cons pe_int (pa_cons pe_str (pa_cons pe_non pa_nil))))) pa_nil))))
    (pss_cons (ps_for PassesOwn.never rfl (pi_range1 (by rfl) T.n_range (pa_cons pe_int pa_nil)) (pg_name (i := 2) sc__law_nested.nd rfl (Or.inl rfl))
      (pss_one (ps_set (i := 1) sc__law_nested.nd rfl (Or.inl rfl) (pe_ifExp (pt_cmpR op_eq (pe_op op_mod (pe_callTy call_int1 (by rfl) T.n_int boot_int (pa_cons (pv 2) pa_nil)) pe_int) pe_int (nomark _)) (pe_lst (pa_cons (pv 1) pa_nil)) (pe_tup (pa_cons (pv 1) pa_nil))))))
    (pss_one (ps_ret (pv 1))))), ?_⟩
  refine q_asg (K := K) (ep_any (K := K) (PX := fun xs => xs = [.tup [], .int 0, .str "a", .non]) hh (EA_weak (ea_cons (ed_var rfl (.obj (.ref h))) (ea_cons (ed_lst (ea_cons (ed_tup ea_nil (by decide)) (ea_cons ed_int (ea_cons ed_str (ea_cons ed_non ea_nil)))) (by show 4 ≤ 100000; decide) rfl) ea_nil)) fun ds H2 p => ⟨_, p, rfl⟩) fun xs hx => by rw [hx]; exact ⟨(fun h => nomatch h), by show 4 ≤ 100000; decide⟩) fun v d H1 e1 p r2 => ?_
  have hd : ∀ H', Th H' d ∧ Ns d := by
    obtain ⟨xs, rfl, hm⟩ := p
    simp only [List.mem_cons, List.not_mem_nil, or_false] at hm
    intro H'
    rcases hm with rfl | rfl | rfl | rfl
    · exact ⟨.tup (Nat.zero_le _) fun x hx => (nomatch hx), ⟨fun _ _ _ e => (nomatch e), fun xs e => by injection e with e; subst e; exact ⟨Nat.zero_le _, fun x hx => nomatch hx⟩⟩⟩
    · exact ⟨.sc rfl, ns_not fun _ e => nomatch e⟩
    · exact ⟨.sc rfl, ns_not fun _ e => nomatch e⟩
    · exact ⟨.sc rfl, ns_not fun _ e => nomatch e⟩
  refine q_forR1 (K := K) (n := 36) (ea_cons ed_int ea_nil) (by omega) fun H2 e2 => ?_
  refine ⟨fun i σ H' => ∃ v y d, σ = [some (.ref h), some v, y] ∧ Le H H' ∧ Rp K H' v d ∧ Th H' d ∧ Ns d, ⟨v, none, d, rfl, e1.trans e2, r2.le e2, hd _⟩, ?_, ?_⟩
  · rintro i σ' H3 hi ⟨v, y, d, rfl, e, r2, hd, hs⟩
    refine s_asg (K := K) (P := fun d' H4 => Th H4 d' ∧ Ns d') (ep_if (et_test (K := K) (ed_eqS (d2 := .int 4) (ed_I (f := fun i j => i % j) (ed_int1 (ed_var rfl (.int (i : Int)))) ed_int (by show (0 : Int) < 5; decide)) ed_int rfl rfl rfl)) (fun _ => ?_) fun _ => ?_) fun v' d' H4 e4 p r => ⟨v', _, d', rfl, e.trans e4, r, p⟩
    · refine EP.weak (ep_lstO (P := fun ds _ => ds = [d]) (ea_cons (ed_var rfl r2) ea_nil) (fun ds H4 p => by rw [p]; show 1 ≤ 100000; decide)) fun d' H4 _ p => ?_
      obtain ⟨u, rfl, ho⟩ := p
      exact ⟨.ob ho, ns_not fun _ e => nomatch e⟩
    · refine EP.weak (ed_tup (ea_cons (ed_var rfl r2) ea_nil) (by show 1 ≤ 100000; decide)) fun d' H4 e4 p => ?_
      have p' : d' = .tup [d] := p
      subst p'
      exact ⟨.tup (by show 1 ≤ 50000; decide) fun x hx => by rw [List.mem_singleton.mp hx]; exact hd.le e4, ns_one hs.nt⟩
  · rintro σ' H3 ⟨v, y, d, rfl, e, r2, hd, hs⟩
    exact s_ret (K := K) (P := fun d' H4 => Th H4 d' ∧ Ns d') (EP.weak (ed_var rfl r2) fun d' H4 e4 p => by
      have p' : d' = d := p
      subst p'
      exact ⟨hd.le e4, hs⟩) fun v' d' H4 e4 p r => q v' d' H4 (e.trans e4) p r
end
end W1

set_option maxRecDepth 100000
set_option maxHeartbeats 4000000
namespace W1
open PySem PyProof.Rows L2
local macro_rules | `(tactic| walk_at "rp") => `(tactic| first | assumption | exact Rp.int _ | exact Rp.bl _ | exact Rp.str _ | exact Rp.non | exact Rp.obj _ | (refine Rp.le (by assumption) ?_; walk_at "rp"))
local macro_rules | `(tactic| walk_at "ed") => `(tactic| first
  | exact ed_int | exact ed_str | exact ed_bl | exact ed_non
  | (refine ed_var rfl ?_; walk_at "rp")
  | (refine ed_ixT (ds := [_, _]) ?_ ed_int (by decide) rfl; walk_at "ed")
  | (refine ed_I0 ?_ ?_ <;> walk_at "ed")
  | (refine ed_B0 ?_ ?_ <;> walk_at "ed")
  | (refine ed_eqS ?_ ?_ rfl rfl rfl <;> walk_at "ed")
  | assumption)
local macro_rules | `(tactic| walk_at "ea") => `(tactic| first | exact ea_nil | (refine ea_cons ?_ ?_; walk_at "ed"; walk_at "ea"))

abbrev s_is_integer : Stmt := topS 8
abbrev N_is_integer : List Str := ["thing"]
theorem sc_is_integer : FnScope N_is_integer ["thing"] (defScope s_is_integer) := ⟨rfl, rfl, rfl, by decide +kernel, rfl, by decide +kernel, by decide +kernel⟩
abbrev s_is_between : Stmt := topS 9
abbrev N_is_between : List Str := ["least", "most", "thing"]
theorem sc_is_between : FnScope N_is_between ["least", "most", "thing"] (defScope s_is_between) := ⟨rfl, rfl, rfl, by decide +kernel, rfl, by decide +kernel, by decide +kernel⟩
abbrev s_check_memories : Stmt := topS 15
abbrev N_check_memories : List Str := ["memories", "memory"]
theorem sc_check_memories : FnScope N_check_memories ["memories"] (defScope s_check_memories) := ⟨rfl, rfl, rfl, by decide +kernel, rfl, by decide +kernel, by decide +kernel⟩
abbrev s_is_tie : Stmt := topS 17
abbrev N_is_tie : List Str := ["many", "thing", "room"]
theorem sc_is_tie : FnScope N_is_tie ["many", "thing"] (defScope s_is_tie) := ⟨rfl, rfl, rfl, by decide +kernel, rfl, by decide +kernel, by decide +kernel⟩
abbrev s_check_ties : Stmt := topS 16
abbrev N_check_ties : List Str := ["many", "ties", "at", "tie"]
theorem sc_check_ties : FnScope N_check_ties ["many", "ties"] (defScope s_check_ties) := ⟨rfl, rfl, rfl, by decide +kernel, rfl, by decide +kernel, by decide +kernel⟩
structure GTxt (mg : Str → Option Value) : Prop extends Txt mg where
  g_rooms : ∃ u, mg "MOST_ROOMS" = some u ∧ RelV (.int 60) u
  g_memory : ∃ u, mg "MOST_MEMORY" = some u ∧ RelV (.int 30) u
section
variable {P : Program} {w : World} {K : PySem.W.Frag} {mg : Str → Option Value} {base : Heap}
def R_isint : List D → Hp → Pd → Prop := fun ds H P => ∃ d, ds = [d] ∧ Tk H d ∧ P = is (.bl (isI d))
theorem ok_isint (T : Txt mg) (g : GDef K mg "is_integer" s_is_integer ["thing"]) : Def P w K mg base 1 "is_integer" ["thing"] (spD K R_isint) := by
  refine defD g sc_is_integer (fun ds H Pd h => ?_) fun cdv A outer s f H vs ds Pd Q E hr r h q => ?_
  · obtain ⟨d, rfl, _⟩ := h
    rfl
  obtain ⟨d, rfl, hn, rfl⟩ := h
  obtain ⟨v1, rfl, r1⟩ := rps1 r
  refine ⟨_, (pss_one (ps_ret (pe_and (pe_callB (kc_isi (K := K)) (by rfl) T.n_isinstance boot_isinstance (pa_cons (pv 0) (pa_cons (pe_bltn (v := V.ty "int") (by rfl) T.n_int boot_int rfl) pa_nil))) (pe_one (pe_not (pe_callB (kc_isi (K := K)) (by rfl) T.n_isinstance boot_isinstance (pa_cons (pv 0) (pa_cons (pe_bltn (v := V.ty "bool") (by rfl) T.n_bool boot_bool rfl) pa_nil)))))))), ?_⟩
  refine s_retD (ed_eq (ed_andV (ed_isInt (ed_var rfl r1) hn) fun _ => ed_notV (ed_isBool (ed_var rfl r1) hn)) ?_) fun v H1 e1 r => q v _ H1 e1 rfl r
  cases d <;> rfl
def R_btw : List D → Hp → Pd → Prop := fun ds H P => ∃ l m d, ds = [.int l, .int m, d] ∧ Tk H d ∧ P = is (.bl (btw l m d))
theorem ok_btw (T : Txt mg) (g : GDef K mg "is_between" s_is_between ["least", "most", "thing"]) (Gis_integer : Def P w K mg base 1 "is_integer" ["thing"] (spD K R_isint)) : Def P w K mg base 2 "is_between" ["least", "most", "thing"] (spD K R_btw) := by
  refine defD g sc_is_between (fun ds H Pd h => ?_) fun cdv A outer s f H vs ds Pd Q E hr r h q => ?_
  · obtain ⟨l, m, d, rfl, _⟩ := h
    rfl
  obtain ⟨l, m, d, rfl, hn, rfl⟩ := h
  obtain ⟨v1, v2, v3, rfl, r1, r2, r3⟩ := rps3 r
  refine ⟨_, (pss_one (ps_ret (pe_and (pe_def Gis_integer (hr.mono (by decide)) (pa_cons (pv 2) pa_nil)) (pe_one (pe_chain op_le op_le (pv 0) (pv 2) (pv 1)))))), ?_⟩
  have hc : ED K (tCall (spD K R_isint) [] E0 (tCons (tVar 2) tNil)) [some v1, some v2, some v3] H (.bl (isI d)) := ed_call (ea_cons (ed_var rfl r3) ea_nil) fun H1 e => ⟨d, rfl, hn.le e, rfl⟩
  have fin : isI d = false → btw l m d = false := fun h => by
    cases d <;> first | rfl | cases h
  cases hi : isI d with
  | false =>
    rw [hi] at hc
    refine s_retD (ed_andV (b := true) hc fun h => nomatch h) fun v H1 e1 r => q v _ H1 e1 (by rw [fin hi]; rfl) r
  | true =>
    rw [hi] at hc
    obtain ⟨i, rfl⟩ : ∃ i, d = .int i := by
      cases d with
      | int i => exact ⟨i, rfl⟩
      | _ => cases hi
    refine s_retD (ed_andV hc fun _ => ed_chain (f := fun i j => decide (i ≤ j)) (g := fun i j => decide (i ≤ j)) (ed_var rfl r1) (ed_var rfl r3) (ed_var rfl r2)) fun v H1 e1 r => q v _ H1 e1 rfl r
/-- a call of is_between -/
theorem ed_btw {σ : L2.St} {H : Hp} {ta tb tc : TE} {E : XK} {l m : Int} {d : D} (ha : ED K ta σ H (.int l)) (hb : ED K tb σ H (.int m)) (hc : ED K tc σ H d) (hn : noObj d = true) : ED K (tCall (spD K R_btw) [] E (tCons ta (tCons tb (tCons tc tNil)))) σ H (.bl (btw l m d)) :=
  ed_call (ea_cons ha (ea_cons hb (ea_cons hc ea_nil))) fun H1 _ => ⟨l, m, d, rfl, .inl hn, rfl⟩
theorem ed_btwK {σ : L2.St} {H : Hp} {ta tb tc : TE} {E : XK} {l m : Int} {d : D} (ha : ED K ta σ H (.int l)) (hb : ED K tb σ H (.int m)) (hc : ED K tc σ H d) (hn : Tk H d) : ED K (tCall (spD K R_btw) [] E (tCons ta (tCons tb (tCons tc tNil)))) σ H (.bl (btw l m d)) :=
  ed_call (ea_cons ha (ea_cons hb (ea_cons hc ea_nil))) fun H1 e => ⟨l, m, d, rfl, hn.le e, rfl⟩
theorem all_true {α : Type} {f : α → Bool} : ∀ {xs : List α}, (∀ x ∈ xs, f x = true) → ((xs.map f).all id) = true
  | [], _ => rfl
  | x :: xs, h => by
    rw [List.map_cons, List.all_cons, all_true fun y hy => h y (List.mem_cons_of_mem _ hy)]
    simp [h x (List.mem_cons_self ..)]
def R_cmem : List D → Hp → Pd → Prop := fun ds _ P => ∃ ms : List Int, ds = [.tup (ms.map .int)] ∧ 1 ≤ ms.length ∧ ms.length ≤ 60 ∧ (∀ m ∈ ms, 0 ≤ m ∧ m ≤ 30) ∧ P = is .non
theorem ok_cmem (T : GTxt mg) (g : GDef K mg "check_memories" s_check_memories ["memories"]) (Gis_between : Def P w K mg base 2 "is_between" ["least", "most", "thing"] (spD K R_btw)) : Def P w K mg base 3 "check_memories" ["memories"] (spD K R_cmem) := by
  refine defD g sc_check_memories (fun ds H Pd h => ?_) fun cdv A outer s f H vs ds Pd Q E hr r h q => ?_
  · obtain ⟨ms, rfl, _⟩ := h
    rfl
  obtain ⟨ms, rfl, h1, h2, hm, rfl⟩ := h
  obtain ⟨v1, rfl, r1⟩ := rps1 r
  refine ⟨_, (pss_cons (ps_if (PW.pt (pw_or (pt_not (pt_val (pe_callB (kc_isi (K := K)) (by rfl) T.n_isinstance boot_isinstance (pa_cons (pv 0) (pa_cons (pe_bltn (v := V.ty "tuple") (by rfl) T.n_tuple boot_tuple rfl) pa_nil))))) (pw_or1 (pt_not (pt_val (pe_def Gis_between (hr.mono (by decide)) (pa_cons pe_int (pa_cons (pe_gl T.g_rooms) (pa_cons (pe_callB (kc_len (K := K)) (by rfl) T.n_len boot_len (pa_cons (pv 0) pa_nil)) pa_nil)))))))))
      (pss_one ps_never)
      pss_nil)
    (pss_one (ps_if (pt_not (pt_val (pe_callB (kc_all (K := K) rfl) (by rfl) T.n_all boot_all (pa_cons (pe_lc (own := [("memory", 1)]) rfl sc_check_memories.nd (kpi_tup (K := K) (pv 0)) (blkOk_by (N := N_check_memories) (sc := defScope s_check_memories) (by decide +kernel)) (fun _ _ _ _ _ => (pg_name (i := 1) sc_check_memories.nd rfl (Or.inl rfl))) (fun _ _ _ _ _ => pts_nil) (fun _ _ _ _ _ => (pe_def Gis_between (hr.mono (by decide)) (pa_cons pe_int (pa_cons (pe_gl T.g_memory) (pa_cons (pv 1) pa_nil)))))) pa_nil))))
      (pss_one ps_never)
      pss_nil))), ?_⟩
  refine q_no (eb_or (eb_not (et_B (ed_isi (d := .tup (ms.map .int)) (ed_var rfl r1) (noObj_ne rfl) (kit_tup rfl)))) fun _ => eb_not (et_B (ed_btw ed_int ed_int (ed_lenT (ed_var rfl r1)) rfl))) ?_ fun H1 e1 => ?_
  · have e : btw 1 60 (.int (((ms.map D.int).length : Nat) : Int)) = true := by
      rw [List.length_map]
      show (decide _ && decide _) = true
      rw [decide_eq_true (by omega), decide_eq_true (by omega)]
      rfl
    rw [e]
    rfl
  refine s_no (eb_not (et_B (ed_all (bs := ms.map fun m => btw 0 30 (.int m)) (ed_eq (ed_lcT enc_bl (encS := .int) ms (fun _ => true) (fun m => btw 0 30 (.int m)) (ed_var rfl (r1.le e1)) (by omega) (fun _ => rfl) (fun b v H2 e hb r => et_yes) fun b v H2 e hb r _ => ed_btw ed_int ed_int (ed_var rfl r) rfl) ?_)))) ?_ fun H2 e2 => q _ .non H2 (e1.trans e2) rfl .non
  · rw [List.filter_eq_self.mpr (fun _ _ => rfl)]
  · rw [all_true]
    · rfl
    · intro m hm2
      have := hm m hm2
      show (decide _ && decide _) = true
      rw [decide_eq_true (by omega), decide_eq_true (by omega)]
      rfl
def R_istie : List D → Hp → Pd → Prop := fun ds _ P => ∃ n p, ds = [.int n, eP p] ∧ 0 ≤ p.1 ∧ p.1 < p.2 ∧ p.2 < n ∧ P = is (.bl true)
theorem ok_istie (T : Txt mg) (g : GDef K mg "is_tie" s_is_tie ["many", "thing"]) (Gis_between : Def P w K mg base 2 "is_between" ["least", "most", "thing"] (spD K R_btw)) : Def P w K mg base 3 "is_tie" ["many", "thing"] (spD K R_istie) := by
  refine defD g sc_is_tie (fun ds H Pd h => ?_) fun cdv A outer s f H vs ds Pd Q E hr r h q => ?_
  · obtain ⟨n, p, rfl, _⟩ := h
    rfl
  obtain ⟨n, p, rfl, h1, h2, h3, rfl⟩ := h
  obtain ⟨v1, v2, rfl, r1, r2⟩ := rps2 r
  refine ⟨_, (pss_cons (ps_if (PW.pt (pw_or (pt_not (pt_val (pe_callB (kc_isi (K := K)) (by rfl) T.n_isinstance boot_isinstance (pa_cons (pv 1) (pa_cons (pe_bltn (v := V.ty "tuple") (by rfl) T.n_tuple boot_tuple rfl) pa_nil))))) (pw_or1 (pt_cmpR op_ne (pe_callB (kc_len (K := K)) (by rfl) T.n_len boot_len (pa_cons (pv 1) pa_nil)) pe_int (nomark _)))))
      (pss_one (ps_ret pe_bl))
      pss_nil)
    (pss_cons (ps_if (pt_not (pt_val (pe_callB (kc_all (K := K) rfl) (by rfl) T.n_all boot_all (pa_cons (pe_lc (own := [("room", 2)]) rfl sc_is_tie.nd (kpi_tup (K := K) (pv 1)) (blkOk_by (N := N_is_tie) (sc := defScope s_is_tie) (by decide +kernel)) (fun _ _ _ _ _ => (pg_name (i := 2) sc_is_tie.nd rfl (Or.inl rfl))) (fun _ _ _ _ _ => pts_nil) (fun _ _ _ _ _ => (pe_def Gis_between (hr.mono (by decide)) (pa_cons pe_int (pa_cons (pe_op op_sub (pv 0) pe_int) (pa_cons (pv 2) pa_nil)))))) pa_nil))))
      (pss_one (ps_ret pe_bl))
      pss_nil)
    (pss_one (ps_ret (pe_cmpR op_lt (pe_ix (kix_tup (K := K)) (pv 1) pe_int (fun _ _ => rfl)) (pe_ix (kix_tup (K := K)) (pv 1) pe_int (fun _ _ => rfl)) (nomark _)))))), ?_⟩
  refine q_no (eb_or (eb_not (et_B (ed_isi (d := eP p) (ed_var rfl r2) (noObj_ne rfl) (kit_tup rfl)))) fun _ => et_test (ed_neS (d2 := .int 2) (ed_lenT (ds := [_, _]) (ed_var rfl r2)) ed_int rfl rfl rfl)) (by show (!true || !decide _) = false; simp [vOf]) fun H1 e1 => ?_
  refine q_no (eb_not (et_B (ed_all (bs := [p.1, p.2].map fun m => btw 0 (n - 1) (.int m)) (ed_eq (ed_lcT enc_bl (encS := .int) [p.1, p.2] (fun _ => true) (fun m => btw 0 (n - 1) (.int m)) (ed_var rfl (r2.le e1)) (by show 2 ≤ 50000; decide) (fun _ => rfl) (fun b v H2 e hb r => et_yes) fun b v H2 e hb r _ => ed_btw ed_int (ed_I0 (f := fun i j => i - j) (ed_var rfl (r1.le (e1.trans e))) ed_int) (ed_var rfl r) rfl) ?_)))) ?_ fun H2 e2 => ?_
  · rw [List.filter_eq_self.mpr (fun _ _ => rfl)]
  · rw [all_true]
    · rfl
    · intro m hm2
      simp only [List.mem_cons, List.not_mem_nil, or_false] at hm2
      show (decide _ && decide _) = true
      rcases hm2 with rfl | rfl
      · rw [decide_eq_true (by omega), decide_eq_true (by omega)]
        rfl
      · rw [decide_eq_true (by omega), decide_eq_true (by omega)]
        rfl
  · have r2' := r2.le (e1.trans e2)
    refine s_retD (ed_eq (ed_B0 (f := fun i j => decide (i < j)) (i := p.1) (j := p.2) (ed_ixT (ds := [_, _]) (ed_var rfl r2') ed_int (by decide) rfl) (ed_ixT (ds := [_, _]) (ed_var rfl r2') ed_int (by decide) rfl)) ?_) fun v H3 e3 r => q v _ H3 ((e1.trans e2).trans e3) rfl r
    rw [decide_eq_true h2]
end
end W1

set_option maxRecDepth 100000
set_option maxHeartbeats 4000000
namespace W1
open PySem PyProof.Rows L2
local macro_rules | `(tactic| walk_at "rp") => `(tactic| first | assumption | exact Rp.int _ | exact Rp.bl _ | exact Rp.str _ | exact Rp.non | exact Rp.obj _ | (refine Rp.le (by assumption) ?_; walk_at "rp"))
local macro_rules | `(tactic| walk_at "ed") => `(tactic| first
  | exact ed_int | exact ed_str | exact ed_bl | exact ed_non
  | (refine ed_var rfl ?_; walk_at "rp")
  | (refine ed_ixT (ds := [_, _]) ?_ ed_int (by decide) rfl; walk_at "ed")
  | (refine ed_I0 ?_ ?_ <;> walk_at "ed")
  | (refine ed_B0 ?_ ?_ <;> walk_at "ed")
  | (refine ed_eqS ?_ ?_ rfl rfl rfl <;> walk_at "ed")
  | assumption)
local macro_rules | `(tactic| walk_at "ea") => `(tactic| first | exact ea_nil | (refine ea_cons ?_ ?_; walk_at "ed"; walk_at "ea"))

abbrev s_near_lots : Stmt := topS 18
abbrev N_near_lots : List Str := ["many", "ties", "near", "one", "other", "_", "rooms"]
theorem sc_near_lots : FnScope N_near_lots ["many", "ties"] (defScope s_near_lots) := ⟨rfl, rfl, rfl, by decide +kernel, rfl, by decide +kernel, by decide +kernel⟩
/-! ### the ties ascend -/
def ltP (p q : Int × Int) : Prop := p.1 < q.1 ∨ (p.1 = q.1 ∧ p.2 < q.2)
theorem pairs_row (n : Nat) (i : Nat) : ((List.range ((n : Int) - ((i : Int) + 1)).toNat).map fun j : Nat => ((i : Int), (i : Int) + 1 + (j : Int))).Pairwise ltP := by
  rw [List.pairwise_map]
  exact (List.pairwise_lt_range).imp fun {a b} h => .inr ⟨rfl, by dsimp only; omega⟩
theorem pairs_up (n : Nat) : ∀ m : Nat, ((List.range m).flatMap fun i : Nat => (List.range ((n : Int) - ((i : Int) + 1)).toNat).map fun j : Nat => ((i : Int), (i : Int) + 1 + (j : Int))).Pairwise ltP
  | 0 => by simp
  | m + 1 => by
    rw [List.range_succ, List.flatMap_append, List.pairwise_append]
    refine ⟨pairs_up n m, ?_, fun a ha b hb => ?_⟩
    · rw [List.flatMap_cons, List.flatMap_nil, List.append_nil]
      exact pairs_row n m
    · rw [List.flatMap_cons, List.flatMap_nil, List.append_nil] at hb
      obtain ⟨i, hi, ha⟩ := List.mem_flatMap.mp ha
      obtain ⟨j, _, rfl⟩ := List.mem_map.mp ha
      obtain ⟨l, _, rfl⟩ := List.mem_map.mp hb
      have := List.mem_range.mp hi
      exact .inl (by dsimp only; omega)
theorem PartsOk.up {ms : List Int} {ties : List (Int × Int)} (ok : PartsOk ms ties) : ties.Pairwise ltP := (pairs_up ms.length ms.length).sublist ok.sub
theorem PartsOk.tie {ms : List Int} {ties : List (Int × Int)} (ok : PartsOk ms ties) {p : Int × Int} (h : p ∈ ties) : 0 ≤ p.1 ∧ p.1 < p.2 ∧ p.2 < ms.length := mem_pairsL.mp (ok.sub.subset h)
section
variable {P : Program} {w : World} {K : PySem.W.Frag} {mg : Str → Option Value} {base : Heap}
theorem ed_leP {σ : L2.St} {H : Hp} {ta tb : TE} {p q : Int × Int} (ha : ED K ta σ H (eP p)) (hb : ED K tb σ H (eP q)) (h : ltP q p) : ED K (tOp (rLeT K) ta tb) σ H (.bl false) :=
  ed_op ha hb fun x y H2 _ r1 r2 Q q' => by
    obtain ⟨a, xs, rfl, s, rr⟩ := rp_tup r1
    obtain ⟨b, ys, rfl, s2, rr2⟩ := rp_tup r2
    have e1 := ints_rps (ns := [p.1, p.2]) rr
    have e2 := ints_rps (ns := [q.1, q.2]) rr2
    subst e1 e2
    refine ⟨a, b, [p.1, p.2], [q.1, q.2], rfl, rfl, s, s2, ?_⟩
    have e : Ob.lexAt (fun j => decide ([p.1, p.2].getD j 0 = [q.1, q.2].getD j 0)) (fun j => decide ([p.1, p.2].getD j 0 ≤ [q.1, q.2].getD j 0)) (decide ([p.1, p.2].length ≤ [q.1, q.2].length)) 0 (min [p.1, p.2].length [q.1, q.2].length) = false := by
      show (if decide (p.1 = q.1) = true then (if decide (p.2 = q.2) = true then _ else decide (p.2 ≤ q.2)) else decide (p.1 ≤ q.1)) = false
      rcases h with h | ⟨h, h2⟩
      · rw [if_neg (by simp; omega)]
        exact decide_eq_false (by omega)
      · rw [if_pos (by simp; omega), if_neg (by simp; omega)]
        exact decide_eq_false (by omega)
    rw [e]
    exact q' _ _ H2 (Le.refl _) rfl (.bl _)
def R_cties : List D → Hp → Pd → Prop := fun ds _ P => ∃ ms ties, ds = [.int ((ms : List Int).length : Int), .tup (ties.map eP)] ∧ PartsOk ms ties ∧ P = is .non
theorem ok_cties (T : GTxt mg) (g : GDef K mg "check_ties" s_check_ties ["many", "ties"]) (Gis_tie : Def P w K mg base 3 "is_tie" ["many", "thing"] (spD K R_istie)) : Def P w K mg base 4 "check_ties" ["many", "ties"] (spD K R_cties) := by
  refine defD g sc_check_ties (fun ds H Pd h => ?_) fun cdv A outer s f H vs ds Pd Q E hr r h q => ?_
  · obtain ⟨ms, ties, rfl, _⟩ := h
    rfl
  obtain ⟨ms, ties, rfl, ok, rfl⟩ := h
  obtain ⟨v1, v2, rfl, r1, r2⟩ := rps2 r
  refine ⟨_, (pss_cons (ps_if (pt_not (pt_val (pe_callB (kc_isi (K := K)) (by rfl) T.n_isinstance boot_isinstance (pa_cons (pv 1) (pa_cons (pe_bltn (v := V.ty "tuple") (by rfl) T.n_tuple boot_tuple rfl) pa_nil)))))
      (pss_one ps_never)
      pss_nil)
    (pss_one (ps_for PassesOwn.never rfl (kpi_enumT (K := K) (by rfl) T.n_enumerate (pa_cons (pv 1) pa_nil)) (kpg_tup (K := K) (n := 2) rfl (pgs_cons (pg_name (i := 2) sc_check_ties.nd rfl (Or.inl rfl)) (pgs_cons (pg_name (i := 3) sc_check_ties.nd rfl (Or.inl rfl)) pgs_nil)))
      (pss_cons (ps_if (pt_not (pt_val (pe_def Gis_tie (hr.mono (by decide)) (pa_cons (pv 0) (pa_cons (pv 3) pa_nil)))))
      (pss_one ps_never)
      pss_nil)
    (pss_one (ps_if (PW.pt (pw_and (pt_cmpR op_gt (pv 2) pe_int (nomark _)) (pw_and1 (pt_cmpR (kop_leT (K := K) hr.units0) (pv 3) (pe_ix (kix_tup (K := K)) (pv 1) (pe_op op_sub (pv 2) pe_int) (fun _ _ => rfl)) (nomark _)))))
      (pss_one ps_never)
      pss_nil)))))), ?_⟩
  refine q_no (eb_not (et_B (ed_isi (d := .tup (ties.map eP)) (ed_var rfl r2) (noObj_ne rfl) (kit_tup rfl)))) rfl fun H1 e1 => ?_
  refine s_forE (K := K) (ds := ties.map eP) (ea_cons (ed_var rfl (r2.le e1)) ea_nil) (enc_P.nl _) fun H2 e2 => ?_
  refine ⟨fun i σ H' => ∃ y1 y2, σ = [some v1, some v2, y1, y2] ∧ Le H2 H', ⟨none, none, rfl, Le.refl _⟩, fun i σ H' _ ⟨_, _, _, e⟩ => e.t, ?_, ?_⟩
  · rintro i d v σ' H' H3 hd ⟨y1, y2, rfl, e⟩ e3 rv
    obtain ⟨p, hp, rfl⟩ := map_at hd
    obtain ⟨h1, h2, h3⟩ := ok.tie (List.mem_of_getElem? hp)
    have hil : i < ties.length := (List.getElem?_eq_some_iff.mp hp).1
    refine ⟨rfl, ?_⟩
    have e03 := ((e1.trans e2).trans e).trans e3
    refine q_no (eb_not (et_B (K := K) (b := true) (ed_call (ea_cons (ed_var rfl (r1.le e03)) (ea_cons (ed_var rfl rv) ea_nil)) fun H4 _ => ⟨_, p, rfl, h1, h2, h3, rfl⟩))) rfl fun H4 e4 => ?_
    refine s_no (eb_and (b := false) (et_test (K := K) (ed_B0 (f := fun i j => decide (j < i)) (ed_var rfl (.int (i : Int))) ed_int)) fun hi => ?_) (Bool.and_false _) fun H5 e5 => ⟨_, _, rfl, ((e.trans e3).trans e4).trans e5⟩
    have hi2 : 0 < i := by
      have := of_decide_eq_true hi
      omega
    obtain ⟨p0, hp0⟩ : ∃ p0, ties[i - 1]? = some p0 := ⟨ties[i - 1], List.getElem?_eq_getElem (by omega)⟩
    have hlt : ltP p0 p := by
      have h := List.pairwise_iff_getElem.mp ok.up (i - 1) i (by omega) hil (by omega)
      rw [List.getElem?_eq_getElem (by omega)] at hp0
      rw [List.getElem?_eq_getElem hil] at hp
      rw [Option.some.inj hp0, Option.some.inj hp] at h
      exact h
    refine et_test (K := K) (ed_leP (p := p) (q := p0) (ed_var rfl (rv.le e4)) (ed_ixT (ds := ties.map eP) (ed_var rfl (r2.le (e03.trans e4))) (ed_I0 (f := fun i j => i - j) (ed_var rfl (.int (i : Int))) ed_int) (by omega) ?_) hlt)
    have en : ((i : Int) - 1).toNat = i - 1 := by omega
    rw [en]
    exact map_get hp0
  · rintro σ' H' ⟨y1, y2, rfl, e⟩
    exact q _ .non H' ((e1.trans e2).trans e) rfl .non
end
end W1

set_option maxRecDepth 100000
set_option maxHeartbeats 4000000
namespace W1
open PySem PyProof.Rows L2
local macro_rules | `(tactic| walk_at "rp") => `(tactic| first | assumption | exact Rp.int _ | exact Rp.bl _ | exact Rp.str _ | exact Rp.non | exact Rp.obj _ | (refine Rp.le (by assumption) ?_; walk_at "rp"))
local macro_rules | `(tactic| walk_at "ed") => `(tactic| first
  | exact ed_int | exact ed_str | exact ed_bl | exact ed_non
  | (refine ed_var rfl ?_; walk_at "rp")
  | (refine ed_ixT (ds := [_, _]) ?_ ed_int (by decide) rfl; walk_at "ed")
  | (refine ed_I0 ?_ ?_ <;> walk_at "ed")
  | (refine ed_B0 ?_ ?_ <;> walk_at "ed")
  | (refine ed_eqS ?_ ?_ rfl rfl rfl <;> walk_at "ed")
  | assumption)
local macro_rules | `(tactic| walk_at "ea") => `(tactic| first | exact ea_nil | (refine ea_cons ?_ ?_; walk_at "ed"; walk_at "ea"))

/-- a list of lists of ints, each a list of its own -/
structure Rows (H : Hp) (L : Addr) (as : List Addr) (f : Nat → List Int) (H0 : Hp) : Prop where
  top : H L = some (.lst (as.map V.ref))
  row : ∀ (i : Nat) a, as[i]? = some a → H a = some (.lst ((f i).map V.int))
  new : ∀ a ∈ as, H0 a = none
  nd : as.Nodup
  nL : L ∉ as
  nL0 : H0 L = none
  le : Le H0 H
theorem notH_refs (as : List Addr) : NotH (as.map V.ref) := notH_of fun v hv i e => by
  rw [List.getElem?_map] at hv
  cases h : as[1]? with
  | none =>
    rw [h] at hv
    cases hv
  | some a =>
    rw [h] at hv
    have := Option.some.inj hv
    rw [e] at this
    cases this
theorem Rows.le2 {H H' H0 : Hp} {L : Addr} {as : List Addr} {f : Nat → List Int} (r : Rows H L as f H0) (e : Le H H') : Rows H' L as f H0 :=
  ⟨e.lst r.top (notH_refs as), fun i a h => e.lst (r.row i a h) (notH_ints _), r.new, r.nd, r.nL, r.nL0, r.le.trans e⟩
theorem Rows.put {H H0 : Hp} {L a : Addr} {as : List Addr} {f : Nat → List Int} {i : Nat} {z : Int} (r : Rows H L as f H0) (h : as[i]? = some a) :
    Rows (upd H a (.lst ((f i).map V.int ++ [.int z]))) L as (fun j => if j = i then f i ++ [z] else f j) H0 := by
  have hm := List.mem_of_getElem? h
  have ne : L ≠ a := fun e => r.nL (e ▸ hm)
  refine ⟨by rw [upd_ne ne]; exact r.top, fun j b hb => ?_, r.new, r.nd, r.nL, r.nL0, r.le.mut (r.new a hm)⟩
  by_cases hj : j = i
  · subst hj
    cases hb.symm.trans h
    rw [if_pos rfl, upd_same, List.map_append]
    rfl
  · have nb : b ≠ a := fun e => hj (nd_ix r.nd hb (e ▸ h))
    rw [if_neg hj, upd_ne nb]
    exact r.row j b hb
theorem Rows.leT {H H' H0 : Hp} {L : Addr} {as : List Addr} {f f' : Nat → List Int} (r : Rows H L as f H0) (r' : Rows H' L as f' H0) : Le H0 H' := r'.le
section
variable {P : Program} {w : World} {K : PySem.W.Frag} {mg : Str → Option Value} {base : Heap}
theorem raw_more {l : List (Int × Int)} {p : Int × Int} {i : Int} : rawNear (l ++ [p]) i = rawNear l i ++ (if i ∈ [p.1, p.2] then [p.1 + p.2 - i] else []) := by
  unfold rawNear
  rw [List.filter_append, List.map_append]
  congr 1
  by_cases h : i ∈ [p.1, p.2]
  · rw [if_pos h, List.filter_cons, if_pos (decide_eq_true h)]
    rfl
  · rw [if_neg h, List.filter_cons, if_neg (by rw [decide_eq_false h]; exact Bool.false_ne_true)]
    rfl
def nearD (ms : List Int) (ties : List (Int × Int)) : D := .tup ((List.range ms.length).map fun i : Nat => .tup ((rawNear ties (i : Int)).map .int))
def R_nlots : List D → Hp → Pd → Prop := fun ds _ P => ∃ ms ties, ds = [.int ((ms : List Int).length : Int), .tup (ties.map eP)] ∧ PartsOk ms ties ∧ P = is (nearD ms ties)
theorem ok_nlots (T : GTxt mg) (g : GDef K mg "near_lots" s_near_lots ["many", "ties"]) : Def P w K mg base 1 "near_lots" ["many", "ties"] (spD K R_nlots) := by
  refine defD g sc_near_lots (fun ds H Pd h => ?_) fun cdv A outer s f H vs ds Pd Q E hr r h q => ?_
  · obtain ⟨ms, ties, rfl, _⟩ := h
    rfl
  obtain ⟨ms, ties, rfl, ok, rfl⟩ := h
  obtain ⟨v1, v2, rfl, r1, r2⟩ := rps2 r
  have hv1 := rp_int r1
  subst hv1
  generalize hn : ms.length = n at *
  have n60 : n ≤ 60 := by rw [← hn]; exact ok.few
  refine ⟨_, (pss_cons (ps_setLc (i := 2) (own := [("_", 5)]) rfl sc_near_lots.nd rfl rfl (sw_true rfl rfl rfl (by decide +kernel)) (pi_range1 (by rfl) T.n_range (pa_cons (pv 0) pa_nil)) (blkOk_by (N := N_near_lots) (sc := defScope s_near_lots) (by decide +kernel)) (fun _ _ _ _ _ => (pg_name (i := 5) sc_near_lots.nd rfl (Or.inl rfl))) (fun _ _ _ _ _ => pts_nil) (fun _ _ _ _ _ => (pe_lst pa_nil)))
    (pss_cons (ps_for PassesOwn.never rfl (kpi_tup (K := K) (pv 1)) (kpg_tup (K := K) (n := 2) rfl (pgs_cons (pg_name (i := 3) sc_near_lots.nd rfl (Or.inl rfl)) (pgs_cons (pg_name (i := 4) sc_near_lots.nd rfl (Or.inl rfl)) pgs_nil)))
      (pss_cons (ps_expr (pe_bm PySem.F.plainAttrs_list PySem.F.slot_list_append PySem.F.type_list_append mt_append (pe_ix (kix_list (K := K)) (pv 2) (pv 3) (fun _ _ => rfl)) (pa_cons (pv 4) pa_nil)))
    (pss_one (ps_expr (pe_bm PySem.F.plainAttrs_list PySem.F.slot_list_append PySem.F.type_list_append mt_append (pe_ix (kix_list (K := K)) (pv 2) (pv 4) (fun _ _ => rfl)) (pa_cons (pv 3) pa_nil))))))
    (pss_one (ps_ret (pe_callTy (kc_tuple (K := K)) (by rfl) T.n_tuple boot_tuple (pa_cons (pe_lc (own := [("rooms", 6)]) rfl sc_near_lots.nd (kpi_list (K := K) (pv 2)) (blkOk_by (N := N_near_lots) (sc := defScope s_near_lots) (by decide +kernel)) (fun _ _ _ _ _ => (pg_name (i := 6) sc_near_lots.nd rfl (Or.inl rfl))) (fun _ _ _ _ _ => pts_nil) (fun _ _ _ _ _ => (pe_callTy (kc_tuple (K := K)) (by rfl) T.n_tuple boot_tuple (pa_cons (pv 6) pa_nil)))) pa_nil)))))), ?_⟩
  -- near = [[] for _ in range(many)]
  refine ⟨_, rfl, (n : Int), rfl, by omega, by omega, fun L hL => lc_it (walk_range (lo := 0) (n := n)) (fun i H' => ∃ as, Rows H' L as (fun _ => []) H ∧ as.length = i ∧ i ≤ n) ⟨[], ⟨upd_same, fun i a h => by simp at h, fun a h => by simp at h, List.nodup_nil, by simp, hL, Le.new hL⟩, rfl, Nat.zero_le _⟩ (fun _ _ _ _ => trivial) ?_ ?_⟩
  · rintro i x H1 _ hi ⟨as, R, hl, _⟩ ⟨rfl, rfl⟩
    refine ⟨rfl, ?_⟩
    unfold tYes
    dsimp only
    rw [if_pos rfl]
    refine ⟨Nat.zero_le _, fun p np => ?_⟩
    have npL : L ≠ p := ne_of_none R.top np
    have nas : ∀ a ∈ as, a ≠ p := fun a ha => by
      obtain ⟨j, hj⟩ := List.mem_iff_getElem?.mp ha
      exact ne_of_none (R.row j a hj) np
    refine ⟨as.map V.ref, by rw [upd_ne npL]; exact R.top, by rw [List.length_map, hl]; exact Evl.sz_lt (by omega), as ++ [p], ⟨?_, fun j a hj => ?_, fun a ha => ?_, ?_, ?_, hL, ?_⟩, by rw [List.length_append, hl]; rfl, hi⟩
    · rw [upd_same, List.map_append]
      rfl
    · have ha : a ∈ as ++ [p] := List.mem_of_getElem? hj
      have hne : a ≠ L := by
        rcases List.mem_append.mp ha with ha | ha
        · exact fun e => R.nL (e ▸ ha)
        · rw [List.mem_singleton.mp ha]
          exact npL.symm
      rw [upd_ne hne]
      rcases List.mem_append.mp ha with ha | ha
      · rw [upd_ne (nas a ha)]
        obtain ⟨j2, hj2⟩ := List.mem_iff_getElem?.mp ha
        exact R.row j2 a hj2
      · rw [List.mem_singleton.mp ha]
        exact upd_same
    · rcases List.mem_append.mp ha with ha | ha
      · exact R.new a ha
      · rw [List.mem_singleton.mp ha]
        exact R.le.fresh np
    · rw [List.nodup_append]
      exact ⟨R.nd, by simp, fun a ha b hb => by rw [List.mem_singleton.mp hb]; exact nas a ha⟩
    · intro h
      rcases List.mem_append.mp h with h | h
      · exact R.nL h
      · exact npL (List.mem_singleton.mp h)
    · exact (R.le.trans (Le.new np)).mut hL
  rintro H1 ⟨as, R, hl, _⟩
  -- for one, other in ties
  refine q_forT (K := K) (ds := ties.map eP) (ed_var rfl (r2.le R.le)) (enc_P.nl _) fun H2 e2 => ?_
  refine ⟨fun i σ H' => ∃ y3 y4, σ = [some (.int (n : Int)), some v2, some (.ref L), y3, y4, none, none] ∧ LeT H2 H' ∧ Rows H' L as (fun j => rawNear (ties.take i) (j : Int)) H, ⟨none, none, rfl, LeT.refl _, R.le2 e2⟩, fun i σ H' _ ⟨_, _, _, e, _⟩ => e, ?_, ?_⟩
  · rintro i d v σ' H' hd rv ⟨y3, y4, rfl, et, R⟩
    obtain ⟨p, hp, rfl⟩ := map_at hd
    obtain ⟨h1, h2, h3⟩ := ok.tie (List.mem_of_getElem? hp)
    rw [hn] at h3
    obtain ⟨t, xs, rfl, st, rr⟩ := rp_tup rv
    obtain ⟨w1, w2, rfl, q1, q2⟩ := rps2 rr
    have e1 := rp_int q1
    have e2' := rp_int q2
    subst e1 e2'
    obtain ⟨a, ha⟩ : ∃ a, as[p.1.toNat]? = some a := ⟨as[p.1.toNat], List.getElem?_eq_getElem (by omega)⟩
    obtain ⟨b, hb⟩ : ∃ b, as[p.2.toNat]? = some b := ⟨as[p.2.toNat], List.getElem?_eq_getElem (by omega)⟩
    have len1 : ∀ l : List (Int × Int), ∀ i : Int, l.length ≤ 3600 → (rawNear l i).length ≤ 3600 := fun l i hl => by
      unfold rawNear
      rw [List.length_map]
      exact Nat.le_trans (List.length_filter_le _ _) hl
    have tl : (ties.take i).length ≤ 3600 := Nat.le_trans (List.length_take_le' _ _) ok.len
    refine ⟨t, _, rfl, st, rfl, _, _, rfl, _, _, rfl, rfl, ?_⟩
    -- near[one].append(other)
    refine ⟨_, rfl, _, rfl, L, _, p.1, .ref a, rfl, rfl, SqL.of R.top, ?_, .inl ⟨rfl, _, SqL.of (R.row _ _ ha)⟩, _, rfl, a, _, .int p.2, rfl, rfl, R.row _ _ ha, ?_, ?_⟩
    · exact at_of (j := p.1.toNat) (by omega) (by rw [List.getElem?_map, ha]; rfl)
    · rw [List.length_map]
      exact Evl.sz_lt (Nat.lt_of_le_of_lt (len1 _ _ tl) (by decide))
    have R1 := R.put (z := p.2) ha
    have lt1 := LeT.upd (o := .lst ((rawNear (ties.take i) ((p.1.toNat : Nat) : Int)).map V.int ++ [.int p.2])) (R.row _ _ ha)
    -- near[other].append(one)
    refine ⟨_, rfl, _, rfl, L, _, p.2, .ref b, rfl, rfl, SqL.of R1.top, ?_, .inl ⟨rfl, _, SqL.of (R1.row _ _ hb)⟩, _, rfl, b, _, .int p.1, rfl, rfl, R1.row _ _ hb, ?_, ?_⟩
    · exact at_of (j := p.2.toNat) (by omega) (by rw [List.getElem?_map, hb]; rfl)
    · rw [List.length_map, if_neg (by omega)]
      exact Evl.sz_lt (Nat.lt_of_le_of_lt (len1 _ _ tl) (by decide))
    have R2 := R1.put (z := p.1) hb
    refine ⟨_, _, rfl, (et.trans lt1).trans (LeT.upd (R1.row _ _ hb)), ?_⟩
    have ef : (fun j : Nat => rawNear (ties.take (i + 1)) (j : Int)) = fun j => if j = p.2.toNat then (if p.2.toNat = p.1.toNat then rawNear (ties.take i) ((p.1.toNat : Nat) : Int) ++ [p.2] else rawNear (ties.take i) ((p.2.toNat : Nat) : Int)) ++ [p.1] else if j = p.1.toNat then rawNear (ties.take i) ((p.1.toNat : Nat) : Int) ++ [p.2] else rawNear (ties.take i) (j : Int) := by
      funext j
      have tk : ties.take (i + 1) = ties.take i ++ [p] := by
        rw [List.take_add_one, hp]
        rfl
      rw [tk, raw_more]
      by_cases hj2 : j = p.2.toNat
      · subst hj2
        rw [if_pos rfl, if_neg (show ¬ p.2.toNat = p.1.toNat by omega)]
        have ej : ((p.2.toNat : Nat) : Int) = p.2 := by omega
        rw [ej, if_pos (by simp)]
        congr 1
        congr 1
        omega
      · rw [if_neg hj2]
        by_cases hj1 : j = p.1.toNat
        · subst hj1
          rw [if_pos rfl]
          have ej : ((p.1.toNat : Nat) : Int) = p.1 := by omega
          rw [ej, if_pos (by simp)]
          congr 1
          congr 1
          omega
        · rw [if_neg hj1, if_neg (by simp; omega), List.append_nil]
    rw [ef]
    exact R2
  · rintro σ' H' ⟨y3, y4, rfl, et, R⟩
    have etk : ties.take (ties.map eP).length = ties := by rw [List.length_map, List.take_length]
    rw [etk] at R
    -- return tuple([tuple(rooms) for rooms in near])
    refine s_retD (K := K) (d := nearD ms ties) (ed_tupOf (ds := (List.range ms.length).map fun i : Nat => D.tup ((rawNear ties (i : Int)).map .int)) ?_) fun v H3 e3 r3 => q v _ H3 (R.le.trans e3) rfl r3
    intro H3 e3 Q' q'
    have R3 := R.le2 e3
    refine ⟨_, rfl, L, rfl, ⟨_, SqL.of R3.top⟩, fun M hM => lc_it (walk_list (xs := as.map V.ref)) (fun i H' => H3 M = none ∧ Le H3 H' ∧ ∃ us, H' M = some (.lst us) ∧ Rps K H' us ((List.range i).map fun i : Nat => D.tup ((rawNear ties (i : Int)).map .int))) ⟨hM, Le.new hM, [], upd_same, .nil⟩ (fun i H' _ c => SqL.of (R3.le2 c.2.1).top) ?_ ?_⟩
    · rintro i x H4 _ hi ⟨_, e4, us, hus, rr⟩ ⟨rfl, hx⟩
      rw [List.length_map] at hi
      have ha : as[i]? = some as[i] := List.getElem?_eq_getElem hi
      rw [List.getElem?_map, ha] at hx
      have ex := Option.some.inj hx
      subst ex
      have hrow := (R3.le2 e4).row i _ ha
      have U : Uni ((List.range i).map fun i : Nat => D.tup ((rawNear ties (i : Int)).map .int)) := (enc_tup (f := fun i : Nat => (rawNear ties (i : Int)).map D.int) fun a => noL_ints _).un _
      have NL := (enc_tup (f := fun i : Nat => (rawNear ties (i : Int)).map D.int) fun a => noL_ints _).nl (List.range i)
      refine ⟨rfl, ?_⟩
      unfold tYes
      dsimp only
      rw [if_pos rfl]
      refine ⟨_, rfl, as[i], _, rfl, .inl ⟨SqL.of hrow, fun l hl2 => ?_⟩⟩
      have h5 := (Le.new (o := .tup ((rawNear ties (i : Int)).map V.int)) hl2).lst hus (U.notH rr)
      refine ⟨us, h5, ?_, hM, (e4.trans (Le.new hl2)).mut hM, us ++ [.ref l], upd_same, ?_⟩
      · rw [rr.len, List.length_map, List.length_range]
        exact Evl.sz_lt (by omega)
      · rw [List.range_succ, List.map_append]
        refine ((rr.le (Le.new hl2)).upd h5 NL).app (.cons ?_ .nil)
        exact Rp.upd h5 (.tup (noL_ints _)) (.tup (Evl.st_of upd_same) (rps_ints _))
    · rintro H4 ⟨_, e4, us, hus, rr⟩
      rw [List.length_map, hl] at rr
      have U : Uni ((List.range n).map fun i : Nat => D.tup ((rawNear ties (i : Int)).map .int)) := (enc_tup (f := fun i : Nat => (rawNear ties (i : Int)).map D.int) fun a => noL_ints _).un _
      exact q' _ (.lst ((List.range n).map fun i : Nat => D.tup ((rawNear ties (i : Int)).map .int))) H4 e4 (by rw [hn]) (.lst hus (U.notH rr) rr)
end
end W1

set_option maxRecDepth 100000
set_option maxHeartbeats 4000000
namespace W1
open PySem PyProof.Rows L2
local macro_rules | `(tactic| walk_at "rp") => `(tactic| first | assumption | exact Rp.int _ | exact Rp.bl _ | exact Rp.str _ | exact Rp.non | exact Rp.obj _ | (refine Rp.le (by assumption) ?_; walk_at "rp"))
local macro_rules | `(tactic| walk_at "ed") => `(tactic| first
  | exact ed_int | exact ed_str | exact ed_bl | exact ed_non
  | (refine ed_var rfl ?_; walk_at "rp")
  | (refine ed_ixT (ds := [_, _]) ?_ ed_int (by decide) rfl; walk_at "ed")
  | (refine ed_I0 ?_ ?_ <;> walk_at "ed")
  | (refine ed_B0 ?_ ?_ <;> walk_at "ed")
  | (refine ed_eqS ?_ ?_ rfl rfl rfl <;> walk_at "ed")
  | assumption)
local macro_rules | `(tactic| walk_at "ea") => `(tactic| first | exact ea_nil | (refine ea_cons ?_ ?_; walk_at "ed"; walk_at "ea"))

abbrev s_Web___init__ : Stmt := inClass (topS 14) 0
abbrev N_Web___init__ : List Str := ["self", "memories", "ties"]
theorem sc_Web___init__ : FnScope N_Web___init__ ["self", "memories", "ties"] (defScope s_Web___init__) := ⟨rfl, rfl, rfl, by decide +kernel, rfl, by decide +kernel, by decide +kernel⟩
abbrev s__law_made : Stmt := topS 47
abbrev N__law_made : List Str := ["_law_parts_here"]
theorem sc__law_made : FnScope N__law_made ["_law_parts_here"] (defScope s__law_made) := ⟨rfl, rfl, rfl, by decide +kernel, rfl, by decide +kernel, by decide +kernel⟩
abbrev s_is_room : Stmt := topS 19
abbrev N_is_room : List Str := ["web", "thing"]
theorem sc_is_room : FnScope N_is_room ["web", "thing"] (defScope s_is_room) := ⟨rfl, rfl, rfl, by decide +kernel, rfl, by decide +kernel, by decide +kernel⟩
abbrev s_check_room : Stmt := topS 20
abbrev N_check_room : List Str := ["web", "room"]
theorem sc_check_room : FnScope N_check_room ["web", "room"] (defScope s_check_room) := ⟨rfl, rfl, rfl, by decide +kernel, rfl, by decide +kernel, by decide +kernel⟩
abbrev s_tied : Stmt := topS 21
abbrev N_tied : List Str := ["web", "room"]
theorem sc_tied : FnScope N_tied ["web", "room"] (defScope s_tied) := ⟨rfl, rfl, rfl, by decide +kernel, rfl, by decide +kernel, by decide +kernel⟩
section
variable {K : PySem.W.Frag} {H H' : Hp}
/-- what no data names may change: an instance -/
theorem sqt_ins {a l C dx : Addr} {fs : List (Str × V)} {xs : List V} {o : HO} (hl : H l = some (.ins C dx fs)) (h : SqT K H a xs) : SqT K (upd H l o) a xs :=
  sqt_upd (fun ys e => by rw [hl] at e; cases e) (fun ob u e => by rw [hl] at e; cases e) h
mutual
theorem Rp.ins {l C dx : Addr} {fs : List (Str × V)} {o : HO} (hl : H l = some (.ins C dx fs)) {v : V} {d : D} : Rp K H v d → Rp K (L2.upd H l o) v d
  | .non => .non
  | .bl b => .bl b
  | .int i => .int i
  | .str x => .str x
  | .obj v => .obj v
  | .tup h r => .tup (sqt_ins hl h) (Rps.ins hl r)
  | .lst (a := a) h n r => .lst (by
      have ne : a ≠ l := fun e => by
        rw [e, hl] at h
        cases h
      rw [upd_ne ne]
      exact h) n (Rps.ins hl r)
theorem Rps.ins {l C dx : Addr} {fs : List (Str × V)} {o : HO} (hl : H l = some (.ins C dx fs)) {vs : List V} {ds : List D} : Rps K H vs ds → Rps K (L2.upd H l o) vs ds
  | .nil => .nil
  | .cons h r => .cons (Rp.ins hl h) (Rps.ins hl r)
end
end
structure WebAt (K : PySem.W.Frag) (C : Addr) (H : Hp) (a : Addr) (ms : List Int) (ties : List (Int × Int)) : Prop where
  ob : ∃ dx m t n, H a = some (.ins C dx (webFs m t n)) ∧ Rp K H m (.tup (ms.map .int)) ∧ Rp K H t (.tup (ties.map eP)) ∧ Rp K H n (nearD ms ties)
theorem WebAt.le {K : PySem.W.Frag} {C a : Addr} {H H' : Hp} {ms : List Int} {ties : List (Int × Int)} (e : Le H H') (x : WebAt K C H a ms ties) : WebAt K C H' a ms ties := by
  obtain ⟨dx, m, t, n, h, h1, h2, h3⟩ := x
  exact ⟨dx, m, t, n, e.ins h, h1.le e, h2.le e, h3.le e⟩
section
variable {K : PySem.W.Frag} {σ : L2.St} {H H' : Hp} {C a : Addr} {ms : List Int} {ties : List (Int × Int)} {te : TE}
theorem ed_mem (T : WTxt K C) (x : WebAt K C H a ms ties) (h : ED K te σ H (.obj (.ref a))) : ED K (tFld K te "memories") σ H (.tup (ms.map .int)) := fun H1 e Q q => h H1 e _ fun v d H2 e2 p r => by
  have p' : d = .obj (.ref a) := p
  subst p'
  have ev := rp_obj r
  subst ev
  obtain ⟨dx, m, t, n, h, h1, h2, h3⟩ := x.le (e.trans e2)
  exact ⟨a, C, dx, _, _, rfl, h, T.cl, T.nM, web_m m t n, q _ _ H2 e2 rfl h1⟩
theorem ed_near (T : WTxt K C) (x : WebAt K C H a ms ties) (h : ED K te σ H (.obj (.ref a))) : ED K (tFld K te "near") σ H (nearD ms ties) := fun H1 e Q q => h H1 e _ fun v d H2 e2 p r => by
  have p' : d = .obj (.ref a) := p
  subst p'
  have ev := rp_obj r
  subst ev
  obtain ⟨dx, m, t, n, h, h1, h2, h3⟩ := x.le (e.trans e2)
  exact ⟨a, C, dx, _, _, rfl, h, T.cl, T.nN, web_n m t n, q _ _ H2 e2 rfl h3⟩
def spWeb (K : PySem.W.Frag) (C : Addr) : Sp := fun vs H Q _ => ∃ a dx v1 v2 ms ties, vs = [.ref a, v1, v2] ∧ H a = some (.ins C dx []) ∧ Rp K H v1 (.tup (List.map D.int ms)) ∧ Rp K H v2 (.tup (List.map eP ties)) ∧ PartsOk ms ties ∧
  ∀ H', (∀ H0, Le H0 H → H0 a = none → Le H0 H') → WebAt K C H' a ms ties → Q .non H'
end
section
variable {P : Program} {w : World} {K : PySem.W.Frag} {mg : Str → Option Value} {base : Heap} {C : Addr}
theorem ok_web {f : Addr} {fd : FuncData} (T : GTxt mg) (W : WTxt K C) (F : Fun K "__init__" "Web.__init__" s_Web___init__ f fd) (Gcheck_memories : Def P w K mg base 3 "check_memories" ["memories"] (spD K R_cmem))
    (Gcheck_ties : Def P w K mg base 4 "check_ties" ["many", "ties"] (spD K R_cties)) (Gnear_lots : Def P w K mg base 1 "near_lots" ["many", "ties"] (spD K R_nlots)) : FnOk P w K mg base CX0 5 f fd ["self", "memories", "ties"] (spWeb K C) := by
  refine F.ok sc_Web___init__ (fun vs H Q E h => ?_) (fun cdv A outer s H vs Q E hr h => ?_)
  · obtain ⟨a, dx, v1, v2, ms, ties, rfl, _⟩ := h
    rfl
  obtain ⟨a, dx, v1, v2, ms, ties, rfl, ha, r1, r2, ok, q⟩ := h
  refine ⟨_, (pss_cons (ps_expr (pe_def Gcheck_memories (hr.mono (by decide)) (pa_cons (pv 1) pa_nil)))
    (pss_cons (ps_expr (pe_def Gcheck_ties (hr.mono (by decide)) (pa_cons (pe_callB (kc_len (K := K)) (by rfl) T.n_len boot_len (pa_cons (pv 1) pa_nil)) (pa_cons (pv 2) pa_nil))))
    (pss_cons (ps_fld (pv 0) (pv 1) rfl)
    (pss_cons (ps_fld (pv 0) (pv 2) rfl)
    (pss_one (ps_fld (pv 0) (pe_def Gnear_lots (hr.mono (by decide)) (pa_cons (pe_callB (kc_len (K := K)) (by rfl) T.n_len boot_len (pa_cons (pv 1) pa_nil)) (pa_cons (pv 2) pa_nil))) rfl)))))), ?_⟩
  have hlen : ∀ {H1 : Hp} {σ : L2.St}, Rp K H1 v1 (.tup (List.map D.int ms)) → σ[1]? = some (some v1) → ED K (tCB (fun xs H Q => ∃ p ys, xs = [.ref p] ∧ (SqL K H p ys ∨ SqT K H p ys) ∧ Q (.int ys.length) H) (tCons (tVar 1) tNil)) σ H1 (.int (ms.length : Int)) := fun r h0 => ed_eq (ed_lenT (ed_var h0 r)) (by rw [List.length_map])
  refine q_drop (K := K) (P := is .non) (ed_call (ea_cons (ed_var rfl r1) ea_nil) fun H1 _ => ⟨ms, rfl, ok.some, ok.few, ok.mem, rfl⟩) fun H1 e1 => ?_
  refine q_drop (K := K) (P := is .non) (ed_call (ea_cons (hlen (r1.le e1) rfl) (ea_cons (ed_var rfl (r2.le e1)) ea_nil)) fun H2 _ => ⟨ms, ties, rfl, ok, rfl⟩) fun H2 e2 => ?_
  have a2 := (e1.trans e2).ins ha
  refine ⟨_, rfl, _, rfl, a, C, dx, [], rfl, a2, W.cl, W.nM, (by show 0 < 1000; decide), ?_⟩
  refine ⟨_, rfl, _, rfl, a, C, dx, _, rfl, upd_same, W.cl, W.nT, (by show 1 < 1000; decide), ?_⟩
  have r1' := ((r1.le (e1.trans e2)).ins a2 (o := .ins C dx (putF "memories" v1 []))).ins upd_same (o := .ins C dx (putF "ties" v2 (putF "memories" v1 [])))
  have r2' := ((r2.le (e1.trans e2)).ins a2 (o := .ins C dx (putF "memories" v1 []))).ins upd_same (o := .ins C dx (putF "ties" v2 (putF "memories" v1 [])))
  refine ed_call (K := K) (P := is (nearD ms ties)) (ea_cons (hlen r1' rfl) (ea_cons (ed_var rfl r2') ea_nil)) (fun H3 _ => ⟨ms, ties, rfl, ok, rfl⟩) _ (Le.refl _) _ fun v d H3 e3 p r3 => ?_
  have p' : d = nearD ms ties := p
  subst p'
  have a3 := e3.ins upd_same
  refine ⟨_, rfl, a, C, dx, _, rfl, a3, W.cl, W.nN, ?_, ?_⟩
  · show (putF "ties" v2 (putF "memories" v1 [])).length < 1000
    show ((if ("memories" : Str) = "ties" then [(("memories" : Str), v2)] else (("memories" : Str), v1) :: putF "ties" v2 []) : List (Str × V)).length < 1000
    rw [if_neg mt_]
    show 2 < 1000
    decide
  · refine q _ (fun H0 e0 h0 => ?_) ⟨dx, v1, v2, v, upd_same, (r1'.le e3).ins a3, (r2'.le e3).ins a3, r3.ins a3⟩
    exact ((((e0.trans (e1.trans e2)).mut h0).mut h0).trans e3).mut h0
structure WMk (P : Program) (w : World) (K : PySem.W.Frag) (mg : Str → Option Value) (base : Heap) (C : Addr) : Prop where
  mgC : mg "Web" = some (.ref C)
  ex : ∃ f fd, Mk K C f ∧ FnOk P w K mg base CX0 5 f fd ["self", "memories", "ties"] (spWeb K C) ∧ Binds K fd ["self", "memories", "ties"] []
def R_made (K : PySem.W.Frag) (C : Addr) : List D → Hp → Pd → Prop := fun ds _ P => ∃ ms ties, ds = [eW ms ties] ∧ PartsOk ms ties ∧ P = fun d H => ∃ a, d = .obj (.ref a) ∧ WebAt K C H a ms ties
theorem ok_made (M : WMk P w K mg base C) (g : GDef K mg "_law_made" s__law_made ["_law_parts_here"]) : Def P w K mg base 7 "_law_made" ["_law_parts_here"] (spD K (R_made K C)) := by
  refine defD g sc__law_made (fun ds H Pd h => ?_) fun cdv A outer s f H vs ds Pd Q E hr r h q => ?_
  · obtain ⟨ms, ties, rfl, _⟩ := h
    rfl
  obtain ⟨ms, ties, rfl, ok, rfl⟩ := h
  obtain ⟨v1, rfl, r1⟩ := rps1 r
  obtain ⟨fi, fdi, mk, F, hb⟩ := M.ex
  refine ⟨_, pss_one (ps_ret (pe_make mk F hr (by rfl) M.mgC hb .nil pass0 (pa_cons (pe_ix (kix_tup (K := K)) (pv 0) pe_int (fun _ _ => rfl)) (pa_cons (pe_ix (kix_tup (K := K)) (pv 0) pe_int (fun _ _ => rfl)) pa_nil)))), ?_⟩
  have hA : EDA K (tCons (tOp (rIxT K) (tVar 0) (tC (.int 0))) (tCons (tOp (rIxT K) (tVar 0) (tC (.int 1))) tNil)) (L2.start N__law_made [v1]) H [.tup (ms.map .int), .tup (ties.map eP)] := ea_cons (ed_ixT (ds := [_, _]) (ed_var rfl r1) ed_int (by decide) rfl) (ea_cons (ed_ixT (ds := [_, _]) (ed_var rfl r1) ed_int (by decide) rfl) ea_nil)
  unfold tRet tMake
  refine hA H (Le.refl _) _ fun vs es H1 e1 p rr => ?_
  have p' : es = [.tup (ms.map .int), .tup (ties.map eP)] := p
  subst p'
  obtain ⟨w1, w2, rfl, q1, q2⟩ := rps2 rr
  intro x dx hx hdx hne
  have l1 : Le H1 (upd (upd H1 dx (.own x)) x (.ins C dx [])) := (Le.new hdx).mut hx
  refine ⟨x, dx, w1, w2, ms, ties, rfl, upd_same, q1.le l1, q2.le l1, ok, fun H2 k W => ⟨rfl, ?_⟩⟩
  exact q _ (.obj (.ref x)) H2 (e1.trans (k _ l1 hx)) ⟨x, rfl, W⟩ (.obj _)
def R_isroom (K : PySem.W.Frag) (C : Addr) : List D → Hp → Pd → Prop := fun ds H P => ∃ a ms ties d, ds = [.obj (.ref a), d] ∧ WebAt K C H a ms ties ∧ Tk H d ∧ P = is (.bl (btw 0 ((ms.length : Int) - 1) d))
theorem ok_isroom (T : GTxt mg) (W : WTxt K C) (g : GDef K mg "is_room" s_is_room ["web", "thing"]) (Gis_between : Def P w K mg base 2 "is_between" ["least", "most", "thing"] (spD K R_btw)) : Def P w K mg base 3 "is_room" ["web", "thing"] (spD K (R_isroom K C)) := by
  refine defD g sc_is_room (fun ds H Pd h => ?_) fun cdv A outer s f H vs ds Pd Q E hr r h q => ?_
  · obtain ⟨a, ms, ties, d, rfl, _⟩ := h
    rfl
  obtain ⟨a, ms, ties, d, rfl, x, hk, rfl⟩ := h
  obtain ⟨v1, v2, rfl, r1, r2⟩ := rps2 r
  refine ⟨_, (pss_one (ps_ret (pe_def Gis_between (hr.mono (by decide)) (pa_cons pe_int (pa_cons (pe_op op_sub (pe_callB (kc_len (K := K)) (by rfl) T.n_len boot_len (pa_cons (kpe_fld (K := K) (pv 0) rfl) pa_nil)) pe_int) (pa_cons (pv 1) pa_nil)))))), ?_⟩
  refine s_retD (ed_eq (ed_btwK ed_int (ed_I0 (f := fun i j => i - j) (ed_lenT (ed_mem W x (ed_var rfl r1))) ed_int) (ed_var rfl r2) hk) ?_) fun v H1 e1 r => q v _ H1 e1 rfl r
  rw [List.length_map]
theorem btw_room {n r : Int} (h0 : 0 ≤ r) (h1 : r < n) : btw 0 (n - 1) (.int r) = true := by
  show (decide _ && decide _) = true
  rw [decide_eq_true h0, decide_eq_true (by omega)]
  rfl
def R_chroom (K : PySem.W.Frag) (C : Addr) : List D → Hp → Pd → Prop := fun ds H P => ∃ a ms ties r, ds = [.obj (.ref a), .int r] ∧ WebAt K C H a ms ties ∧ 0 ≤ r ∧ r < ms.length ∧ P = is .non
theorem ok_chroom (g : GDef K mg "check_room" s_check_room ["web", "room"]) (Gis_room : Def P w K mg base 3 "is_room" ["web", "thing"] (spD K (R_isroom K C))) : Def P w K mg base 4 "check_room" ["web", "room"] (spD K (R_chroom K C)) := by
  refine defD g sc_check_room (fun ds H Pd h => ?_) fun cdv A outer s f H vs ds Pd Q E hr r h q => ?_
  · obtain ⟨a, ms, ties, r, rfl, _⟩ := h
    rfl
  obtain ⟨a, ms, ties, rm, rfl, x, h0, h1, rfl⟩ := h
  obtain ⟨v1, v2, rfl, r1, r2⟩ := rps2 r
  refine ⟨_, (pss_one (ps_if (pt_not (pt_val (pe_def Gis_room (hr.mono (by decide)) (pa_cons (pv 0) (pa_cons (pv 1) pa_nil)))))
      (pss_one ps_never)
      pss_nil)), ?_⟩
  exact s_no (eb_not (et_B (K := K) (b := true) (ed_call (ea_cons (ed_var rfl r1) (ea_cons (ed_var rfl r2) ea_nil)) fun H1 e1 => ⟨a, ms, ties, .int rm, rfl, x.le e1, .inl rfl, by rw [btw_room h0 h1]⟩))) rfl fun H1 e1 => q _ .non H1 e1 rfl .non
def R_tied (K : PySem.W.Frag) (C : Addr) : List D → Hp → Pd → Prop := fun ds H P => ∃ a ms ties r, ds = [.obj (.ref a), .int r] ∧ WebAt K C H a ms ties ∧ 0 ≤ r ∧ r < ms.length ∧ P = is (.tup ((rawNear ties r).map .int))
theorem ok_tied (W : WTxt K C) (g : GDef K mg "tied" s_tied ["web", "room"]) (Gcheck_room : Def P w K mg base 4 "check_room" ["web", "room"] (spD K (R_chroom K C))) : Def P w K mg base 5 "tied" ["web", "room"] (spD K (R_tied K C)) := by
  refine defD g sc_tied (fun ds H Pd h => ?_) fun cdv A outer s f H vs ds Pd Q E hr r h q => ?_
  · obtain ⟨a, ms, ties, r, rfl, _⟩ := h
    rfl
  obtain ⟨a, ms, ties, rm, rfl, x, h0, h1, rfl⟩ := h
  obtain ⟨v1, v2, rfl, r1, r2⟩ := rps2 r
  refine ⟨_, (pss_cons (ps_expr (pe_def Gcheck_room (hr.mono (by decide)) (pa_cons (pv 0) (pa_cons (pv 1) pa_nil))))
    (pss_one (ps_ret (pe_ix (kix_tup (K := K)) (kpe_fld (K := K) (pv 0) rfl) (pv 1) (fun _ _ => rfl))))), ?_⟩
  refine q_drop (K := K) (P := is .non) (ed_call (ea_cons (ed_var rfl r1) (ea_cons (ed_var rfl r2) ea_nil)) fun H1 e1 => ⟨a, ms, ties, rm, rfl, x.le e1, h0, h1, rfl⟩) fun H1 e1 => ?_
  refine s_retD (d := .tup ((rawNear ties rm).map .int)) (ed_ixT (K := K) (ed_near W (x.le e1) (ed_var rfl (r1.le e1))) (ed_var rfl (r2.le e1)) h0 ?_) fun v H2 e2 r => q v _ H2 (e1.trans e2) rfl r
  rw [List.getElem?_map, List.getElem?_range (by omega)]
  have er : ((rm.toNat : Nat) : Int) = rm := by omega
  show some (D.tup ((rawNear ties ((rm.toNat : Nat) : Int)).map .int)) = _
  rw [er]
end
end W1

set_option maxRecDepth 100000
set_option maxHeartbeats 4000000
namespace W1
open PySem PyProof.Rows L2
local macro_rules | `(tactic| walk_at "rp") => `(tactic| first | assumption | exact Rp.int _ | exact Rp.bl _ | exact Rp.str _ | exact Rp.non | exact Rp.obj _ | (refine Rp.le (by assumption) ?_; walk_at "rp"))
local macro_rules | `(tactic| walk_at "ed") => `(tactic| first
  | exact ed_int | exact ed_str | exact ed_bl | exact ed_non
  | (refine ed_var rfl ?_; walk_at "rp")
  | (refine ed_ixT (ds := [_, _]) ?_ ed_int (by decide) rfl; walk_at "ed")
  | (refine ed_I0 ?_ ?_ <;> walk_at "ed")
  | (refine ed_B0 ?_ ?_ <;> walk_at "ed")
  | (refine ed_eqS ?_ ?_ rfl rfl rfl <;> walk_at "ed")
  | assumption)
local macro_rules | `(tactic| walk_at "ea") => `(tactic| first | exact ea_nil | (refine ea_cons ?_ ?_; walk_at "ed"; walk_at "ea"))

abbrev s_begun : Stmt := topS 23
abbrev N_begun : List Str := ["web"]
theorem sc_begun : FnScope N_begun ["web"] (defScope s_begun) := ⟨rfl, rfl, rfl, by decide +kernel, rfl, by decide +kernel, by decide +kernel⟩
abbrev s_with_deed : Stmt := topS 25
abbrev N_with_deed : List Str := ["web", "standing", "deed", "room", "tags"]
theorem sc_with_deed : FnScope N_with_deed ["web", "standing", "deed"] (defScope s_with_deed) := ⟨rfl, rfl, rfl, by decide +kernel, rfl, by decide +kernel, by decide +kernel⟩
abbrev s_kept_tags : Stmt := topS 26
abbrev N_kept_tags : List Str := ["web", "room"]
theorem sc_kept_tags : FnScope N_kept_tags ["web", "room"] (defScope s_kept_tags) := ⟨rfl, rfl, rfl, by decide +kernel, rfl, by decide +kernel, by decide +kernel⟩
abbrev s_newest : Stmt := topS 28
abbrev N_newest : List Str := ["tags", "many"]
theorem sc_newest : FnScope N_newest ["tags", "many"] (defScope s_newest) := ⟨rfl, rfl, rfl, by decide +kernel, rfl, by decide +kernel, by decide +kernel⟩
abbrev s_barred : Stmt := topS 29
abbrev N_barred : List Str := ["web", "standing", "room", "shown", "own", "other"]
theorem sc_barred : FnScope N_barred ["web", "standing", "room"] (defScope s_barred) := ⟨rfl, rfl, rfl, by decide +kernel, rfl, by decide +kernel, by decide +kernel⟩
abbrev s_gives_barred : Stmt := topS 30
abbrev N_gives_barred : List Str := ["web", "standing", "deed"]
theorem sc_gives_barred : FnScope N_gives_barred ["web", "standing", "deed"] (defScope s_gives_barred) := ⟨rfl, rfl, rfl, by decide +kernel, rfl, by decide +kernel, by decide +kernel⟩
/-! ### standings -/
abbrev eT (st : St1) : D := .tup (st.map eR)
def keptN (ms : List Int) (r : Int) : Nat := (if (ms[r.toNat]?).getD 0 > 1 then (ms[r.toNat]?).getD 0 else 1).toNat
def wdL (ms : List Int) (st : St1) : Deed → St1
  | .give r t => st.set r.toNat (true, (t :: (stAt st r).2).take (keptN ms r))
  | .back r => st.set r.toNat (false, (stAt st r).2)
theorem wdL_len (ms : List Int) (st : St1) (dd : Deed) : (wdL ms st dd).length = st.length := by
  cases dd <;> simp [wdL]
theorem kept_pos (ms : List Int) (r : Int) : 1 ≤ keptN ms r := by
  unfold keptN
  split <;> omega
def barsL (ms : List Int) (ties : List (Int × Int)) (st : St1) (r : Int) : List Int := ownL ms st r ++ (rawNear ties r).flatMap fun o => shownL (stAt st o)
theorem Bars.in {ms : List Int} {ties : List (Int × Int)} {st : St1} {r : Int} {ns : List Int} (b : Bars ms ties st r ns) (k : Int) : k ∈ ns ↔ k ∈ barsL ms ties st r := by
  rw [b.mem k]
  unfold barsL
  rw [List.mem_append, List.mem_flatMap]
def isG : Deed → Bool
  | .give _ _ => true
  | .back _ => false
theorem vs_gg : decide (vOf (.str "give") = vOf (.str "give")) = true := by decide +kernel
theorem vs_bg : decide (vOf (.str "back") = vOf (.str "give")) = false := by decide +kernel
def ntL (ms : List Int) (st : St1) : Deed → List Int
  | .give r t => (t :: (stAt st r).2).take (keptN ms r)
  | .back r => (stAt st r).2
theorem wdL_eq (ms : List Int) (st : St1) (dd : Deed) : wdL ms st dd = st.set dd.room.toNat (isG dd, ntL ms st dd) := by cases dd <;> rfl
theorem set_cut {α : Type} {l : List α} {i : Nat} {a : α} (h : i < l.length) : l.set i a = l.take i ++ [a] ++ l.drop (i + 1) := by
  rw [List.set_eq_take_append_cons_drop, if_pos h, List.append_assoc]
  rfl
def bad (ms : List Int) (ties : List (Int × Int)) (st : St1) : Deed → Bool
  | .give r t => decide (t ∈ barsL ms ties st r)
  | .back _ => false
section
variable {P : Program} {w : World} {K : PySem.W.Frag} {mg : Str → Option Value} {base : Heap} {C : Addr}
def R_begun (K : PySem.W.Frag) (C : Addr) : List D → Hp → Pd → Prop := fun ds H P => ∃ a ms ties, ds = [.obj (.ref a)] ∧ WebAt K C H a ms ties ∧ 1 ≤ ms.length ∧ ms.length ≤ 60 ∧ P = is (eT (List.replicate ms.length (false, [])))
theorem ok_begun (T : GTxt mg) (W : WTxt K C) (g : GDef K mg "begun" s_begun ["web"]) : Def P w K mg base 1 "begun" ["web"] (spD K (R_begun K C)) := by
  refine defD g sc_begun (fun ds H Pd h => ?_) fun cdv A outer s f H vs ds Pd Q E hr r h q => ?_
  · obtain ⟨a, ms, ties, rfl, _⟩ := h
    rfl
  obtain ⟨a, ms, ties, rfl, x, h1, h2, rfl⟩ := h
  obtain ⟨v1, rfl, r1⟩ := rps1 r
  refine ⟨_, (pss_one (ps_ret (pe_op (kop_rep1 (K := K)) (pe_tup (pa_cons (pe_tup (pa_cons pe_bl (pa_cons (pe_tup pa_nil) pa_nil))) pa_nil)) (pe_callB (kc_len (K := K)) (by rfl) T.n_len boot_len (pa_cons (kpe_fld (K := K) (pv 0) rfl) pa_nil))))), ?_⟩
  have eq : (List.replicate ((ms.map D.int).length : Int).toNat [eR (false, [])]).flatten = (List.replicate ms.length (false, [])).map eR := by
    rw [rep_flat, Int.toNat_natCast, List.length_map, List.map_replicate]
  refine s_retD (ed_eq (ed_rep1 (K := K) (ds := [eR (false, [])]) (k := ((ms.map D.int).length : Int)) ?_ (ed_lenT (ed_mem W x (ed_var rfl r1))) (by simp) ?_ (by show 1 ≤ 1000; decide)) (congrArg D.tup eq)) fun v H1 e1 r => q v _ H1 e1 rfl r
  · exact ed_tup (ea_cons (ed_tup (ea_cons ed_bl (ea_cons (ed_tup ea_nil (by decide)) ea_nil)) (by show 2 ≤ 100000; decide)) ea_nil) (by show 1 ≤ 100000; decide)
  · rw [List.length_map]
    omega
def R_kept (K : PySem.W.Frag) (C : Addr) : List D → Hp → Pd → Prop := fun ds H P => ∃ a ms ties r, ds = [.obj (.ref a), .int r] ∧ WebAt K C H a ms ties ∧ 0 ≤ r ∧ r < ms.length ∧ P = is (.int (keptN ms r : Int))
theorem ok_kept (T : GTxt mg) (W : WTxt K C) (g : GDef K mg "kept_tags" s_kept_tags ["web", "room"]) : Def P w K mg base 1 "kept_tags" ["web", "room"] (spD K (R_kept K C)) := by
  refine defD g sc_kept_tags (fun ds H Pd h => ?_) fun cdv A outer s f H vs ds Pd Q E hr r h q => ?_
  · obtain ⟨a, ms, ties, r, rfl, _⟩ := h
    rfl
  obtain ⟨a, ms, ties, rm, rfl, x, h0, h1, rfl⟩ := h
  obtain ⟨v1, v2, rfl, r1, r2⟩ := rps2 r
  refine ⟨_, (pss_one (ps_ret (pe_callB (call_max2 rfl) (by rfl) T.n_max boot_max (pa_cons pe_int (pa_cons (pe_ix (kix_tup (K := K)) (kpe_fld (K := K) (pv 0) rfl) (pv 1) (fun _ _ => rfl)) pa_nil))))), ?_⟩
  have hm : ms[rm.toNat]? = some ((ms[rm.toNat]?).getD 0) := by
    rw [List.getElem?_eq_getElem (by omega)]
    rfl
  refine s_retD (ed_eq (ed_max2 (K := K) ed_int (ed_ixT (ed_mem W x (ed_var rfl r1)) (ed_var rfl r2) h0 (map_get hm))) ?_) fun v H1 e1 r => q v _ H1 e1 rfl r
  unfold keptN
  congr 1
  split <;> omega
def R_wd (K : PySem.W.Frag) (C : Addr) : List D → Hp → Pd → Prop := fun ds H P => ∃ a ms ties st dd, ds = [.obj (.ref a), eT st, eD dd] ∧ WebAt K C H a ms ties ∧ StOk st ∧ st.length = ms.length ∧ 0 ≤ dd.room ∧ dd.room < ms.length ∧ P = is (eT (wdL ms st dd))
theorem ok_wd (T : GTxt mg) (W : WTxt K C) (g : GDef K mg "with_deed" s_with_deed ["web", "standing", "deed"]) (Gkept_tags : Def P w K mg base 1 "kept_tags" ["web", "room"] (spD K (R_kept K C))) : Def P w K mg base 2 "with_deed" ["web", "standing", "deed"] (spD K (R_wd K C)) := by
  refine defD g sc_with_deed (fun ds H Pd h => ?_) fun cdv A outer s f H vs ds Pd Q E hr r h q => ?_
  · obtain ⟨a, ms, ties, st, dd, rfl, _⟩ := h
    rfl
  obtain ⟨a, ms, ties, st, dd, rfl, x, sok, hl, h0, h1, rfl⟩ := h
  obtain ⟨v1, v2, v3, rfl, r1, r2, r3⟩ := rps3 r
  refine ⟨_, (pss_cons (ps_set (i := 3) sc_with_deed.nd rfl (Or.inl rfl) (pe_ix (kix_tup (K := K)) (pv 2) pe_int (fun _ _ => rfl)))
    (pss_cons (ps_set (i := 4) sc_with_deed.nd rfl (Or.inl rfl) (pe_ix (kix_tup (K := K)) (pe_ix (kix_tup (K := K)) (pv 1) (pv 3) (fun _ _ => rfl)) pe_int (fun _ _ => rfl)))
    (Evl.pss_cut (ps_if (pt_cmpR op_eq (pe_ix (kix_tup (K := K)) (pv 2) pe_int (fun _ _ => rfl)) pe_str (nomark _))
      (pss_one (ps_set (i := 4) sc_with_deed.nd rfl (Or.inl rfl) (pe_slice (ksl_tup (K := K)) (pe_op (kop_catA (K := K)) (pe_tup (pa_cons (pe_ix (kix_tup (K := K)) (pv 2) pe_int (fun _ _ => rfl)) pa_nil)) (pv 4)) po_none (po_some (pe_def Gkept_tags (hr.mono (by decide)) (pa_cons (pv 0) (pa_cons (pv 3) pa_nil)))))))
      pss_nil)
    (pss_one (ps_ret (pe_op (kop_catA (K := K)) (pe_op (kop_catA (K := K)) (pe_slice (ksl_tup (K := K)) (pv 1) po_none (po_some (pv 3))) (pe_tup (pa_cons (pe_tup (pa_cons (pe_cmpR op_eq (pe_ix (kix_tup (K := K)) (pv 2) pe_int (fun _ _ => rfl)) pe_str (nomark _)) (pa_cons (pv 4) pa_nil))) pa_nil))) (pe_slice (ksl_tup (K := K)) (pv 1) (po_some (pe_op op_add (pv 3) pe_int)) po_none))))))), ?_⟩
  have hroom : ∀ {H1 : Hp} {σ : L2.St}, Le H H1 → σ[2]? = some (some v3) → ED K (tOp (rIxT K) (tVar 2) (tC (.int 1))) σ H1 (.int dd.room) := by
    intro H1 σ e hs
    cases dd with
    | give r t => exact ed_ixT (ds := [_, _, _]) (ed_var hs (r3.le e)) ed_int (by decide) rfl
    | back r => exact ed_ixT (ds := [_, _]) (ed_var hs (r3.le e)) ed_int (by decide) rfl
  have hg := st_get h0 (show dd.room < st.length by omega)
  have hgive : ∀ {H1 : Hp} {σ : L2.St}, Le H H1 → σ[2]? = some (some v3) → ED K (tOp rEq (tOp (rIxT K) (tVar 2) (tC (.int 0))) (tC (.str "give"))) σ H1 (.bl (isG dd)) := by
    intro H1 σ e hs
    cases dd with
    | give r t => exact ed_eq (ed_eqS (d1 := .str "give") (d2 := .str "give") (ed_ixT (ds := [_, _, _]) (ed_var hs (r3.le e)) ed_int (by decide) rfl) ed_str rfl rfl rfl) (congrArg D.bl vs_gg)
    | back r => exact ed_eq (ed_eqS (d1 := .str "back") (d2 := .str "give") (ed_ixT (ds := [_, _]) (ed_var hs (r3.le e)) ed_int (by decide) rfl) ed_str rfl rfl rfl) (congrArg D.bl vs_bg)
  -- room = deed[1]
  refine q_asgD (K := K) (hroom (Le.refl _) rfl) fun v4 H1 e1 r4 => ?_
  -- tags = standing[room][1]
  refine q_asgD (K := K) (d := .tup ((stAt st dd.room).2.map .int)) (ed_ixT (ds := [_, _]) (ed_ixT (d := eR (stAt st dd.room)) (ed_var rfl (r2.le e1)) (ed_var rfl r4) h0 (map_get hg)) ed_int (by decide) rfl) fun v5 H2 e2 r5 => ?_
  refine q_cut (M := fun σ H' => ∃ v5, σ = [some v1, some v2, some v3, some v4, some v5] ∧ Le H2 H' ∧ Rp K H' v5 (.tup ((ntL ms st dd).map .int))) ?_ ?_
  · refine s_ifB (et_test (K := K) (hgive (σ := [some v1, some v2, some v3, some v4, some v5]) (e1.trans e2) rfl)) (fun hb H3 e3 => ?_) (fun hb H3 e3 => ?_)
    · cases dd with
      | back r => cases hb
      | give rm t =>
        have e03 := (e1.trans e2).trans e3
        have tl := sok.tags _ (st_mem h0 (show (Deed.give rm t).room < st.length by omega))
        refine s_asgD (K := K) (d := .tup ((ntL ms st (.give rm t)).map .int)) (ed_eq (ed_slT (lo := none) (hi := some ((keptN ms rm : Nat) : Int)) (ed_catA (ds := [.int t]) (es := (stAt st rm).2.map D.int) (ed_tup (ea_cons (ed_ixT (ds := [_, _, _]) (ed_var rfl (r3.le e03)) ed_int (by decide) rfl) ea_nil) (by show 1 ≤ 100000; decide)) (ed_var rfl (r5.le e3)) ?_) eo_none (eo_some (ed_call (ea_cons (ed_var rfl (r1.le e03)) (ea_cons (ed_var rfl (r4.le (e2.trans e3))) ea_nil)) fun H4 e4 => ⟨a, ms, ties, rm, rfl, x.le (e03.trans e4), h0, h1, rfl⟩))) ?_) fun v H4 e4 r => ⟨v, rfl, e3.trans e4, r⟩
        · rw [List.length_map]
          have e5 : (Deed.give rm t).room = rm := rfl
          rw [e5] at tl
          show 1 + _ ≤ 100000
          omega
        · rw [cutG_hi _ _ (by omega), Int.toNat_natCast]
          show D.tup (((t :: (stAt st rm).2).map D.int).take _) = _
          rw [← List.map_take]
          rfl
    · cases dd with
      | give rm t => cases hb
      | back rm => exact ⟨v5, rfl, e3, r5.le e3⟩
  rintro σ H3 ⟨v5, rfl, e3, r5⟩
  have e03 := (e1.trans e2).trans e3
  have hlt : dd.room.toNat < st.length := by omega
  refine s_retD (K := K) (d := eT (wdL ms st dd)) (ed_eq (ed_catA (ds := (st.map eR).take dd.room.toNat ++ [eR (isG dd, ntL ms st dd)]) (es := (st.map eR).drop (dd.room.toNat + 1)) (ed_catA (ds := (st.map eR).take dd.room.toNat) (es := [eR (isG dd, ntL ms st dd)]) (ed_eq (ed_slT (lo := none) (hi := some dd.room) (ed_var rfl (r2.le e03)) eo_none (eo_some (ed_var rfl (r4.le (e2.trans e3))))) ?_)
    (ed_tup (ea_cons (ed_tup (ea_cons (hgive e03 rfl) (ea_cons (ed_var rfl r5) ea_nil)) (by show 2 ≤ 100000; decide)) ea_nil) (by show 1 ≤ 100000; decide)) ?_)
    (ed_eq (ed_slT (lo := some (dd.room + 1)) (hi := none) (ed_var rfl (r2.le e03)) (eo_some (ed_I0 (f := fun i j => i + j) (ed_var rfl (r4.le (e2.trans e3))) ed_int)) eo_none) ?_) ?_) ?_) fun v H4 e4 r => q v _ H4 (e03.trans e4) rfl r
  · rw [cutG_hi _ _ h0]
  · have := sok.few
    have := List.length_take_le dd.room.toNat (st.map eR)
    rw [List.length_take, List.length_map]
    show _ + 1 ≤ 100000
    omega
  · have e7 : (dd.room + 1).toNat = dd.room.toNat + 1 := by omega
    rw [cutG_lo _ _ (by omega), e7]
  · have := sok.few
    rw [List.length_append, List.length_take, List.length_drop, List.length_map]
    show _ + 1 + _ ≤ 100000
    omega
  · rw [wdL_eq, set_cut hlt]
    show D.tup _ = D.tup _
    rw [List.map_append, List.map_append, List.map_take, List.map_drop]
    rfl
/-! ### newest -/
theorem cutG_neg {α : Type} (xs : List α) (k : Nat) (h : 1 ≤ k) : cutG xs (some (-(k : Int))) none = xs.drop (xs.length - k) := by
  have e1 : HT.sIx xs.length 0 (some (-(k : Int))) = xs.length - k := by
    show (if (-(k : Int)) < 0 then ((-(k : Int)) + (xs.length : Int)).toNat else min (-(k : Int)).toNat xs.length) = xs.length - k
    rw [if_pos (by omega)]
    omega
  have e2 : HT.sIx xs.length xs.length none = xs.length := rfl
  unfold cutG
  rw [e1, e2]
  exact List.take_of_length_le (by rw [List.length_drop]; omega)
def R_newest : List D → Hp → Pd → Prop := fun ds _ P => ∃ (ns : List Int) (k : Nat), ds = [.lst (ns.map .int), .int (k : Int)] ∧ 1 ≤ k ∧ P = is (.tup ((ns.reverse.take k).map .int))
theorem ok_newest (T : GTxt mg) (g : GDef K mg "newest" s_newest ["tags", "many"]) : Def P w K mg base 1 "newest" ["tags", "many"] (spD K R_newest) := by
  refine defD g sc_newest (fun ds H Pd h => ?_) fun cdv A outer s f H vs ds Pd Q E hr r h q => ?_
  · obtain ⟨ns, k, rfl, _⟩ := h
    rfl
  obtain ⟨ns, k, rfl, hk, rfl⟩ := h
  obtain ⟨v1, v2, rfl, r1, r2⟩ := rps2 r
  refine ⟨_, (pss_one (ps_ret (pe_callTy (kc_tuple (K := K)) (by rfl) T.n_tuple boot_tuple (pa_cons (kpe_revL (K := K) (pe_slice (ksl_list (K := K)) (pv 0) (po_some (pe_un un_neg (pv 1))) po_none)) pa_nil)))), ?_⟩
  have eq : cutG (ns.map D.int) (some (-(k : Int))) none = (ns.drop (ns.length - k)).map D.int := by
    rw [cutG_neg _ _ hk, List.length_map, List.map_drop]
  have er : ((ns.drop (ns.length - k)).map D.int).reverse = (ns.reverse.take k).map D.int := by
    rw [← List.map_reverse, List.take_reverse]
  refine s_retD (K := K) (d := .tup ((ns.reverse.take k).map .int)) (ed_tupOf (ed_eq (ed_revL (ed_eq (ed_slL (ed_var rfl r1) (eo_some (ed_neg (ed_var rfl r2))) eo_none ?_) (congrArg D.lst eq)) ?_) (congrArg D.lst er))) fun v H1 e1 r => q v _ H1 e1 rfl r
  · rw [eq]
    exact enc_int.un _
  · rw [er]
    exact enc_int.un _
/-! ### barred -/
theorem mem_shown {st : St1} {l : List Int} {k : Int} (hs : ∀ o ∈ l, (stAt st o).1 = true → (stAt st o).2 ≠ []) : k ∈ (l.filter fun o => (stAt st o).1).map (fun o => ((stAt st o).2).headD 0) ↔ ∃ o ∈ l, k ∈ shownL (stAt st o) := by
  constructor
  · intro h
    obtain ⟨o, ho, rfl⟩ := List.mem_map.mp h
    obtain ⟨h1, h2⟩ := List.mem_filter.mp ho
    refine ⟨o, h1, ?_⟩
    unfold shownL
    rw [if_pos h2]
    have := hs o h1 h2
    cases hh : (stAt st o).2 with
    | nil => exact absurd hh this
    | cons t ts => simp
  · rintro ⟨o, ho, hk⟩
    unfold shownL at hk
    by_cases h2 : (stAt st o).1 = true
    · rw [if_pos h2] at hk
      refine List.mem_map.mpr ⟨o, List.mem_filter.mpr ⟨ho, h2⟩, ?_⟩
      cases hh : (stAt st o).2 with
      | nil =>
        rw [hh] at hk
        cases hk
      | cons t ts =>
        rw [hh] at hk
        simp at hk
        simp [hk]
    · rw [if_neg h2] at hk
      cases hk
def R_barred (K : PySem.W.Frag) (C : Addr) : List D → Hp → Pd → Prop := fun ds H P => ∃ a ms ties st r, ds = [.obj (.ref a), eT st, .int r] ∧ WebAt K C H a ms ties ∧ PartsOk ms ties ∧ ms.length ≤ 8 ∧ StOk st ∧ st.length = ms.length ∧ 0 ≤ r ∧ r < ms.length ∧
  P = fun d _ => ∃ ns : List Int, d = .tup (ns.map .int) ∧ ns.Pairwise (· < ·) ∧ ∀ k, k ∈ ns ↔ k ∈ barsL ms ties st r
theorem ok_barred (T : GTxt mg) (W : WTxt K C) (g : GDef K mg "barred" s_barred ["web", "standing", "room"]) (Gtied : Def P w K mg base 5 "tied" ["web", "room"] (spD K (R_tied K C))) : Def P w K mg base 6 "barred" ["web", "standing", "room"] (spD K (R_barred K C)) := by
  refine defD g sc_barred (fun ds H Pd h => ?_) fun cdv A outer s f H vs ds Pd Q E hr r h q => ?_
  · obtain ⟨a, ms, ties, st, r, rfl, _⟩ := h
    rfl
  obtain ⟨a, ms, ties, st, rm, rfl, x, ok, h8, sok, hl, h0, h1, rfl⟩ := h
  obtain ⟨v1, v2, v3, rfl, r1, r2, r3⟩ := rps3 r
  refine ⟨_, (pss_cons (ps_setLc (i := 3) (own := [("other", 5)]) rfl sc_barred.nd rfl rfl (sw_true rfl rfl rfl (by decide +kernel)) (kpi_tup (K := K) (pe_def Gtied (hr.mono (by decide)) (pa_cons (pv 0) (pa_cons (pv 2) pa_nil)))) (blkOk_by (N := N_barred) (sc := defScope s_barred) (by decide +kernel)) (fun _ _ _ _ _ => (pg_name (i := 5) sc_barred.nd rfl (Or.inl rfl))) (fun _ _ _ _ _ => (pts_one (pt_val (pe_ix (kix_tup (K := K)) (pe_ix (kix_tup (K := K)) (pv 1) (pv 5) (fun _ _ => rfl)) pe_int (fun _ _ => rfl))))) (fun _ _ _ _ _ => (pe_ix (kix_tup (K := K)) (pe_ix (kix_tup (K := K)) (pe_ix (kix_tup (K := K)) (pv 1) (pv 5) (fun _ _ => rfl)) pe_int (fun _ _ => rfl)) pe_int (fun _ _ => rfl))))
    (pss_cons (ps_set (i := 4) sc_barred.nd rfl (Or.inl rfl) (pe_callTy (kc_list (K := K)) (by rfl) T.n_list boot_list (pa_cons (pe_slice (ksl_tup (K := K)) (pe_ix (kix_tup (K := K)) (pe_ix (kix_tup (K := K)) (pv 1) (pv 2) (fun _ _ => rfl)) pe_int (fun _ _ => rfl)) po_none (po_some (pe_ix (kix_tup (K := K)) (kpe_fld (K := K) (pv 0) rfl) (pv 2) (fun _ _ => rfl)))) pa_nil)))
    (pss_one (ps_ret (pe_callTy (kc_tuple (K := K)) (by rfl) T.n_tuple boot_tuple (pa_cons (pe_callB (kc_sortedSet (w := w) rfl) (by rfl) T.n_sorted boot_sorted (pa_cons (pe_callTy (kc_setL (K := K) (w := w) rfl) (by rfl) T.n_set boot_set (pa_cons (pe_op op_cat (pv 3) (pv 4)) pa_nil)) pa_nil)) pa_nil)))))), ?_⟩
  have hin : ∀ o ∈ rawNear ties rm, 0 ≤ o ∧ o < ms.length := fun o h => near_in ok h
  have hst : ∀ {o : Int}, 0 ≤ o → o < ms.length → (st.map eR)[o.toNat]? = some (eR (stAt st o)) := fun a b => map_get (st_get a (by omega))
  have hm : ms[rm.toNat]? = some ((ms[rm.toNat]?).getD 0) := by
    rw [List.getElem?_eq_getElem (by omega)]
    rfl
  have hm0 := ok.mem _ (List.mem_of_getElem? hm)
  have nl := near_le ok h8 h0 h1
  have eq : cutG ((stAt st rm).2.map D.int) none (some ((ms[rm.toNat]?).getD 0)) = (ownL ms st rm).map D.int := by
    rw [cutG_hi _ _ hm0.1, ← List.map_take]
    rfl
  have hsh : ∀ o ∈ rawNear ties rm, (stAt st o).1 = true → (stAt st o).2 ≠ [] := fun o ho => sok.shown _ (st_mem (hin o ho).1 (by have := (hin o ho).2; omega))
  refine q_asgD (K := K) (ed_lcT (encS := .int) enc_int (rawNear ties rm) (fun o => (stAt st o).1) (fun o => ((stAt st o).2).headD 0) (ed_call (ea_cons (ed_var rfl r1) (ea_cons (ed_var rfl r3) ea_nil)) fun H1 e1 => ⟨a, ms, ties, rm, rfl, x.le e1, h0, h1, rfl⟩) (by omega) (fun _ => rfl)
    (fun o v H1 e1 ho rv => et_B (ed_ixT (ds := [_, _]) (ed_ixT (ed_var rfl (r2.le e1)) (ed_var rfl rv) (hin o ho).1 (hst (hin o ho).1 (hin o ho).2)) ed_int (by decide) rfl)) fun o v H1 e1 ho rv hb => ?_) fun v4 H1 e1 r4 => ?_
  · refine ed_ixT (ds := (stAt st o).2.map D.int) (ed_ixT (ds := [_, _]) (ed_ixT (d := eR (stAt st o)) (ed_var rfl (r2.le e1)) (ed_var rfl rv) (hin o ho).1 (hst (hin o ho).1 (hin o ho).2)) ed_int (by decide) rfl) ed_int (by decide) ?_
    have := hsh o ho hb
    cases hh : (stAt st o).2 with
    | nil => exact absurd hh this
    | cons t ts => rfl
  refine q_asgD (K := K) (ed_lstOfT (ds := (ownL ms st rm).map D.int) (ed_eq (ed_slT (ed_ixT (ds := [_, _]) (ed_ixT (d := eR (stAt st rm)) (ed_var rfl (r2.le e1)) (ed_var rfl (r3.le e1)) h0 (hst h0 h1)) ed_int (by decide) rfl) eo_none
    (eo_some (ed_ixT (ed_mem W (x.le e1) (ed_var rfl (r1.le e1))) (ed_var rfl (r3.le e1)) h0 (map_get hm)))) (congrArg D.tup eq)) (enc_int.un _)) fun v5 H2 e2 r5 => ?_
  have hol : (ownL ms st rm).length ≤ 30 := Nat.le_trans (List.length_take_le _ _) (by omega)
  have hfl := fm_len (rawNear ties rm) (fun o => (stAt st o).1) (fun o => ((stAt st o).2).headD 0)
  refine s_ret (K := K) (EP.weak (ep_tupOf (PL := fun es => ∃ ns' : List Int, es = ns'.map .int ∧ ns'.Pairwise (· < ·) ∧ ∀ k, k ∈ ns' ↔ k ∈ barsL ms ties st rm) (EP.weak (ep_sortedSet (w := w) (ns := ((rawNear ties rm).filter fun o => (stAt st o).1).map (fun o => ((stAt st o).2).headD 0) ++ ownL ms st rm) ?_ (ed_eq (ed_cat (ed_var rfl (r4.le e2)) (ed_var rfl r5) ?_ ?_) ?_)) fun d H3 _ p => ?_)) fun d H3 _ p => ?_) fun v d H3 e3 p r => q v d H3 ((e1.trans e2).trans e3) p r
  · rw [List.length_append]
    omega
  · rw [List.length_map (f := D.int), List.length_map (f := D.int)]
    omega
  · rw [← List.map_append]
    exact enc_int.un _
  · rw [List.map_append]
  · obtain ⟨ns', rfl, hs, hm⟩ := p
    refine ⟨_, rfl, ns', rfl, hs, fun k => ?_⟩
    rw [hm k, List.mem_append, mem_shown hsh]
    unfold barsL
    rw [List.mem_append, List.mem_flatMap]
    exact Or.comm
  · obtain ⟨es, rfl, ns', rfl, hb⟩ := p
    exact ⟨ns', rfl, hb.1, hb.2⟩
theorem ep_inT {σ : L2.St} {H : Hp} {ta tb : TE} {x : Int} {PN : List Int → Prop} (h : ED K ta σ H (.int x)) (h2 : EP K tb σ H fun d _ => ∃ ns : List Int, d = .tup (ns.map .int) ∧ PN ns) : EP K (tOp (rIn K false) ta tb) σ H (fun d _ => ∃ ns : List Int, PN ns ∧ d = .bl (decide (x ∈ ns))) :=
  ep_op h h2 fun v w d1 d2 H1 H2 _ _ p1 p2 r1 r2 Q q => by
    have p1' : d1 = .int x := p1
    subst p1'
    obtain ⟨ns, rfl, pn⟩ := p2
    obtain ⟨a, xs, rfl, s, rr⟩ := rp_tup r2
    have ex := ints_rps rr
    subst ex
    rw [rp_int r1]
    refine ⟨a, _, rfl, .inr s, rfl, flat_ints ns, ?_⟩
    rw [inV_ints]
    exact q _ _ H2 (Le.refl _) ⟨ns, pn, rfl⟩ (.bl _)
def R_gb (K : PySem.W.Frag) (C : Addr) : List D → Hp → Pd → Prop := fun ds H P => ∃ a ms ties st dd, ds = [.obj (.ref a), eT st, eD dd] ∧ WebAt K C H a ms ties ∧ PartsOk ms ties ∧ ms.length ≤ 8 ∧ StOk st ∧ st.length = ms.length ∧ 0 ≤ dd.room ∧ dd.room < ms.length ∧
  P = is (.bl (bad ms ties st dd))
theorem ok_gb (T : GTxt mg) (g : GDef K mg "gives_barred" s_gives_barred ["web", "standing", "deed"]) (Gbarred : Def P w K mg base 6 "barred" ["web", "standing", "room"] (spD K (R_barred K C))) : Def P w K mg base 7 "gives_barred" ["web", "standing", "deed"] (spD K (R_gb K C)) := by
  refine defD g sc_gives_barred (fun ds H Pd h => ?_) fun cdv A outer s f H vs ds Pd Q E hr r h q => ?_
  · obtain ⟨a, ms, ties, st, r, rfl, _⟩ := h
    rfl
  obtain ⟨a, ms, ties, st, dd, rfl, x, ok, h8, sok, hl, h0, h1, rfl⟩ := h
  obtain ⟨v1, v2, v3, rfl, r1, r2, r3⟩ := rps3 r
  refine ⟨_, (pss_one (ps_ret (pe_and (pe_cmpR op_eq (pe_ix (kix_tup (K := K)) (pv 2) pe_int (fun _ _ => rfl)) pe_str (nomark _)) (pe_one (pe_cmpR (kop_in (K := K)) (pe_ix (kix_tup (K := K)) (pv 2) pe_int (fun _ _ => rfl)) (pe_def Gbarred (hr.mono (by decide)) (pa_cons (pv 0) (pa_cons (pv 1) (pa_cons (pe_ix (kix_tup (K := K)) (pv 2) pe_int (fun _ _ => rfl)) pa_nil)))) (by rfl)))))), ?_⟩
  cases dd with
  | back rm =>
    refine s_retD (K := K) (d := .bl false) (ed_andV (b := true) (a := false) (ed_eq (ed_eqS (d1 := .str "back") (d2 := .str "give") (ed_ixT (ds := [_, _]) (ed_var rfl r3) ed_int (by decide) rfl) ed_str rfl rfl rfl) (congrArg D.bl vs_bg)) fun hb => nomatch hb) fun v H1 e1 r => q v _ H1 e1 rfl r
  | give rm t =>
    refine s_ret (K := K) (P := is (.bl (bad ms ties st (.give rm t)))) ?_ fun v d H1 e1 p r => q v d H1 e1 p r
    refine ed_eq (ed_andV (b := bad ms ties st (.give rm t)) (a := true) (ed_eq (ed_eqS (d1 := .str "give") (d2 := .str "give") (ed_ixT (ds := [_, _, _]) (ed_var rfl r3) ed_int (by decide) rfl) ed_str rfl rfl rfl) (congrArg D.bl vs_gg)) fun _ => ?_) rfl
    refine EP.weak (ep_inT (x := t) (PN := fun ns => ∀ k, k ∈ ns ↔ k ∈ barsL ms ties st rm) (ed_ixT (ds := [_, _, _]) (ed_var rfl r3) ed_int (by decide) rfl) (EP.weak (ed_call (P := fun d _ => ∃ ns : List Int, d = .tup (ns.map .int) ∧ ns.Pairwise (· < ·) ∧ ∀ k, k ∈ ns ↔ k ∈ barsL ms ties st rm) (ea_cons (ed_var rfl r1) (ea_cons (ed_var rfl r2) (ea_cons (ed_ixT (ds := [_, _, _]) (ed_var rfl r3) ed_int (by decide) rfl) ea_nil))) fun H1 e1 => ⟨a, ms, ties, st, rm, rfl, x.le e1, ok, h8, sok, hl, h0, h1, rfl⟩) fun d H2 _ ⟨ns, e, _, hm⟩ => ⟨ns, e, hm⟩)) fun d H2 _ p => ?_
    obtain ⟨ns, hn, rfl⟩ := p
    show D.bl (decide (t ∈ ns)) = D.bl (decide (t ∈ barsL ms ties st rm))
    rw [decide_eq_decide.mpr (hn t)]
end
end W1

set_option maxRecDepth 100000
set_option maxHeartbeats 4000000
namespace W1
open PySem PyProof.Rows L2
local macro_rules | `(tactic| walk_at "rp") => `(tactic| first | assumption | exact Rp.int _ | exact Rp.bl _ | exact Rp.str _ | exact Rp.non | exact Rp.obj _ | (refine Rp.le (by assumption) ?_; walk_at "rp"))
local macro_rules | `(tactic| walk_at "ed") => `(tactic| first
  | exact ed_int | exact ed_str | exact ed_bl | exact ed_non
  | (refine ed_var rfl ?_; walk_at "rp")
  | (refine ed_ixT (ds := [_, _]) ?_ ed_int (by decide) rfl; walk_at "ed")
  | (refine ed_I0 ?_ ?_ <;> walk_at "ed")
  | (refine ed_B0 ?_ ?_ <;> walk_at "ed")
  | (refine ed_eqS ?_ ?_ rfl rfl rfl <;> walk_at "ed")
  | assumption)
local macro_rules | `(tactic| walk_at "ea") => `(tactic| first | exact ea_nil | (refine ea_cons ?_ ?_; walk_at "ed"; walk_at "ea"))

abbrev s_standing_of : Stmt := topS 27
abbrev N_standing_of : List Str := ["web", "past", "held", "tags", "deed", "room", "_"]
theorem sc_standing_of : FnScope N_standing_of ["web", "past"] (defScope s_standing_of) := ⟨rfl, rfl, rfl, by decide +kernel, rfl, by decide +kernel, by decide +kernel⟩
theorem Rows.base {H H0 H1 : Hp} {L : Addr} {as : List Addr} {f : Nat → List Int} (r : Rows H L as f H1) (e : Le H0 H1) : Rows H L as f H0 :=
  ⟨r.top, r.row, fun a ha => e.fresh (r.new a ha), r.nd, r.nL, e.fresh r.nL0, e.trans r.le⟩
theorem Rows.off {H H0 : Hp} {L h : Addr} {as : List Addr} {f : Nat → List Int} {o : HO} (r : Rows H L as f H0) (n1 : h ≠ L) (n2 : h ∉ as) (n0 : H0 h = none) : Rows (upd H h o) L as f H0 :=
  ⟨by rw [upd_ne n1.symm]; exact r.top, fun i a ha => by
    have ne : a ≠ h := fun e => n2 (e ▸ List.mem_of_getElem? ha)
    rw [upd_ne ne]
    exact r.row i a ha, r.new, r.nd, r.nL, r.nL0, r.le.mut n0⟩
theorem Rows.nil_more {H1 : Hp} {L p : Addr} {as : List Addr} {H : Hp} (R : Rows H1 L as (fun _ => []) H) (np : H1 p = none) : Rows (upd (upd H1 p (.lst [])) L (.lst (as.map V.ref ++ [.ref p]))) L (as ++ [p]) (fun _ => []) H := by
  have npL : L ≠ p := ne_of_none R.top np
  have nas : ∀ a ∈ as, a ≠ p := fun a ha => by
    obtain ⟨j, hj⟩ := List.mem_iff_getElem?.mp ha
    exact ne_of_none (R.row j a hj) np
  refine ⟨?_, fun j a hj => ?_, fun a ha => ?_, ?_, ?_, R.nL0, ?_⟩
  · rw [upd_same, List.map_append]
    rfl
  · have ha : a ∈ as ++ [p] := List.mem_of_getElem? hj
    have hne : a ≠ L := by
      rcases List.mem_append.mp ha with ha | ha
      · exact fun e => R.nL (e ▸ ha)
      · rw [List.mem_singleton.mp ha]
        exact npL.symm
    rw [upd_ne hne]
    rcases List.mem_append.mp ha with ha | ha
    · rw [upd_ne (nas a ha)]
      obtain ⟨j2, hj2⟩ := List.mem_iff_getElem?.mp ha
      exact R.row j2 a hj2
    · rw [List.mem_singleton.mp ha]
      exact upd_same
  · rcases List.mem_append.mp ha with ha | ha
    · exact R.new a ha
    · rw [List.mem_singleton.mp ha]
      exact R.le.fresh np
  · rw [List.nodup_append]
    exact ⟨R.nd, by simp, fun a ha b hb => by rw [List.mem_singleton.mp hb]; exact nas a ha⟩
  · intro h
    rcases List.mem_append.mp h with h | h
    · exact R.nL h
    · exact npL (List.mem_singleton.mp h)
  · exact (R.le.trans (Le.new np)).mut R.nL0
section
variable {K : PySem.W.Frag} {σ : L2.St} {H : Hp} {ta te to ti : TE} {D1 : Ends} {vs : List Nat}
/-- [[] for _ in xs] -/
theorem rows_lcT {ds : List D} {j : Nat} (h : ED K ta σ H (.tup ds)) (hz : ds.length ≤ 50000) (hw : ∀ x, wipe ((wipe σ vs).set j (some x)) vs = wipe σ vs) {Q : VK}
    (k : ∀ L as H2, Rows H2 L as (fun _ => []) H → as.length = ds.length → Q (.ref L) H2) : tLc (iTup K ta) (gName j) tYes (tLst tNil) vs σ H Q := h H (Le.refl _) _ fun v d0 H2 e2 p r => by
  have p' : d0 = .tup ds := p
  subst p'
  obtain ⟨a, xs, rfl, s, rr⟩ := rp_tup r
  refine ⟨a, rfl, ⟨xs, s⟩, fun L hL => lc_it (walk_tup (xs := xs)) (fun i H' => ∃ as, Rows H' L as (fun _ => []) H2 ∧ as.length = i ∧ i ≤ ds.length) ⟨[], ⟨upd_same, fun i a h => by simp at h, fun a h => by simp at h, List.nodup_nil, by simp, hL, Le.new hL⟩, rfl, Nat.zero_le _⟩ (fun i H' _ ⟨as, R, _⟩ => R.le.sqt s) ?_ ?_⟩
  · rintro i x H1 _ hi ⟨as, R, hl, _⟩ ⟨rfl, hx⟩
    refine ⟨hw x, ?_⟩
    unfold tYes
    dsimp only
    rw [if_pos rfl]
    refine ⟨Nat.zero_le _, fun p np => ?_⟩
    have npL : L ≠ p := ne_of_none R.top np
    have hi' : i + 1 ≤ ds.length := by rw [← rr.len]; exact hi
    exact ⟨as.map V.ref, by rw [upd_ne npL]; exact R.top, by rw [List.length_map, hl]; exact Evl.sz_lt (by omega), as ++ [p], R.nil_more np, by rw [List.length_append, hl]; rfl, hi'⟩
  · rintro H1 ⟨as, R, hl, _⟩
    exact k L as H1 (R.base e2) (by rw [hl, rr.len])
theorem s_rows {ds : List D} {i j : Nat} (h : ED K ta σ H (.tup ds)) (hz : ds.length ≤ 50000) (hw : ∀ x, wipe ((wipe σ vs).set j (some x)) vs = wipe σ vs)
    (k : ∀ L as H2, Rows H2 L as (fun _ => []) H → as.length = ds.length → D1.nx (σ.set i (some (.ref L))) H2) : tAsg (tLc (iTup K ta) (gName j) tYes (tLst tNil) vs) (gName i) D1 σ H := rows_lcT (Q := fun v H2 => D1.nx (σ.set i (some v)) H2) h hz hw k
theorem q_rows {tz : TS} {ds : List D} {i j : Nat} (h : ED K ta σ H (.tup ds)) (hz : ds.length ≤ 50000) (hw : ∀ x, wipe ((wipe σ vs).set j (some x)) vs = wipe σ vs)
    (k : ∀ L as H2, Rows H2 L as (fun _ => []) H → as.length = ds.length → tz D1 (σ.set i (some (.ref L))) H2) : tSeq (tAsg (tLc (iTup K ta) (gName j) tYes (tLst tNil) vs) (gName i)) tz D1 σ H := s_rows (D1 := { D1 with nx := tz D1 }) h hz hw k
theorem ed_row {L : Addr} {as : List Addr} {f : Nat → List Int} {H0 : Hp} {i : Int} (R : Rows H L as f H0) (ho : ED K to σ H (.obj (.ref L))) (hi : ED K ti σ H (.int i)) (h0 : 0 ≤ i) (h1 : i.toNat < as.length) : ED K (tOp (rIxL K) to ti) σ H (.lst ((f i.toNat).map .int)) := fun H1 e Q q =>
  ho H1 e _ fun v d H2 e2 p r => hi H2 (e.trans e2) _ fun v2 d2 H3 e3 p2 r2 => by
    have p' : d = .obj (.ref L) := p
    have p2' : d2 = .int i := p2
    subst p' p2'
    have ev := rp_obj r
    have ev2 := rp_int r2
    subst ev ev2
    have R3 := R.le2 ((e.trans e2).trans e3)
    have ha : as[i.toNat]? = some as[i.toNat] := List.getElem?_eq_getElem h1
    exact ⟨L, _, i, .ref as[i.toNat], rfl, rfl, SqL.of R3.top, at_of (j := i.toNat) (by omega) (by rw [List.getElem?_map, ha]; rfl), q _ _ H3 (e2.trans e3) rfl (.lst (R3.row _ _ ha) (notH_ints _) (rps_ints _))⟩
theorem s_appRow {L : Addr} {as : List Addr} {f : Nat → List Int} {H0 : Hp} {i z : Int} (R : Rows H L as f H0) (ho : ED K to σ H (.obj (.ref L))) (hi : ED K ti σ H (.int i)) (h0 : 0 ≤ i) (h1 : i.toNat < as.length) (he : ED K te σ H (.int z)) (hz : (f i.toNat).length < 100000)
    (k : ∀ H1 a, Le H H1 → as[i.toNat]? = some a → H1 a = some (.lst ((f i.toNat).map V.int)) → Rows (upd H1 a (.lst ((f i.toNat).map V.int ++ [.int z]))) L as (fun j => if j = i.toNat then f i.toNat ++ [z] else f j) H0 → D1.nx σ (upd H1 a (.lst ((f i.toNat).map V.int ++ [.int z])))) :
    tDrop (tBM K "list" rAppend (tOp (rIxL K) to ti) (tCons te tNil)) D1 σ H := ho H (Le.refl _) _ fun v d H2 e2 p r => hi H2 e2 _ fun v2 d2 H3 e3 p2 r2 => by
    have p' : d = .obj (.ref L) := p
    have p2' : d2 = .int i := p2
    subst p' p2'
    have ev := rp_obj r
    have ev2 := rp_int r2
    subst ev ev2
    have R3 := R.le2 (e2.trans e3)
    have ha : as[i.toNat]? = some as[i.toNat] := List.getElem?_eq_getElem h1
    refine ⟨L, _, i, .ref as[i.toNat], rfl, rfl, SqL.of R3.top, at_of (j := i.toNat) (by omega) (by rw [List.getElem?_map, ha]; rfl), .inl ⟨rfl, _, SqL.of (R3.row _ _ ha)⟩, he H3 (e2.trans e3) _ fun y d3 H4 e4 p3 r3 => ?_⟩
    have p3' : d3 = .int z := p3
    subst p3'
    have ev3 := rp_int r3
    subst ev3
    have R4 := R3.le2 e4
    exact ⟨as[i.toNat], _, .int z, rfl, rfl, R4.row _ _ ha, by rw [List.length_map]; exact Evl.sz_lt hz, k H4 _ ((e2.trans e3).trans e4) ha (R4.row _ _ ha) (R4.put ha)⟩
end
section
variable {K : PySem.W.Frag} {σ : L2.St} {H : Hp} {ta te : TE} {tt : TT} {vs : List Nat}
theorem ef_lcT {ds : List D} {j : Nat} {I : Nat → List D → Prop} {PT : Nat → D → Bool → Prop} (G : Good I) (h : ED K ta σ H (.tup ds)) (hw : ∀ x, wipe ((wipe σ vs).set j (some x)) vs = wipe σ vs) (h0 : I 0 [])
    (ht : ∀ (i : Nat) d v acc H1, Le H H1 → ds[i]? = some d → Rp K H1 v d → I i acc → ET tt ((wipe σ vs).set j (some v)) H1 (PT i d))
    (he : ∀ (i : Nat) d v acc H1, Le H H1 → ds[i]? = some d → Rp K H1 v d → I i acc → PT i d true → EP K te ((wipe σ vs).set j (some v)) H1 (fun d' _ => I (i + 1) (acc ++ [d']) ∧ NoL d'))
    (hf : ∀ (i : Nat) d acc, ds[i]? = some d → I i acc → PT i d false → I (i + 1) acc) : EF K (tLc (iTup K ta) (gName j) tt te vs) σ H (fun acc => I ds.length acc) := fun H1 e Q q => h H1 e _ fun v d0 H2 e2 p r => by
  have p' : d0 = .tup ds := p
  subst p'
  obtain ⟨a, xs, rfl, s, rr⟩ := rp_tup r
  refine ⟨a, rfl, ⟨xs, s⟩, fun L hL => lc_it (walk_tup (xs := xs)) (CI K H2 L I) (ci_start hL h0) (fun i H' _ c => c.2.1.sqt s) ?_ (fun H' c => ?_)⟩
  · rintro i x H' _ hi c ⟨rfl, hx⟩
    obtain ⟨d, h1, h2⟩ := rr.at' hx
    exact ⟨hw x, ci_turn G c (fun acc ia => ht i d x acc H2 (e.trans e2) h1 h2 ia) (fun acc ia pt => he i d x acc H2 (e.trans e2) h1 h2 ia pt) (fun acc ia pt => hf i d acc h1 ia pt)⟩
  · rw [rr.len] at c
    obtain ⟨q1, q2, ws, acc, q3, q4, q5⟩ := c
    exact q L ws acc H' (e2.fresh q1) (e2.trans q2) q3 ((G.uni _ acc q5).notH q4) q4 q5
theorem ed_give {dd : Deed} (h : ED K te σ H (eD dd)) : ED K (tOp rEq (tOp (rIxT K) te (tC (.int 0))) (tC (.str "give"))) σ H (.bl (isG dd)) := by
  cases dd with
  | give r t => exact ed_eq (ed_eqS (d1 := .str "give") (d2 := .str "give") (ed_ixT (ds := [_, _, _]) h ed_int (by decide) rfl) ed_str rfl rfl rfl) (congrArg D.bl vs_gg)
  | back r => exact ed_eq (ed_eqS (d1 := .str "back") (d2 := .str "give") (ed_ixT (ds := [_, _]) h ed_int (by decide) rfl) ed_str rfl rfl rfl) (congrArg D.bl vs_bg)
theorem ed_droom {dd : Deed} (h : ED K te σ H (eD dd)) : ED K (tOp (rIxT K) te (tC (.int 1))) σ H (.int dd.room) := by
  cases dd with
  | give r t => exact ed_ixT (ds := [_, _, _]) h ed_int (by decide) rfl
  | back r => exact ed_ixT (ds := [_, _]) h ed_int (by decide) rfl
theorem ed_dtag {r t : Int} (h : ED K te σ H (eD (.give r t))) : ED K (tOp (rIxT K) te (tC (.int 2))) σ H (.int t) := ed_ixT (ds := [_, _, _]) h ed_int (by decide) rfl
end
/-! ### states behind pasts -/
def stF (n : Nat) (p : List Deed) : St1 := p.foldl doneL (List.replicate n (false, []))
theorem stF_len (n : Nat) (p : List Deed) : (stF n p).length = n := by
  have : ∀ (p : List Deed) (st : St1), (p.foldl doneL st).length = st.length := by
    intro p
    induction p with
    | nil => exact fun _ => rfl
    | cons d p ih => exact fun st => (ih _).trans (doneL_len _ _)
  exact (this p _).trans List.length_replicate
theorem stF_more (n : Nat) (p : List Deed) (d : Deed) : stF n (p ++ [d]) = doneL (stF n p) d := by
  unfold stF
  rw [List.foldl_append]
  rfl
theorem take_more {α : Type} {p : List α} {i : Nat} {d : α} (h : p[i]? = some d) : p.take (i + 1) = p.take i ++ [d] := by
  rw [List.take_add_one, h]
  rfl
def cutSt (ms : List Int) (st : St1) : St1 := (List.range st.length).map fun i : Nat => ((stAt st (i : Int)).1, (stAt st (i : Int)).2.take (keptN ms (i : Int)))
theorem st_at_rep (n : Nat) (r : Int) : stAt (List.replicate n (false, [])) r = (false, []) := by
  unfold stAt
  rw [List.getElem?_replicate]
  split <;> rfl
theorem st_at_set {st : St1} {r j : Int} {x : Bool × List Int} (h0 : 0 ≤ r) (h1 : r < st.length) (hj : 0 ≤ j) : stAt (st.set r.toNat x) j = if j = r then x else stAt st j := by
  unfold stAt
  by_cases h : j = r
  · subst h
    rw [if_pos rfl, List.getElem?_set_self (by omega)]
    rfl
  · rw [if_neg h, List.getElem?_set_ne (by omega)]
theorem doneL_eq (st : St1) (dd : Deed) : doneL st dd = st.set dd.room.toNat (isG dd, match dd with | .give _ t => t :: (stAt st dd.room).2 | .back _ => (stAt st dd.room).2) := by cases dd <;> rfl
theorem st_tags_len (n : Nat) : ∀ (p : List Deed), (∀ d ∈ p, 0 ≤ d.room ∧ d.room < n) → ∀ j, (stAt (stF n p) j).2.length ≤ p.length := by
  have : ∀ (m : Nat) (p : List Deed), p.length = m → (∀ d ∈ p, 0 ≤ d.room ∧ d.room < n) → ∀ x ∈ stF n p, x.2.length ≤ p.length := by
    intro m
    induction m with
    | zero =>
      intro p hp _ x hx
      have : p = [] := List.length_eq_zero_iff.mp hp
      subst this
      rw [List.eq_of_mem_replicate hx]
      exact Nat.le_refl _
    | succ m ih =>
      intro p hp hr x hx
      obtain ⟨p', d, rfl⟩ : ∃ p' d, p = p' ++ [d] := ⟨p.dropLast, p.getLast (fun e => by rw [e] at hp; cases hp), (List.dropLast_concat_getLast _).symm⟩
      have ih' := ih p' (by rw [List.length_append] at hp; exact Nat.succ.inj hp) fun d hd => hr d (List.mem_append_left _ hd)
      rw [stF_more, doneL_eq] at hx
      rw [List.length_append]
      have hd := hr d (List.mem_append_right _ (List.mem_singleton.mpr rfl))
      have hg : (stAt (stF n p') d.room).2.length ≤ p'.length := ih' _ (st_mem hd.1 (by rw [stF_len]; exact hd.2))
      rcases mem_set_of hx with rfl | hx
      · cases d with
        | give r t =>
          show (stAt (stF n p') r).2.length + 1 ≤ p'.length + 1
          have e : (Deed.give r t).room = r := rfl
          rw [e] at hg
          omega
        | back r =>
          show (stAt (stF n p') r).2.length ≤ p'.length + 1
          have e : (Deed.back r).room = r := rfl
          rw [e] at hg
          omega
      · have := ih' x hx
        show _ ≤ p'.length + 1
        omega
  intro p hr j
  cases h : (stF n p)[j.toNat]? with
  | none =>
    unfold stAt
    rw [h]
    exact Nat.zero_le _
  | some x =>
    have e : stAt (stF n p) j = x := by
      unfold stAt
      rw [h]
      rfl
    rw [e]
    exact this _ p rfl hr x (List.mem_of_getElem? h)
section
variable {P : Program} {w : World} {K : PySem.W.Frag} {mg : Str → Option Value} {base : Heap} {C : Addr}
def R_so (K : PySem.W.Frag) (C : Addr) : List D → Hp → Pd → Prop := fun ds H P => ∃ a ms ties past, ds = [.obj (.ref a), .tup (List.map eD past)] ∧ WebAt K C H a ms ties ∧ ms.length ≤ 60 ∧ past.length ≤ 5000 ∧ (∀ d ∈ past, 0 ≤ d.room ∧ d.room < ms.length) ∧
  P = is (eT (cutSt ms (stF ms.length past)))
theorem ok_so (T : GTxt mg) (W : WTxt K C) (g : GDef K mg "standing_of" s_standing_of ["web", "past"]) (Gkept_tags : Def P w K mg base 1 "kept_tags" ["web", "room"] (spD K (R_kept K C))) (Gnewest : Def P w K mg base 1 "newest" ["tags", "many"] (spD K R_newest)) :
    Def P w K mg base 2 "standing_of" ["web", "past"] (spD K (R_so K C)) := by
  refine defD g sc_standing_of (fun ds H Pd h => ?_) fun cdv A outer s f H vs ds Pd Q E hr r h q => ?_
  · obtain ⟨a, ms, ties, past, rfl, _⟩ := h
    rfl
  obtain ⟨a, ms, ties, past, rfl, x, h60, hp, hrm, rfl⟩ := h
  obtain ⟨v1, v2, rfl, r1, r2⟩ := rps2 r
  refine ⟨_, (pss_cons (ps_set (i := 2) sc_standing_of.nd rfl (Or.inr rfl) (pe_lc (own := [("_", 6)]) rfl sc_standing_of.nd (kpi_tup (K := K) (kpe_fld (K := K) (pv 0) rfl)) (blkOk_by (N := N_standing_of) (sc := defScope s_standing_of) (by decide +kernel)) (fun _ _ _ _ _ => (pg_name (i := 6) sc_standing_of.nd rfl (Or.inl rfl))) (fun _ _ _ _ _ => pts_nil) (fun _ _ _ _ _ => pe_bl)))
    (pss_cons (ps_set (i := 3) sc_standing_of.nd rfl (Or.inr rfl) (pe_lc (own := [("_", 6)]) rfl sc_standing_of.nd (kpi_tup (K := K) (kpe_fld (K := K) (pv 0) rfl)) (blkOk_by (N := N_standing_of) (sc := defScope s_standing_of) (by decide +kernel)) (fun _ _ _ _ _ => (pg_name (i := 6) sc_standing_of.nd rfl (Or.inl rfl))) (fun _ _ _ _ _ => pts_nil) (fun _ _ _ _ _ => (pe_lst pa_nil))))
    (pss_cons (ps_for PassesOwn.never rfl (kpi_tup (K := K) (pv 1)) (pg_name (i := 4) sc_standing_of.nd rfl (Or.inl rfl))
      (pss_cons (ps_set (i := 5) sc_standing_of.nd rfl (Or.inl rfl) (pe_ix (kix_tup (K := K)) (pv 4) pe_int (fun _ _ => rfl)))
    (pss_cons (ps_asg (pe_cmpR op_eq (pe_ix (kix_tup (K := K)) (pv 4) pe_int (fun _ _ => rfl)) pe_str (nomark _)) (pg_sub (pv 2) (pv 5) set_list))
    (pss_one (ps_if (pt_val (pe_ix (kix_list (K := K)) (pv 2) (pv 5) (fun _ _ => rfl)))
      (pss_one (ps_expr (pe_bm PySem.F.plainAttrs_list PySem.F.slot_list_append PySem.F.type_list_append mt_append (pe_ix (kix_list (K := K)) (pv 3) (pv 5) (fun _ _ => rfl)) (pa_cons (pe_ix (kix_tup (K := K)) (pv 4) pe_int (fun _ _ => rfl)) pa_nil))))
      pss_nil)))))
    (pss_one (ps_ret (pe_callTy (kc_tuple (K := K)) (by rfl) T.n_tuple boot_tuple (pa_cons (pe_lc (own := [("room", 5)]) rfl sc_standing_of.nd (pi_range1 (by rfl) T.n_range (pa_cons (pe_callB (kc_len (K := K)) (by rfl) T.n_len boot_len (pa_cons (pv 2) pa_nil)) pa_nil)) (blkOk_by (N := N_standing_of) (sc := defScope s_standing_of) (by decide +kernel)) (fun _ _ _ _ _ => (pg_name (i := 5) sc_standing_of.nd rfl (Or.inl rfl))) (fun _ _ _ _ _ => pts_nil) (fun _ _ _ _ _ => (pe_tup (pa_cons (pe_ix (kix_list (K := K)) (pv 2) (pv 5) (fun _ _ => rfl)) (pa_cons (pe_def Gnewest (hr.mono (by decide)) (pa_cons (pe_ix (kix_list (K := K)) (pv 3) (pv 5) (fun _ _ => rfl)) (pa_cons (pe_def Gkept_tags (hr.mono (by decide)) (pa_cons (pv 0) (pa_cons (pv 5) pa_nil))) pa_nil))) pa_nil))))) pa_nil))))))), ?_⟩
  have n0 : ∀ i, (stF ms.length (past.take i)).length = ms.length := fun i => stF_len _ _
  -- held = [False for _ in web.memories]
  refine q_asgF (K := K) (ef_lcT (I := GI D.bl fun i zs => zs = List.replicate i false ∧ i ≤ ms.length) (PT := fun i d b => b = true) (good enc_bl _) (ed_mem W x (ed_var rfl r1)) (fun _ => rfl) ⟨[], rfl, Nat.zero_le _, rfl, Nat.zero_le _⟩ (fun i d v acc H1 e hd rv _ => et_yes) (fun i d v acc H1 e hd rv ia _ => ?_) (fun i d acc hd _ hf => nomatch hf)) fun hh us ds H1 nh0 e1 hc nhh rr hd => ?_
  · obtain ⟨zs, rfl, hz, rfl, hi⟩ := ia
    have hlt := (List.getElem?_eq_some_iff.mp hd).1
    rw [List.length_map] at hlt
    refine EP.weak ed_bl fun d' H2 _ p => ?_
    have p' : d' = .bl false := p
    subst p'
    exact ⟨GI.more (by simp; omega) ⟨by rw [← List.replicate_succ'], hlt⟩, .bl _⟩
  obtain ⟨zs, rfl, hz, hzs, _⟩ := hd
  rw [List.length_map] at hzs
  subst hzs
  have hus := bls_rps rr
  subst hus
  -- tags = [[] for _ in web.memories]
  refine q_rows (K := K) (ds := ms.map .int) (ed_mem W (x.le e1) (ed_var rfl (r1.le e1))) (by rw [List.length_map]; omega) (fun _ => rfl) fun L as H2 R hl => ?_
  rw [List.length_map] at hl
  have hne : hh ≠ L := ne_of_none hc R.nL0
  have hni : hh ∉ as := fun hm => by
    have h := R.new hh hm
    rw [hc] at h
    cases h
  have e12 := e1.trans R.le
  -- for deed in past
  refine q_forT (K := K) (ds := past.map eD) (ed_var rfl (r2.le e12)) (enc_D.nl _) fun H3 e3 => ?_
  refine ⟨fun i σ H' => ∃ y4 y5, σ = [some v1, some v2, some (.ref hh), some (.ref L), y4, y5, none] ∧ LeT H3 H' ∧ Le H H' ∧ H' hh = some (.lst (((stF ms.length (past.take i)).map (·.1)).map V.bl)) ∧ Rows H' L as (fun j => (stAt (stF ms.length (past.take i)) (j : Int)).2.reverse) H,
    ⟨none, none, rfl, LeT.refl _, e12.trans e3, ?_, ?_⟩, fun i σ H' _ ⟨_, _, _, e, _⟩ => e, ?_, ?_⟩
  · have e5 : (stF ms.length (past.take 0)).map (·.1) = List.replicate ms.length false := by
      rw [List.take_zero]
      show (List.replicate ms.length ((false, []) : Bool × List Int)).map (·.1) = _
      rw [List.map_replicate]
    rw [e5]
    exact e3.lst (R.le.lst hc nhh) nhh
  · have e5 : (fun j : Nat => (stAt (stF ms.length (past.take 0)) (j : Int)).2.reverse) = fun _ => [] := by
      funext j
      rw [List.take_zero]
      show (stAt (List.replicate ms.length (false, [])) (j : Int)).2.reverse = []
      rw [st_at_rep]
      rfl
    rw [e5]
    exact (R.base e1).le2 e3
  · rintro i d v σ' H' hd rv ⟨y4, y5, rfl, et, el, hH, R'⟩
    obtain ⟨dd, hdd, rfl⟩ := map_at hd
    obtain ⟨rm0, rm1⟩ := hrm dd (List.mem_of_getElem? hdd)
    generalize hst : stF ms.length (past.take i) = st at *
    have stl : st.length = ms.length := by rw [← hst, stF_len]
    have etk : stF ms.length (past.take (i + 1)) = doneL st dd := by rw [take_more hdd, stF_more, hst]
    have tl : (stAt st dd.room).2.length ≤ 5000 := by
      have := st_tags_len ms.length (past.take i) (fun d hd => hrm d (List.mem_of_mem_take hd)) dd.room
      rw [hst] at this
      have := List.length_take_le' i past
      omega
    -- room = deed[1]
    refine q_asgD (K := K) (ed_droom (ed_var rfl rv)) fun v5 H4 e4 r5 => ?_
    have ev5 := rp_int r5
    subst ev5
    -- held[room] = deed[0] == 'give'
    refine q_set (K := K) (ds := (st.map (·.1)).map D.bl) (i := dd.room) (e4.lst hH (notH_bls _)) (notH_bls _) (by simp) (ed_give (ed_var rfl (rv.le e4))) (fun H5 e5 => ed_var rfl (.obj _)) (fun H5 e5 => ed_var rfl (.int _)) rm0 (by simp; omega) fun y d H5 H6 e5 p e6 ry hc6 => ?_
    have p' : d = .bl (isG dd) := p
    subst p'
    have ey := rp_bl ry
    subst ey
    have e46 := (e4.trans e5).trans e6
    have eB : ((st.map (·.1)).map V.bl).set dd.room.toNat (.bl (isG dd)) = ((doneL st dd).map (·.1)).map V.bl := by
      rw [doneL_eq, List.map_set, List.map_set]
    rw [eB]
    have R6 := (R'.le2 e46).off (o := .lst (((doneL st dd).map (·.1)).map V.bl)) hne hni nh0
    have et6 := (et.trans e46.t).trans (LeT.upd (o := .lst (((doneL st dd).map (·.1)).map V.bl)) hc6)
    have el6 := (el.trans e46).mut (o := .lst (((doneL st dd).map (·.1)).map V.bl)) nh0
    have rv6 := (rv.le e46).leT (LeT.upd (o := .lst (((doneL st dd).map (·.1)).map V.bl)) hc6) (enc_D.noL _)
    have hB : (upd H6 hh (.lst (((doneL st dd).map (·.1)).map V.bl))) hh = some (.lst (((doneL st dd).map (·.1)).map V.bl)) := upd_same
    generalize upd H6 hh (.lst (((doneL st dd).map (·.1)).map V.bl)) = H7 at *
    -- if held[room]
    refine s_ifB (b := isG dd) (et_B (K := K) (ed_ixL (ds := ((doneL st dd).map (·.1)).map D.bl) (i := dd.room) (ed_var rfl (.lst hB (notH_bls _) (rps_bls _))) (ed_var rfl (.int _)) rm0 ?_)) (fun hb H8 e8 => ?_) (fun hb H8 e8 => ?_)
    · refine map_get ?_
      rw [List.getElem?_map, doneL_eq, List.getElem?_set_self (by omega)]
      rfl
    · cases dd with
      | back rm => cases hb
      | give rm t =>
        refine s_appRow (K := K) (i := rm) (z := t) (R6.le2 e8) (ed_var rfl (.obj _)) (ed_var rfl (.int _)) rm0 (by rw [hl]; have e9 : (Deed.give rm t).room = rm := rfl; rw [e9] at rm0 rm1; omega) (ed_dtag (ed_var rfl (rv6.le e8))) ?_ fun H9 a e9 ha hra R9 => ?_
        · rw [List.length_reverse]
          have e9 : (Deed.give rm t).room = rm := rfl
          rw [e9] at rm0 tl
          have e10 : ((rm.toNat : Nat) : Int) = rm := by omega
          rw [e10]
          omega
        · have hna : hh ≠ a := fun e => hni (e ▸ List.mem_of_getElem? ha)
          refine ⟨_, _, rfl, (et6.trans (e8.trans e9).t).trans (LeT.upd hra), (el6.trans (e8.trans e9)).mut (R6.new a (List.mem_of_getElem? ha)), by rw [etk, upd_ne hna]; exact (e8.trans e9).lst hB (notH_bls _), ?_⟩
          rw [etk]
          have ef : (fun j : Nat => (stAt (doneL st (.give rm t)) (j : Int)).2.reverse) = fun j : Nat => if j = rm.toNat then (stAt st ((rm.toNat : Nat) : Int)).2.reverse ++ [t] else (stAt st (j : Int)).2.reverse := by
            have e9 : (Deed.give rm t).room = rm := rfl
            rw [e9] at rm0 rm1
            funext j
            show (stAt (st.set rm.toNat (true, t :: (stAt st rm).2)) (j : Int)).2.reverse = _
            rw [st_at_set rm0 (by omega) (by omega)]
            by_cases hj : j = rm.toNat
            · have e10 : ((rm.toNat : Nat) : Int) = rm := by omega
              rw [if_pos (by omega), if_pos hj, e10, List.reverse_cons]
            · rw [if_neg (by omega), if_neg hj]
          rw [ef]
          exact R9
    · cases dd with
      | give rm t => cases hb
      | back rm =>
        refine ⟨_, _, rfl, et6.trans e8.t, el6.trans e8, by rw [etk]; exact e8.lst hB (notH_bls _), ?_⟩
        rw [etk]
        have ef : (fun j : Nat => (stAt (doneL st (.back rm)) (j : Int)).2.reverse) = fun j : Nat => (stAt st (j : Int)).2.reverse := by
          have e9 : (Deed.back rm).room = rm := rfl
          rw [e9] at rm0 rm1
          funext j
          show (stAt (st.set rm.toNat (false, (stAt st rm).2)) (j : Int)).2.reverse = _
          rw [st_at_set rm0 (by omega) (by omega)]
          by_cases hj : (j : Int) = rm
          · rw [if_pos hj, hj]
          · rw [if_neg hj]
        rw [ef]
        exact R6.le2 e8
  · rintro σ' H' ⟨y4, y5, rfl, et, el, hH, R'⟩
    rw [List.length_map, List.take_length] at hH R'
    have stl : (stF ms.length past).length = ms.length := stF_len _ _
    generalize stF ms.length past = st at *
    have rH : Rp K H' (.ref hh) (.lst ((st.map (·.1)).map D.bl)) := .lst hH (notH_bls _) (rps_bls _)
    refine s_retD (K := K) (d := eT (cutSt ms st)) (ed_eq (ed_tupOf (ed_lcR enc_R (n := ms.length) (fun _ => true) (fun i => ((stAt st (i : Int)).1, (stAt st (i : Int)).2.take (keptN ms (i : Int)))) (ea_cons (ed_eq (ed_lenL (ed_var rfl rH)) ?_) ea_nil) (by omega) (fun _ => rfl) (fun i H4 e4 hi => et_yes) fun i H4 e4 hi _ => ?_)) ?_) fun v H4 e4 r => q v _ H4 (el.trans e4) rfl r
    · simp [stl]
    · refine ed_tup (ea_cons (ed_ixL (ds := (st.map (·.1)).map D.bl) (i := (i : Int)) (ed_var rfl (rH.le e4)) (ed_var rfl (.int _)) (by omega) ?_) (ea_cons (ed_call (ea_cons (ed_row (R'.le2 e4) (i := (i : Int)) (ed_var rfl (.obj _)) (ed_var rfl (.int _)) (by omega) (by omega)) (ea_cons (ed_call (P := is (.int (keptN ms (i : Int) : Int))) (ea_cons (ed_var rfl (r1.le (el.trans e4))) (ea_cons (ed_var rfl (.int _)) ea_nil)) fun H5 e5 => ⟨a, ms, ties, (i : Int), rfl, x.le ((el.trans e4).trans e5), by omega, by omega, rfl⟩) ea_nil)) fun H5 e5 => ⟨_, keptN ms (i : Int), rfl, kept_pos _ _, ?_⟩) ea_nil)) (by show 2 ≤ 100000; decide)
      · refine map_get ?_
        rw [List.getElem?_map, st_get (by omega) (by omega)]
        rfl
      · rw [Int.toNat_natCast, List.reverse_reverse]
    · rw [List.filter_eq_self.mpr (fun _ _ => rfl)]
      unfold cutSt
      rw [stl]
end
end W1

set_option maxRecDepth 100000
set_option maxHeartbeats 4000000
/-! lists of things, all of one kind -/
namespace W1
open PySem PyProof.Rows L2
/-- what stays when what is tracked stays -/
def Mono (Pc : Pd) : Prop := ∀ d H H', Le H H' → Pc d H → Pc d H'
abbrev AllA (Pc : Pd) (n : Nat) : List D → Hp → Prop := fun xs H => xs.length = n ∧ ∀ d ∈ xs, Pc d H
abbrev AllL (Pc : Pd) (n : Nat) : Pd := fun d H => ∃ xs, d = .lst xs ∧ AllA Pc n xs H
section
variable {K : PySem.W.Frag} {σ : L2.St} {H : Hp} {te ta tb : TE} {A : TA} {Pc : Pd} {n m : Nat}
theorem ea_all0 : EA K tNil σ H (AllA Pc 0) := EA_weak ea_nil fun ds H2 p => by
  have p' : ds = [] := p
  subst p'
  exact ⟨rfl, fun d hd => nomatch hd⟩
theorem ea_allC (M : Mono Pc) (h : EP K te σ H Pc) (hr : EA K A σ H (AllA Pc n)) : EA K (tCons te A) σ H (AllA Pc (n + 1)) := EA_weak (ep_cons h hr) fun ds H2 p => by
  obtain ⟨d, r, H1, rfl, e, pd, h1, h2⟩ := p
  refine ⟨by rw [List.length_cons, h1], fun x hx => ?_⟩
  rcases List.mem_cons.mp hx with rfl | hx
  · exact M _ _ _ e pd
  · exact h2 x hx
theorem ep_allL (M : Mono Pc) (h : EA K A σ H (AllA Pc n)) (hn : n ≠ 5) (hz : n ≤ 100000) : EP K (tLst A) σ H (AllL Pc n) :=
  ep_lst h (fun ds H2 p => by rw [p.1]; exact hz) (fun ds H2 xs p r => notH_len (by rw [r.len, p.1]; exact hn)) fun ds H2 p H3 e => ⟨ds, rfl, p.1, fun d hd => M _ _ _ e (p.2 d hd)⟩
theorem AllA.mono (M : Mono Pc) {xs : List D} {H' : Hp} (e : Le H H') (h : AllA Pc n xs H) : AllA Pc n xs H' := ⟨h.1, fun d hd => M _ _ _ e (h.2 d hd)⟩
theorem ep_allCat (M : Mono Pc) (h : EP K ta σ H (AllL Pc n)) (h2 : EP K tb σ H (AllL Pc m)) (hn : n + m ≠ 5) (hz : n + m ≤ 100000) : EP K (tOp rCat ta tb) σ H (AllL Pc (n + m)) :=
  ep_op h h2 fun x y d1 d2 H1 H2 _ e12 p1 p2 r1 r2 Q q => by
    obtain ⟨ds, rfl, q1⟩ := p1
    obtain ⟨es, rfl, q2⟩ := p2
    obtain ⟨a, xs, rfl, s, nh, rr⟩ := rp_lst r1
    obtain ⟨b, ys, rfl, s2, nh2, rr2⟩ := rp_lst r2
    refine ⟨a, b, xs, ys, rfl, rfl, s, s2, by rw [rr.len, rr2.len, q1.1, q2.1]; exact Evl.sz_of hz, fun p np => ?_⟩
    have rf := (rr.app rr2).le (Le.new (o := .lst (xs ++ ys)) np)
    refine q _ (.lst (ds ++ es)) _ (Le.new np) ⟨_, rfl, by rw [List.length_append, q1.1, q2.1], fun d hd => ?_⟩ (.lst upd_same (notH_len (by rw [List.length_append, rr.len, rr2.len, q1.1, q2.1]; exact hn)) rf)
    rcases List.mem_append.mp hd with hd | hd
    · exact M _ _ _ (e12.trans (Le.new np)) (q1.2 d hd)
    · exact M _ _ _ (Le.new np) (q2.2 d hd)
theorem ep_anyH {E : XK} {h : Addr} {tl : TE} (M : Mono Pc) (hh : Hand H h) (h1 : ED K ta σ H (.obj (.ref h))) (h2 : EP K tl σ H (AllL Pc n)) (hn : 1 ≤ n) (hz : n ≤ 100000) :
    EP K (tCall (spD K R_any) [] E (tCons ta (tCons tl tNil))) σ H Pc :=
  ep_call (ep_cons h1 (ep_cons h2 ea_nil)) fun ds H2 e p => by
    obtain ⟨d1, r1, H3, rfl, e3, p1, d2, r2, H4, rfl, e4, ⟨xs, rfl, q1, q2⟩, p3⟩ := p
    have p1' : d1 = .obj (.ref h) := p1
    have p3' : r2 = [] := p3
    subst p1' p3'
    exact ⟨fun d _ => d ∈ xs, ⟨h, xs, rfl, hh.le e, (fun e => by rw [e] at q1; simp at q1; omega), by omega, rfl⟩, fun d H5 e5 hd => M _ _ _ (e4.trans e5) (q2 d hd)⟩
theorem ep_var {i : Nat} {v : V} {d : D} (M : Mono Pc) (h : σ[i]? = some (some v)) (r : Rp K H v d) (p : Pc d H) : EP K (tVar i) σ H Pc := (ed_var h r).weak fun d' H2 e p' => by
  have p'' : d' = d := p'
  subst p''
  exact M _ _ _ e p
theorem ep_of {d : D} (M : Mono Pc) (h : ED K te σ H d) (p : Pc d H) : EP K te σ H Pc := h.weak fun d' H2 e p' => by
  have p'' : d' = d := p'
  subst p''
  exact M _ _ _ e p
theorem ep_dict : EP K tDNewK σ H (fun d H => ∃ v, d = .obj v ∧ Ob H v) := fun H1 e Q q d nd => q _ (.obj (.ref d)) _ (Le.new nd) ⟨_, rfl, d, rfl, .inr upd_same⟩ (.obj _)
/-- list(a tuple), told by its kind -/
theorem ep_lstOfO (h : EP K ta σ H fun d _ => ∃ ds, d = .tup ds) : EP K (tCB (rLstOf K) (tCons ta tNil)) σ H (fun d H => ∃ v, d = .obj v ∧ Ob H v) := fun H1 e Q q => h H1 e _ fun v d H2 e2 p r => by
  obtain ⟨ds, rfl⟩ := p
  obtain ⟨a, xs, rfl, s, rr⟩ := rp_tup r
  exact ⟨a, xs, rfl, .inr s, fun l hl => q _ (.obj (.ref l)) _ (e2.trans (Le.new hl)) ⟨_, rfl, l, rfl, .inl ⟨xs, upd_same⟩⟩ (.obj _)⟩
/-! tuples of things -/
abbrev AllT (Pc : Pd) (n : Nat) : Pd := fun d H => ∃ xs, d = .tup xs ∧ xs.length ≤ n ∧ ∀ d ∈ xs, Pc d H
theorem ep_tup1 (M : Mono Pc) (h : EP K te σ H Pc) : EP K (tTup (tCons te tNil)) σ H (AllT Pc 1) :=
  ep_tup (ea_allC M h ea_all0) (fun ds H2 p => by rw [p.1]; decide) fun ds H2 p H3 e => ⟨ds, rfl, by rw [p.1]; exact Nat.le_refl _, fun d hd => M _ _ _ e (p.2 d hd)⟩
theorem ep_slP {tl th : TO} {lo hi : Option Int} (M : Mono Pc) (h : EP K ta σ H (AllT Pc n)) (h1 : EO tl σ H lo) (h2 : EO th σ H hi) : EP K (tSl (rSlA K) ta tl th) σ H (AllT Pc n) := fun H1 e Q q =>
  h H1 e _ fun v d H2 e2 p r => h1 H2 (e.trans e2) _ fun H3 e3 => h2 H3 ((e.trans e2).trans e3) _ fun H4 e4 => by
    obtain ⟨ds, rfl, hl, hp⟩ := p
    have hc : ∀ H', Le H2 H' → AllT Pc n (.tup (cutG ds lo hi)) H' := fun H' e' => ⟨_, rfl, by
      unfold cutG
      rw [List.length_take, List.length_drop]
      omega, fun d hd => M _ _ _ e' (hp d (by
      unfold cutG at hd
      exact List.mem_of_mem_drop (List.mem_of_mem_take hd)))⟩
    obtain ⟨a, xs, rfl, s, rr⟩ := rp_tup (r.le (e3.trans e4))
    refine ⟨a, xs, rfl, s, fun w => ?_, fun _ p np => ?_⟩
    · rw [rr.len] at w
      have hh := hc H4 (e3.trans e4)
      rw [cutG_all ds lo hi w] at hh
      exact q _ _ H4 ((e2.trans e3).trans e4) hh (.tup s rr)
    · exact q _ _ _ (((e2.trans e3).trans e4).trans (Le.new np)) (hc _ ((e3.trans e4).trans (Le.new np))) (.tup (Evl.st_of upd_same) ((rps_cut lo hi rr).le (Le.new np)))
theorem ep_catP (M : Mono Pc) (h : EP K ta σ H (AllT Pc n)) (h2 : EP K tb σ H (AllT Pc m)) (hz : n + m ≤ 100000) : EP K (tOp (rCatA K) ta tb) σ H (AllT Pc (n + m)) :=
  ep_op h h2 fun x y d1 d2 H1 H2 _ e12 p1 p2 r1 r2 Q q => by
    obtain ⟨ds, rfl, l1, q1⟩ := p1
    obtain ⟨es, rfl, l2, q2⟩ := p2
    obtain ⟨a, xs, rfl, s, rr⟩ := rp_tup r1
    obtain ⟨b, ys, rfl, s2, rr2⟩ := rp_tup r2
    have hc : ∀ H', Le H2 H' → AllT Pc (n + m) (.tup (ds ++ es)) H' := fun H' e' => ⟨_, rfl, by rw [List.length_append]; omega, fun d hd => by
      rcases List.mem_append.mp hd with hd | hd
      · exact M _ _ _ (e12.trans e') (q1 d hd)
      · exact M _ _ _ e' (q2 d hd)⟩
    refine ⟨a, b, xs, ys, rfl, rfl, s, s2, by rw [rr.len, rr2.len]; exact Evl.sz_of (by omega), fun e => ?_, fun _ e => ?_, fun _ _ p np => ?_⟩
    · subst e
      cases rr
      exact q _ _ H2 (Le.refl _) (hc H2 (Le.refl _)) r2
    · subst e
      cases rr2
      have hh := hc H2 (Le.refl _)
      rw [List.append_nil] at hh
      exact q _ _ H2 (Le.refl _) hh r1
    · exact q _ _ _ (Le.new np) (hc _ (Le.new np)) (.tup (Evl.st_of upd_same) ((rr.app rr2).le (Le.new np)))
theorem ep_revP (M : Mono Pc) (h : EP K ta σ H (AllT Pc n)) : EP K (tRevT K ta) σ H (AllT Pc n) := fun H1 e Q q =>
  h H1 e _ fun v d H2 e2 p r => by
    obtain ⟨ds, rfl, hl, hp⟩ := p
    obtain ⟨a, xs, rfl, s, rr⟩ := rp_tup r
    exact ⟨a, xs, rfl, s, fun p np => q _ _ _ (e2.trans (Le.new np)) ⟨_, rfl, by rw [List.length_reverse]; exact hl, fun d hd => M _ _ _ (Le.new np) (hp d (List.mem_reverse.mp hd))⟩ (.tup (Evl.st_of upd_same) ((rps_rev rr).le (Le.new np)))⟩
end
end W1

set_option maxRecDepth 100000
set_option maxHeartbeats 4000000
/-! own rule: an own error's __init__ that says super().__init__() and nothing else -/
namespace L2
open PySem PySem.Spec PySem.Calls PyProof.Rows
abbrev topE0 (i : Nat) : Stmt := PySem.Challenge.pw_staletags_k05_whole_keepers_led.main.body.getD i (.Pass ⟨0, 0, 0, 0⟩)
abbrev s_TagError___init__ : Stmt := inClass (topE0 1) 0
structure SupF (P : Program) (K : PySem.W.Frag) (mg : Str → Option Value) (D f : Addr) (fd : FuncData) : Prop where
  fn : ∃ (oc : Value) (od : Option Addr) (osl : Array (Option Value)) (kV doc pm : Value) (an : Option Addr) (cda : Addr) (ct : Value) (cc : Addr), fd = PySem.W.fnX "__init__" "TagError.__init__" (defArgs s_TagError___init__) (defBody s_TagError___init__) (defScope s_TagError___init__) [("__class__", cc)] .none kV doc pm an (.ref cda) ct ∧
    K.lookup f = some ⟨oc, od, .func fd, osl⟩ ∧ PySem.W.codeIn K (.ref cda) "TagError.__init__" = true ∧
    (∃ (ccl : Value) (cdd : Option Addr) (vs : Array Value) (ccs : Array (Option Value)) (file : Str) (tf : Tok), K.lookup cda = some ⟨ccl, cdd, .fields vs, ccs⟩ ∧ vs[2]? = some (.str file tf) ∧ ((P.main.file : Str) == file) = true) ∧
    ∃ (cl : Value) (cld : Option Addr) (csl : Array (Option Value)), K.lookup cc = some ⟨cl, cld, .cell (some (.ref D)), csl⟩
  cd : ∃ cdD, PySem.W.clsIn K D = some cdD
  op : PySem.W.nsIn K cStatics "thirdparty.any" = some none
  sup : mg "super" = none
  top : (P.main.scope.names.lookup ("super" : Str)).isSome = false
structure SupC (K : PySem.W.Frag) (D C : Addr) : Prop where
  ox : OexC K C
  sub : PySem.W.mroIn K C (.ref D) = some true
  init : PySem.W.ks_superIn K C D "__init__" = some (some (.builtin "ValueError.__init__"))
  ve : PySem.W.subIn K (.ref C) (.type "ValueError") = some true
def spSup (K : PySem.W.Frag) (D : Addr) : Sp := fun vs H Q _ => ∃ a C, vs = [.ref a] ∧ H a = some (exo a C none) ∧ SupC K D C ∧ Q .non H
theorem sup_ok {P : Program} {w : World} {K : PySem.W.Frag} {mg : Str → Option Value} {base : Heap} {D f : Addr} {fd : FuncData} {k : Nat} (S : SupF P K mg D f fd) : FnOk P w K mg base CX0 (k + 1) f fd ["self"] (spSup K D) := by
  obtain ⟨oc, od, osl, kV, doc, pm, an, cda, ct, cc, rfl, lk, hcd, ⟨ccl, cdd, vs, ccs, file, tf, lcda, hvs, hfile⟩, ⟨cl, cld, csl, lcc⟩⟩ := S.fn
  obtain ⟨cdD, hcdD⟩ := S.cd
  refine ⟨fun vs H Q E h => ?_, fun A outer s H args us vs Q E hr e0 hb r hsp => ?_⟩
  · obtain ⟨a, C, rfl, _⟩ := h
    rfl
  obtain ⟨a, C, rfl, ha, SC, q⟩ := hsp
  have hus : us = [.ref a] := by
    cases r with
    | cons h r =>
      cases r
      rw [show _ = Value.ref a from h]
  subst hus
  have KX : K.In s.heap := e0.mod.kin.keeps fun b o e => (e0.bs b o e).1
  have lim : s.heap.NoLimit := e0.mod.nolimit.keeps fun b o e => (e0.bs b o e).1
  have glob : s.heap.Ns mainGlobals mg := e0.mod.glob.keeps fun b o e => (e0.bs b o e).1
  obtain ⟨mb, hmb, hboot⟩ := e0.mod.blt
  have blt : s.heap.Ns builtinsNs mb := hmb.keeps fun b o e => (e0.bs b o e).1
  obtain ⟨t0, hx⟩ := exo_at e0.hok ha
  refine ks_codeAny_call_defAt (body := defBody s_TagError___init__) (binds := [("self", .ref a)]) hr.depth (KX _ _ lk) rfl lim (PySem.W.codeRec_of KX hcd) rfl hb (by show ∀ x ∈ (defScope s_TagError___init__).names, x.2 ≠ .cell; decide +kernel) (fun x hx => ?_) (fun h₁ hns hk₁ => ?_) rfl rfl rfl
  · rw [List.mem_singleton.mp hx]
    rfl
  refine ks_wpAt_execs_cons (ks_wpAt_Expr_any (ks_wpAt_MethodCall ?_))
  obtain ⟨s0, g, d, t, os⟩ := s
  have kk : ∀ b o, s0.get? b = some o → h₁.get? b = some o := hk₁
  have K1 : K.In h₁ := KX.keeps kk
  obtain ⟨oD, hD1, hD2⟩ : ∃ oD, h₁.get? D = some oD ∧ oD.data = .cls cdD := by
    unfold PySem.W.clsIn at hcdD
    split at hcdD
    · rename_i c d cd' sl ho
      cases hcdD
      exact ⟨_, K1 _ _ ho, rfl⟩
    · cases hcdD
  refine ks_wpAt_super_base rfl rfl rfl rfl (K1 _ _ lk) rfl rfl rfl (K1 _ _ lcda) rfl hvs hfile S.top ?_
  refine PySem.W.ks_loadName_global rfl rfl (loadGlobal_builtin (glob.keeps kk) S.sup (blt.keeps kk) ((hboot "super" (by decide)).trans (by decide +kernel)) ⟨rfl, ?_⟩)
  refine wpAny_loadName_free rfl rfl rfl ⟨_, K1 _ _ lcc, rfl⟩ ?_
  refine wpAny_loadName_local rfl rfl hns rfl ?_
  refine ks_wpAny_isType_cls hD1 hD2 ⟨rfl, ?_⟩
  refine ks_wpAny_call_super hD1 hD2 (kk _ _ hx) rfl (fun c e => nomatch e) (PySem.W.looks_mroIn K1 SC.sub) (fun h2 e2 k2 => ?_)
  have K2 : K.In h2 := K1.keeps k2
  have xa2 := k2 _ _ (kk _ _ hx)
  have I2 : PySem.W.InstAt h2 a _ C none := ⟨xa2, rfl, rfl, trivial⟩
  cases hc : PySem.W.clsIn K C with
  | none =>
    have h := SC.init
    unfold PySem.W.ks_superIn at h
    rw [hc] at h
    cases h
  | some cd =>
    have hi := SC.init
    unfold PySem.W.ks_superIn at hi
    rw [hc] at hi
    refine PySem.W.kxs_getMethod PySem.W.kxs_ValueError e2 (PySem.W.looks_opaque K2 S.op) (l₀ := cd.mro) (fun A Q E s k q => wpAny_bind ((PySem.W.looks_clsIn K2 hc) A _ E s k (wpAny_pure q))) rfl K2 hi (I2.type.andThen (PySem.W.looks_subIn K2 SC.ve)) (PySem.W.ks_ne K2 I2 hc) rfl ?_
    have k3 : ∀ b o, h2.get? b = some o → (h2.push (PySem.W.kxs_mw "ValueError.__init__" a)).get? b = some o := fun b o e => Heap.get?_push_of_some _ e
    have hu : (h2.push (PySem.W.kxs_mw "ValueError.__init__" a)).get? h2.objs.size = some (PySem.W.kxs_mw "ValueError.__init__" a) := Heap.get?_push_at rfl rfl
    refine PySem.W.kxs_callWith (i := "ValueError.__init__") (x := a) rfl (evalArgs_empty ⟨hu, ?_⟩)
    obtain ⟨nm, qn, N, bs, bm, sn, sub, ab, col, dd, k0, k1, k2', k3', k5, hC, hbm⟩ := SC.ox.cls
    refine wpAny_call (codeAny_of_tree ?_)
    show wpAny _ _ (callAny (.ref h2.objs.size) ⟨[], []⟩) _ _ _
    simp only [callAny]
    refine wpAny_bind (wpAny_load hu ?_)
    simp only [PySem.W.kxs_mw, show (Value.type "method-wrapper" == Value.type "method" || Value.type "method-wrapper" == Value.type "builtin_function_or_method" || Value.type "method-wrapper" == Value.type "method-wrapper") = true by decide, if_true]
    refine PySem.W.KFB.if_so (by decide) ?_
    refine wpAny_bind (PySem.W.check_bound_init F.excBase_ValueError.toExcCallFacts (k3 _ _ (K2 _ _ hC)) (k3 _ _ xa2) rfl ?_)
    refine wpAny_bind (wpAny_pure (wpAny_pure ?_))
    refine ⟨plainId_quiet F.excBase_ValueError.init.plain _, codeAny_builtin F.excBase_ValueError.initEntry ?_⟩
    refine PySem.W.exc_init_tree (cls := .ref C) (t0 := t0) (dv := none) (c2 := .none) (c3 := .none) (b4 := .bool false) (k3 _ _ xa2) (Nat.zero_le _) fun h' k4 ex et => ?_
    have kf : ∀ b u, b ≠ a → s0.get? b = some u → h'.get? b = some u := fun b u hb e => k4 b u hb (k3 _ _ (k2 _ _ (kk _ _ e)))
    have ao : ∃ u, h'.get? a = some u := ⟨_, ex⟩
    have mu : Mut (H a) := by
      rw [ha]
      exact True.intro
    have eu : upd H a (exo a C none) = H := by
      funext b
      by_cases hb : b = a
      · rw [hb, upd_same, ha]
      · rw [upd_ne hb]
    have un : Un (frs outer) [] H (upd H a (exo a C none)) s0 h' := Un.write mu (.inl rfl) kf ao
    have ok : HOk P w (upd H a (exo a C none)) h' := e0.hok.write mu (.inl rfl) kf ao (exo_ok ex)
    rw [eu] at un ok
    refine wpAt_of_wpAny (wpAny_execs_nil ?_)
    exact ⟨.non, H, rfl, e0.bare, un, ok, rfl, q⟩
/-- C(), an own error class whose __init__ is such: a new error, its dict none -/
theorem pe_sup0 {X : Cx} {x : Str} {D C fI : Addr} {k : Nat} {fd : FuncData} {p pos : Pos} (T : SupC X.K D C) (iC : PySem.W.findIn X.K (.ref C) "__init__" = some (some (.ref fI))) (tI : PySem.W.typeIn X.K (.ref fI) = some (.type "function"))
    (F1 : FnOk X.prog X.w X.K X.mg X.base CX0 k fI fd ["self"] (spSup X.K D)) (hr : Room (k + 1) X.A) (hb : Binds X.K fd ["self"] []) (hg : Gl X x) (hm : X.mg x = some (.ref C)) (hdb : (x == ("__debug__" : Str)) = false := by decide) :
    PE X (.Call (.Name x p) [] [] pos) (fun σ H Q => ∀ a, H a = none → Q (.ref a) (upd H a (exo a C none))) := by
  refine ⟨fun pins s σ H Q I h => ?_⟩
  obtain ⟨nm, q, N, bs, bm, sn, sub, ab, col, dd, k0, k1, k2, k3, k5, hC, hbm⟩ := T.ox.cls
  refine wpAny_Call_Name_kw (ld_glob I hg hm ?_ hdb)
  refine PySem.W.callWith_K0 I.kIn T.ox.kC ?_
  obtain ⟨hp, g, dr, tk, os⟩ := s
  have hsz : hp.objs.size ≤ hp.objs.size + 1 := Nat.le_succ _
  have hn : H (hp.objs.size + 1) = none := I.hok.fresh hsz
  have hq := h (hp.objs.size + 1) hn
  have kk : ∀ b o, hp.get? b = some o → ((hp.push (PySem.W.kdv_tup [])).push (PySem.HandSPX.excO C hp.objs.size)).get? b = some o := fun b o e => Heap.get?_push_of_some _ (Heap.get?_push_of_some _ e)
  have hget : ((hp.push (PySem.W.kdv_tup [])).push (PySem.HandSPX.excO C hp.objs.size)).get? (hp.objs.size + 1) = some (PySem.HandSPX.excO C hp.objs.size) := by heap_get
  have I2 : Inv X pins σ (upd H (hp.objs.size + 1) (exo (hp.objs.size + 1) C none)) ⟨(hp.push (PySem.W.kdv_tup [])).push (PySem.HandSPX.excO C hp.objs.size), g, dr, tk, os⟩ :=
    I.laid (t' := tk) (a := hp.objs.size + 1) (o := exo (hp.objs.size + 1) C none) (h' := (hp.push (PySem.W.kdv_tup [])).push (PySem.HandSPX.excO C hp.objs.size)) kk hsz (exo_ok hget)
  have hsp : spSup X.K D [.ref (hp.objs.size + 1)] (upd H (hp.objs.size + 1) (exo (hp.objs.size + 1) C none)) (fun v H2 => v = .non ∧ Q (.ref (hp.objs.size + 1)) H2) (fun _ _ _ => False) := ⟨_, C, rfl, upd_same, T, rfl, hq⟩
  refine wpAny_call (PySem.HandSPX.call_own F.excBase_ValueError (fun Y => PySem.HandSPX.refsVE_contains Y bm hbm) (I.kIn _ _ hC) (PySem.W.looks_findIn I.kIn iC) (fun self => PySem.W.bind_fn I.kIn self tI) (Nat.zero_le _)
    (codeAny_mono (F1.run _ X.stack _ _ ⟨Value.ref (hp.objs.size + 1) :: [], []⟩ [Value.ref (hp.objs.size + 1)] [V.ref (hp.objs.size + 1)] _ (fun _ _ _ => False) (hr.make C [] []) (I2.env0.make C [] []) (hb _ [Value.ref (hp.objs.size + 1)] I2.kIn rfl) (.cons rfl .nil) hsp) fun r s' hq' => ?_))
  cases r with
  | error er => exact hq'.elim
  | ok fl =>
    cases fl with
    | ret u =>
      obtain ⟨v, H', I3, rv, ev, q3⟩ := I2.after hq'
      subst ev
      exact ⟨rv, ⟨V.ref (hp.objs.size + 1), H', I3, rfl, q3⟩⟩
    | next => exact False.elim hq'
    | brk => exact False.elim hq'
    | cont => exact False.elim hq'
end L2

set_option maxRecDepth 100000
set_option maxHeartbeats 4000000
/-! own rules: errors of own classes held as values -/
namespace L2
open PySem PySem.Spec PySem.Calls PyProof.Rows
section
variable {X : Cx} {pins : List (Addr × Obj)} {σ : St} {H : Hp} {s : Shared}
/-- the error at a of the class C: without a dict, or with one that holds fs -/
def ErrAt (H : Hp) (a C : Addr) (fs : Option (List (Str × V))) : Prop := match fs with
  | none => H a = some (exo a C none)
  | some l => ∃ dx, H a = some (exo a C (some dx)) ∧ H dx = some (exd dx l)
theorem err_inst {a C : Addr} {fs : Option (List (Str × V))} (I : Inv X pins σ H s) (e : ErrAt H a C fs) : ∃ (oe : Obj) (od : Option Obj), PySem.W.InstAt s.heap a oe C od ∧ (fs = none → od = none) := by
  cases fs with
  | none =>
    obtain ⟨t0, hx⟩ := exo_at I.hok e
    exact ⟨_, none, ⟨hx, rfl, rfl, trivial⟩, fun _ => rfl⟩
  | some l =>
    obtain ⟨dx, e1, e2⟩ := e
    obtain ⟨t0, hx⟩ := exo_at I.hok e1
    obtain ⟨mA, hns, hr⟩ := exd_at I.hok e2
    obtain ⟨od, ho, hl⟩ := lookIn_ns hns
    exact ⟨_, some od, ⟨hx, rfl, rfl, ho⟩, fun h => nomatch h⟩
/-- isinstance(e, c), e such an error -/
def rIsX (K : PySem.W.Frag) : List V → Hp → VK → Prop := fun xs H Q => ∃ (a C : Addr) (fs : Option (List (Str × V))) (c : V) (cv : Value) (b : Bool), xs = [.ref a, c] ∧ ErrAt H a C fs ∧ ExcC K C ∧ (∀ u, RelV c u → u = cv) ∧ PySem.W.kitOne K (.ref C) cv = some b ∧ Q (.bl b) H
theorem call_isX : CallR X (.builtin "isinstance") (rIsX X.K) := by
  intro pins s σ H xs us Q I r h
  obtain ⟨a, C, fs, c, cv, b, rfl, he, T, hcv, e, q⟩ := h
  cases r with
  | cons rx rr =>
    cases rr with
    | cons rt rr =>
      cases rr
      cases rx
      have ec := hcv _ rt
      subst ec
      obtain ⟨oe, od, J, _⟩ := err_inst I he
      have hcl : (PySem.W.clsIn X.K C).isSome = true := by
        obtain ⟨cd, hc, _⟩ := PySem.W.any_some T.hd
        rw [hc]
        rfl
      exact PySem.W.kia_one (PySem.W.kitx_exc hcl T.hg T.hk T.hs T.ha T.hn T.ht T.hm) I.kIn J e (fun z => nomatch z) fun tk => ⟨.bl b, H, I.kept (t' := tk) fun _ _ z => z, rfl, q⟩
/-- e.f, e such an error -/
def tXv (K : PySem.W.Frag) (te : TE) (n : Str) : TE := fun σ H Q => te σ H fun x H1 => ∃ (a C : Addr) (fs : List (Str × V)) (v : V), x = .ref a ∧ ErrAt H1 a C (some fs) ∧ XfC K C ∧ PySem.W.findIn K (.ref C) n = some none ∧ fs.lookup n = some v ∧ Q v H1
theorem pe_xv {e : Expr} {te : TE} {pos : Pos} {n : Str} (he : PE X e te) (hb : attributeBase e n X.env (eval e X.env) = eval e X.env) : PE X (.Attribute e n pos) (tXv X.K te n) := by
  refine ⟨fun pins s σ H Q I h => ?_⟩
  refine attr_of hb (thn (he.run pins s σ H _ I h) fun u s1 hh => ?_)
  obtain ⟨x, H1, I1, rx, a, C, fs, v, ex, ⟨dx, e1, e2⟩, T, hno, l, q⟩ := hh
  subst ex
  obtain rfl : u = Value.ref a := rx
  obtain ⟨t0, ha⟩ := exo_at I1.hok e1
  obtain ⟨mA, hns, hr⟩ := exd_at I1.hok e2
  obtain ⟨od, ho, hl⟩ := lookIn_ns hns
  obtain ⟨u, hu, ru⟩ := RelO.some_of (v := v) (o := mA n) (by rw [← l]; exact hr n)
  have J : PySem.W.InstAt s1.heap a _ C (some od) := ⟨ha, rfl, rfl, ho⟩
  exact HandSPX.exc_get I1.kIn J T.ga T.gg T.exC (PySem.W.findObj_own T.hdC hno rfl (by rw [hl, hu])) (handed_of ru) ⟨v, H1, I1.tok _, ru, q⟩
/-- raise e, e such an error without a dict -/
theorem pmk_exo {e : Expr} {te : TE} (hx : X.ex = []) (he : PE X e te) :
    PMk X e (fun σ H Q => te σ H fun x H1 => ∃ a C, x = .ref a ∧ H1 a = some (exo a C none) ∧ Fr0 X.H_0 a ∧ Raises X (.ref C) ∧ Q (.ref C) none (delH H1 a)) := by
  intro pins s σ H Q I h
  refine wpAny_mono (he.run pins s σ H _ I h) (fun u s1 hu => ?_) fun _ _ x => x
  obtain ⟨v, H1, I1, r1, a, C, rfl, ha, h0, hr, q⟩ := hu
  cases r1
  obtain ⟨t0, ho⟩ := exo_at I1.hok ha
  obtain ⟨G, gs, ga, J⟩ := I1.untrack ha h0 hx
  exact ⟨a, _, _, { s1 with heap := G }, delH H1 a, .ref C, none, rfl, J, gs, ga, ho, ⟨rfl, rfl⟩, rfl, rfl, delH_same, rfl, I1.bare, hr, q⟩
end
/-- C(e, ..), C's own __init__ keeping sp, as a value -/
theorem pe_ovx {X : Cx} {CX : CXT} {x : Str} {C fI : Addr} {k : Nat} {fd : FuncData} {ps : List Str} {sp : Sp} {e : Expr} {es : List Expr} {ta : TA} {p pos : Pos} (T : OexC X.K C) (iC : PySem.W.findIn X.K (.ref C) "__init__" = some (some (.ref fI))) (tI : PySem.W.typeIn X.K (.ref fI) = some (.type "function"))
    (F1 : FnOk X.prog X.w X.K X.mg X.base CX k fI fd ps sp) (hr : Room (k + 1) X.A) (hb : Binds X.K fd ps []) (hx : Passes CX X (fun _ _ _ => False)) (hg : Gl X x) (hm : X.mg x = some (.ref C)) (ha : PA X (e :: es) ta)
    (hdb : (x == ("__debug__" : Str)) = false := by decide) (he : starEach (e :: es) X.env = (false, eval e X.env) :: starEach es X.env := by rfl) (hpl : (backTo pos (starEach es X.env)).any (·.1) = false := by rfl) :
    PE X (.Call (.Name x p) (e :: es) [] pos) (fun σ H Q => ta σ H fun vs H1 => vs.length ≤ 1000 ∧ ∀ a, H1 a = none → sp (.ref a :: vs) (upd H1 a (exo a C none)) (fun v H2 => v = .non ∧ Q (.ref a) H2) (fun _ _ _ => False)) := by
  refine ⟨fun pins s σ H Q I h => ?_⟩
  obtain ⟨nm, q, N, bs, bm, sn, sub, ab, col, dd, k0, k1, k2, k3, k5, hC, hbm⟩ := T.cls
  refine wpAny_Call_Name_kw (ld_glob I hg hm ?_ hdb)
  refine PySem.W.callWith_K (h₀ := X.base) I.ok.mod.kin T.kC (thn (ha.run pos pins s σ H _ I h) fun us s1 ⟨vs, H1, I1, r1, hz, q1⟩ => ⟨I1.kIn, ?_⟩) he hpl
  show wpAny _ _ (call (.ref C) us) _ _ _
  obtain ⟨hp, g, dr, tk, os⟩ := s1
  have hn : H1 (hp.objs.size + 1) = none := I1.hok.fresh (Nat.le_succ _)
  have hq := q1 (hp.objs.size + 1) hn
  have hget : ((hp.push (PySem.W.kdv_tup us)).push (PySem.HandSPX.excO C hp.objs.size)).get? (hp.objs.size + 1) = some (PySem.HandSPX.excO C hp.objs.size) := by heap_get
  have I2 : Inv X pins σ (upd H1 (hp.objs.size + 1) (exo (hp.objs.size + 1) C none)) ⟨(hp.push (PySem.W.kdv_tup us)).push (PySem.HandSPX.excO C hp.objs.size), g, dr, tk, os⟩ :=
    I1.laid (t' := tk) (o := exo (hp.objs.size + 1) C none) (fun b o e => Heap.get?_push_of_some _ (Heap.get?_push_of_some _ e)) (Nat.le_succ _) (exo_ok hget)
  have r2 : Vals (V.ref (hp.objs.size + 1) :: vs) (Value.ref (hp.objs.size + 1) :: us) := .cons rfl r1
  have hl : (Value.ref (hp.objs.size + 1) :: us).length = ps.length := by
    have e := r2.length
    rw [F1.len _ _ _ _ hq] at e
    exact e.symm
  have hus : us.length ≤ sizeLine := by
    rw [← Paired.length r1, sizeLine_eq]
    omega
  have hbt := hb ⟨(hp.push (PySem.W.kdv_tup us)).push (PySem.HandSPX.excO C hp.objs.size), g, dr, tk, os⟩ (Value.ref (hp.objs.size + 1) :: us) I2.kIn (by rw [List.append_nil]; exact hl)
  rw [List.append_nil] at hbt
  refine wpAny_call (PySem.HandSPX.call_own F.excBase_ValueError (fun Y => PySem.HandSPX.refsVE_contains Y bm hbm) (I1.kIn _ _ hC) (PySem.W.looks_findIn I1.kIn iC) (fun self => PySem.W.bind_fn I1.kIn self tI) hus
    (codeAny_mono (F1.run _ X.stack _ _ ⟨Value.ref (hp.objs.size + 1) :: us, []⟩ (Value.ref (hp.objs.size + 1) :: us) _ _ (fun _ _ _ => False) (hr.make C us []) (I2.env0.make C us []) hbt r2 hq) fun r s' hq' => ?_))
  cases r with
  | error er => exact hx pins σ _ _ er s' I2 hq'
  | ok fl =>
    cases fl with
    | ret u =>
      obtain ⟨v, H', I3, rv, ev, q3⟩ := I2.after hq'
      subst ev
      exact ⟨rv, ⟨V.ref (hp.objs.size + 1), H', I3, rfl, q3⟩⟩
    | next => exact False.elim hq'
    | brk => exact False.elim hq'
    | cont => exact False.elim hq'
end L2

set_option maxRecDepth 100000
set_option maxHeartbeats 4000000
namespace W1
open PySem PySem.Spec PyProof.Rows L2
theorem Le.ext {H H' : Hp} {a : Addr} {φ : Heap → Prop} (e : Le H H') (h : H a = some (.ext φ)) : H' a = some (.ext φ) := by
  rcases e a _ h with h1 | ⟨_, _, _, _, _, _, _, _, _, z, _⟩
  · exact h1
  · cases z
theorem Le.err {H H' : Hp} {a C : Addr} {fs : Option (List (Str × V))} (e : Le H H') (h : ErrAt H a C fs) : ErrAt H' a C fs := by
  cases fs with
  | none => exact e.ext h
  | some l =>
    obtain ⟨dx, h1, h2⟩ := h
    exact ⟨dx, e.ext h1, e.ext h2⟩
/-- an __init__ that keeps its argument -/
def spFld (K : PySem.W.Frag) (f : Str) : Sp := fun vs H Q _ => ∃ a C v, vs = [.ref a, v] ∧ H a = some (exo a C none) ∧ OexC K C ∧ PySem.W.findIn K (.ref C) f = some none ∧ ∀ dx, H dx = none → dx ≠ a → Q .non (upd (upd H dx (exd dx [(f, v)])) a (exo a C (some dx)))
inductive Errs (H : Hp) : List D → List Addr → Prop
  | nil : Errs H [] []
  | cons {a C : Addr} {fs : Option (List (Str × V))} {ds : List D} {Cl : List Addr} : ErrAt H a C fs → Errs H ds Cl → Errs H (.obj (.ref a) :: ds) (C :: Cl)
theorem Errs.le {H H' : Hp} (e : Le H H') : ∀ {ds : List D} {Cl : List Addr}, Errs H ds Cl → Errs H' ds Cl
  | _, _, .nil => .nil
  | _, _, .cons h r => .cons (e.err h) (Errs.le e r)
theorem Errs.app {H : Hp} : ∀ {ds es : List D} {Cl Dl : List Addr}, Errs H ds Cl → Errs H es Dl → Errs H (ds ++ es) (Cl ++ Dl)
  | _, _, _, _, .nil, s => s
  | _, _, _, _, .cons h r, s => .cons h (Errs.app r s)
theorem Errs.len {H : Hp} : ∀ {ds : List D} {Cl : List Addr}, Errs H ds Cl → ds.length = Cl.length
  | _, _, .nil => rfl
  | _, _, .cons _ r => by rw [List.length_cons, List.length_cons, Errs.len r]
theorem Errs.at {H : Hp} : ∀ {ds : List D} {Cl : List Addr} {i : Nat} {d : D}, Errs H ds Cl → ds[i]? = some d → ∃ a C fs, d = .obj (.ref a) ∧ Cl[i]? = some C ∧ ErrAt H a C fs
  | _, _, _, _, .nil, h => by simp at h
  | _, _, 0, _, .cons h _, e => by
    simp at e
    exact ⟨_, _, _, e.symm, rfl, h⟩
  | _, _, i + 1, d, .cons _ r, e => by
    obtain ⟨a, C, fs, h1, h2, h3⟩ := Errs.at (i := i) (d := d) r (by simpa using e)
    exact ⟨a, C, fs, h1, by simpa using h2, h3⟩
theorem Errs.nh {K : PySem.W.Frag} {H H' : Hp} {ds : List D} {Cl : List Addr} {xs : List V} (h : Errs H ds Cl) (r : Rps K H' xs ds) : NotH xs := notH_of fun v hv i e => by
  obtain ⟨d, h1, h2⟩ := r.at' hv
  obtain ⟨a, C, fs, rfl, _⟩ := h.at h1
  rw [rp_obj h2] at e
  cases e
section
variable {K : PySem.W.Frag} {σ : L2.St} {H : Hp} {ta tb te : TE} {C : Addr} {f : Str} {d0 : D} {Cl Dl : List Addr} {D1 : Ends} {tu tz : TS}
abbrev ErrP (C : Addr) : Pd := fun d H => ∃ a fs, d = .obj (.ref a) ∧ ErrAt H a C fs
/-- C() -/
theorem ep_mk0 : EP K (fun _ H Q => ∀ a, H a = none → Q (.ref a) (upd H a (exo a C none))) σ H (ErrP C) := fun H1 e Q q a na => q _ (.obj (.ref a)) _ (Le.new na) ⟨a, none, rfl, upd_same⟩ (.obj _)
abbrev tMkF (K : PySem.W.Frag) (C : Addr) (f : Str) (A : TA) : TE := fun σ H Q => A σ H fun vs H1 => vs.length ≤ 1000 ∧ ∀ a, H1 a = none → spFld K f (.ref a :: vs) (upd H1 a (exo a C none)) (fun v H2 => v = .non ∧ Q (.ref a) H2) (fun _ _ _ => False)
/-- C(e), and what it holds -/
theorem ep_mkF (T : OexC K C) (hno : PySem.W.findIn K (.ref C) f = some none) (h : ED K te σ H d0) : EP K (tMkF K C f (tCons te tNil)) σ H (fun d H => ∃ a v, d = .obj (.ref a) ∧ ErrAt H a C (some [(f, v)]) ∧ Rp K H v d0) := fun H1 e Q q => ea_cons h ea_nil H1 e _ fun vs es H2 e2 p r => by
  have p' : es = [d0] := p
  subst p'
  obtain ⟨v, rfl, r1⟩ := rps1 r
  refine ⟨by show 1 ≤ 1000; decide, fun a na => ⟨a, C, v, rfl, upd_same, T, hno, fun dx hdx hne => ⟨rfl, ?_⟩⟩⟩
  have hd : H2 dx = none := by
    rw [upd_ne hne] at hdx
    exact hdx
  have l2 : Le H2 (upd (upd (upd H2 a (exo a C none)) dx (exd dx [(f, v)])) a (exo a C (some dx))) := (((Le.refl H2).mut na).mut hd).mut na
  exact q _ (.obj (.ref a)) _ (e2.trans l2) ⟨a, v, rfl, ⟨dx, upd_same, by rw [upd_ne hne, upd_same]⟩, r1.le l2⟩ (.obj _)
theorem ep_mkE (T : OexC K C) (hno : PySem.W.findIn K (.ref C) f = some none) (h : ED K te σ H d0) : EP K (tMkF K C f (tCons te tNil)) σ H (ErrP C) := (ep_mkF T hno h).weak fun d H2 _ ⟨a, v, e1, e2, _⟩ => ⟨a, _, e1, e2⟩
/-- C(e).f -/
theorem ed_mkG (T : OexC K C) (X : XfC K C) (hno : PySem.W.findIn K (.ref C) f = some none) (h : ED K te σ H d0) : ED K (tXv K (tMkF K C f (tCons te tNil)) f) σ H d0 := by
  intro H1 e Q q
  unfold tXv
  refine ep_mkF T hno h H1 e _ fun v d H2 e2 p r => ?_
  obtain ⟨a, u, rfl, he, ru⟩ := p
  have ev := rp_obj r
  subst ev
  exact ⟨a, C, _, u, rfl, he, X, hno, by simp, q _ _ H2 e2 rfl ru⟩
/-- isinstance(e, c) -/
theorem ed_isX {c : V} {cv : Value} {b : Bool} {a : Addr} {fs : Option (List (Str × V))} (h : ED K te σ H (.obj (.ref a))) (he : ErrAt H a C fs) (T : ExcC K C) (hc : ∀ u, RelV c u → u = cv) (hk : PySem.W.kitOne K (.ref C) cv = some b) : ED K (tCB (rIsX K) (tCons te (tCons (tC c) tNil))) σ H (.bl b) := fun H1 e Q q => h H1 e _ fun v d H2 e2 p r => by
  have p' : d = .obj (.ref a) := p
  subst p'
  exact ⟨a, C, fs, c, cv, b, by rw [rp_obj r], (e.trans e2).err he, T, hc, hk, q _ _ H2 e2 rfl (.bl _)⟩
theorem ep_isX {c : V} {cv : Value} {b : Bool} (h : EP K te σ H (ErrP C)) (T : ExcC K C) (hc : ∀ u, RelV c u → u = cv) (hk : PySem.W.kitOne K (.ref C) cv = some b) : ED K (tCB (rIsX K) (tCons te (tCons (tC c) tNil))) σ H (.bl b) := fun H1 e Q q => h H1 e _ fun v d H2 e2 p r => by
  obtain ⟨a, fs, rfl, he⟩ := p
  exact ⟨a, C, fs, c, cv, b, by rw [rp_obj r], he, T, hc, hk, q _ _ H2 e2 rfl (.bl _)⟩
theorem ea_errs {A : TA} (h : EP K te σ H (ErrP C)) (hr : EA K A σ H (fun ds H => Errs H ds Cl)) : EA K (tCons te A) σ H (fun ds H => Errs H ds (C :: Cl)) := EA_weak (ep_cons h hr) fun ds H2 p => by
  obtain ⟨d, r, H1, rfl, e, ⟨a, fs, rfl, he⟩, hr⟩ := p
  exact .cons (e.err he) hr
theorem ea_errs0 : EA K tNil σ H (fun ds H => Errs H ds []) := EA_weak ea_nil fun ds H2 p => by
  have p' : ds = [] := p
  subst p'
  exact .nil
abbrev ErrsP (Cl : List Addr) : Pd := fun d H => ∃ ds, d = .lst ds ∧ Errs H ds Cl
theorem ep_errs {A : TA} (h : EA K A σ H (fun ds H => Errs H ds Cl)) (hl : Cl.length ≤ 100000) : EP K (tLst A) σ H (ErrsP Cl) := ep_lst h (fun ds H2 p => by rw [p.len]; exact hl) (fun ds H2 xs p r => p.nh r) fun ds H2 p H3 e => ⟨ds, rfl, p.le e⟩
theorem ep_errsCat (h : EP K ta σ H (ErrsP Cl)) (h2 : EP K tb σ H (ErrsP Dl)) (hl : Cl.length + Dl.length ≤ 100000) : EP K (tOp rCat ta tb) σ H (ErrsP (Cl ++ Dl)) :=
  ep_op h h2 fun x y d1 d2 H1 H2 _ e12 p1 p2 r1 r2 Q q => by
    obtain ⟨ds, rfl, q1⟩ := p1
    obtain ⟨es, rfl, q2⟩ := p2
    obtain ⟨a, xs, rfl, s, nh, rr⟩ := rp_lst r1
    obtain ⟨b, ys, rfl, s2, nh2, rr2⟩ := rp_lst r2
    refine ⟨a, b, xs, ys, rfl, rfl, s, s2, by rw [rr.len, rr2.len, q1.len, q2.len]; exact Evl.sz_of hl, fun p np => ?_⟩
    have E := ((q1.le e12).app q2).le (Le.new (o := .lst (xs ++ ys)) np)
    have rf := (rr.app rr2).le (Le.new (o := .lst (xs ++ ys)) np)
    exact q _ (.lst (ds ++ es)) _ (Le.new np) ⟨_, rfl, E⟩ (.lst upd_same (E.nh rf) rf)
/-- for i, x in enumerate(a list), where all that is tracked stays -/
theorem s_forEL {A : TA} {j l : Nat} {ds : List D} (h : EDA K A σ H [.lst ds])
    (k : ∀ H1, Le H H1 → ∃ Pv : Nat → L2.St → Hp → Prop, Pv 0 σ H1 ∧ (∀ i σ' H', i ≤ ds.length → Pv i σ' H' → Le H1 H') ∧
      (∀ (i : Nat) d v σ' H' H2, ds[i]? = some d → Pv i σ' H' → Le H' H2 → Rp K H2 v d → tu (bodyEnds D1 (Pv (i + 1))) ((σ'.set j (some (.int (i : Int)))).set l (some v)) H2) ∧ ∀ σ' H', Pv ds.length σ' H' → D1.nx σ' H') :
    tFor (iEnum K A) (gTup K 2 (gCons (gName j) (gCons (gName l) gNil))) tu D1 σ H := h H (Le.refl _) _ fun vs es H1 e p r => by
  have p' : es = [.lst ds] := p
  subst p'
  cases r with
  | cons r1 r =>
    cases r
    obtain ⟨a, xs, rfl, s, nh, rr⟩ := rp_lst r1
    obtain ⟨Pv, h0, hle, hs, hd⟩ := k H1 e
    refine ⟨a, xs, rfl, SqL.of s, for_it (walk_enum (xs := xs)) Pv h0 (fun i σ' H' hi q => SqL.of ((hle i σ' H' (by rw [← rr.len]; exact hi) q).lst s nh)) ?_ (fun σ' H' q => hd σ' H' (by rw [← rr.len]; exact q))⟩
    rintro i x σ' H' H2 hi q ⟨T, x1, x2, rfl, nT, rfl, f1, f2⟩
    have ex : x1 = .int (i : Nat) := (Option.some.inj f1).symm
    subst ex
    obtain ⟨d, h1, h2⟩ := rr.at' f2
    have e2 : Le H' (upd H' T (.tup [.int (i : Nat), x2])) := Le.new nT
    exact ⟨T, _, rfl, Evl.st_of upd_same, rfl, _, _, rfl, _, _, rfl, rfl, hs i d x2 σ' _ _ h1 q e2 ((h2.le (hle i σ' _ (by rw [← rr.len]; omega) q)).le e2)⟩
theorem q_forEL {A : TA} {j l : Nat} {ds : List D} (h : EDA K A σ H [.lst ds])
    (k : ∀ H1, Le H H1 → ∃ Pv : Nat → L2.St → Hp → Prop, Pv 0 σ H1 ∧ (∀ i σ' H', i ≤ ds.length → Pv i σ' H' → Le H1 H') ∧
      (∀ (i : Nat) d v σ' H' H2, ds[i]? = some d → Pv i σ' H' → Le H' H2 → Rp K H2 v d → tu (bodyEnds { D1 with nx := tz D1 } (Pv (i + 1))) ((σ'.set j (some (.int (i : Int)))).set l (some v)) H2) ∧ ∀ σ' H', Pv ds.length σ' H' → tz D1 σ' H') :
    tSeq (tFor (iEnum K A) (gTup K 2 (gCons (gName j) (gCons (gName l) gNil))) tu) tz D1 σ H := s_forEL (D1 := { D1 with nx := tz D1 }) h k
end
end W1

set_option maxRecDepth 100000
set_option maxHeartbeats 4000000
namespace W1
open PySem PyProof.Rows L2
theorem st_ext {a b : St1} (hl : a.length = b.length) (h : ∀ j : Nat, j < a.length → stAt a (j : Int) = stAt b (j : Int)) : a = b := by
  refine List.ext_getElem? fun j => ?_
  by_cases hj : j < a.length
  · have h1 := st_get (st := a) (r := (j : Int)) (by omega) (by omega)
    have h2 := st_get (st := b) (r := (j : Int)) (by omega) (by omega)
    rw [Int.toNat_natCast] at h1 h2
    rw [h1, h2, h j hj]
  · rw [List.getElem?_eq_none (by omega), List.getElem?_eq_none (by omega)]
theorem cut_len (ms : List Int) (st : St1) : (cutSt ms st).length = st.length := by
  unfold cutSt
  rw [List.length_map, List.length_range]
theorem cut_at (ms : List Int) (st : St1) {j : Int} (h0 : 0 ≤ j) (h1 : j < st.length) : stAt (cutSt ms st) j = ((stAt st j).1, (stAt st j).2.take (keptN ms j)) := by
  have e : ((j.toNat : Nat) : Int) = j := by omega
  have h2 : j.toNat < st.length := by omega
  have h3 : (cutSt ms st)[j.toNat]? = some ((stAt st j).1, (stAt st j).2.take (keptN ms j)) := by
    unfold cutSt
    rw [List.getElem?_map, List.getElem?_range h2]
    show some ((stAt st ((j.toNat : Nat) : Int)).1, (stAt st ((j.toNat : Nat) : Int)).2.take (keptN ms ((j.toNat : Nat) : Int))) = _
    rw [e]
  rw [show stAt (cutSt ms st) j = ((cutSt ms st)[j.toNat]?).getD (false, []) from rfl, h3]
  rfl
theorem cut_start (ms : List Int) (n : Nat) : cutSt ms (List.replicate n (false, [])) = List.replicate n (false, []) := by
  refine st_ext (by rw [cut_len]) fun j hj => ?_
  rw [cut_len] at hj
  rw [cut_at ms _ (by omega) (by omega), st_at_rep]
  dsimp only
  rw [List.take_nil]
theorem take_cons_take {α : Type} (t : α) (l : List α) {k : Nat} (h : 1 ≤ k) : (t :: l.take k).take k = (t :: l).take k := by
  obtain ⟨m, rfl⟩ : ∃ m, k = m + 1 := ⟨k - 1, by omega⟩
  rw [List.take_succ_cons, List.take_succ_cons, List.take_take, Nat.min_eq_left (Nat.le_succ m)]
theorem cut_wd {ms : List Int} {st : St1} {dd : Deed} (h0 : 0 ≤ dd.room) (h1 : dd.room < st.length) : wdL ms (cutSt ms st) dd = cutSt ms (doneL st dd) := by
  refine st_ext (by rw [wdL_len, cut_len, cut_len, doneL_len]) fun j hj => ?_
  rw [wdL_len, cut_len] at hj
  rw [cut_at ms (doneL st dd) (by omega) (by rw [doneL_len]; omega), wdL_eq, doneL_eq, st_at_set h0 (by rw [cut_len]; exact h1) (by omega), st_at_set h0 h1 (by omega)]
  by_cases hr : (j : Int) = dd.room
  · rw [if_pos hr, if_pos hr, hr]
    cases dd with
    | give r t =>
      show (true, (t :: (stAt (cutSt ms st) r).2).take (keptN ms r)) = (true, (t :: (stAt st r).2).take (keptN ms r))
      rw [cut_at ms st (j := r) h0 h1, take_cons_take _ _ (kept_pos ms r)]
    | back r =>
      show (false, (stAt (cutSt ms st) r).2) = (false, (stAt st r).2.take (keptN ms r))
      rw [cut_at ms st (j := r) h0 h1]
  · rw [if_neg hr, if_neg hr, cut_at ms st (by omega) (by omega)]
theorem cut_bars {ms : List Int} {ties : List (Int × Int)} {st : St1} {r : Int} (ok : PartsOk ms ties) (hl : st.length = ms.length) (h0 : 0 ≤ r) (h1 : r < ms.length) : barsL ms ties (cutSt ms st) r = barsL ms ties st r := by
  have e1 : ownL ms (cutSt ms st) r = ownL ms st r := by
    unfold ownL
    rw [cut_at ms st h0 (by omega), List.take_take]
    congr 1
    refine Nat.min_eq_left ?_
    unfold keptN
    split <;> omega
  have e2 : ∀ o ∈ rawNear ties r, shownL (stAt (cutSt ms st) o) = shownL (stAt st o) := fun o ho => by
    obtain ⟨o0, o1⟩ := near_in ok ho
    unfold shownL
    rw [cut_at ms st o0 (by omega), List.take_take, Nat.min_eq_left (kept_pos ms o)]
  unfold barsL
  rw [e1]
  congr 1
  unfold List.flatMap
  rw [List.map_congr_left e2]
theorem cut_bad {ms : List Int} {ties : List (Int × Int)} {st : St1} {dd : Deed} (ok : PartsOk ms ties) (hl : st.length = ms.length) (h0 : 0 ≤ dd.room) (h1 : dd.room < ms.length) : bad ms ties (cutSt ms st) dd = bad ms ties st dd := by
  cases dd with
  | give r t =>
    show decide (t ∈ barsL ms ties (cutSt ms st) r) = decide (t ∈ barsL ms ties st r)
    rw [cut_bars (r := r) ok hl h0 h1]
  | back r => rfl
theorem stF_shown (n : Nat) : ∀ (m : Nat) (p : List Deed), p.length = m → ∀ x ∈ stF n p, x.1 = true → x.2 ≠ [] := by
  intro m
  induction m with
  | zero =>
    intro p hp x hx
    have : p = [] := List.length_eq_zero_iff.mp hp
    subst this
    rw [List.eq_of_mem_replicate hx]
    exact fun h => nomatch h
  | succ m ih =>
    intro p hp x hx
    obtain ⟨p', d, rfl⟩ : ∃ p' d, p = p' ++ [d] := ⟨p.dropLast, p.getLast (fun e => by rw [e] at hp; cases hp), (List.dropLast_concat_getLast _).symm⟩
    rw [stF_more, doneL_eq] at hx
    rcases mem_set_of hx with rfl | hx
    · cases d with
      | give r t => exact fun _ e => nomatch e
      | back r => exact fun e => nomatch e
    · exact ih p' (by rw [List.length_append] at hp; exact Nat.succ.inj hp) x hx
theorem stF_ok {n : Nat} {p : List Deed} (hn : n ≤ 60) (hp : p.length ≤ 5000) (hr : ∀ d ∈ p, 0 ≤ d.room ∧ d.room < n) : StOk (stF n p) := by
  refine ⟨by rw [stF_len]; exact hn, stF_shown n _ p rfl, fun x hx => ?_⟩
  obtain ⟨i, hi⟩ := List.mem_iff_getElem?.mp hx
  have e : stAt (stF n p) (i : Int) = x := by
    unfold stAt
    rw [Int.toNat_natCast, hi]
    rfl
  rw [← e]
  exact Nat.le_trans (st_tags_len n p hr _) hp
theorem cut_ok {ms : List Int} {st : St1} (ok : StOk st) : StOk (cutSt ms st) := by
  have key : ∀ x ∈ cutSt ms st, ∃ y ∈ st, ∃ k, 1 ≤ k ∧ x = (y.1, y.2.take k) := fun x hx => by
    obtain ⟨i, hi, rfl⟩ := List.mem_map.mp hx
    have := List.mem_range.mp hi
    exact ⟨stAt st (i : Int), st_mem (by omega) (by omega), _, kept_pos ms _, rfl⟩
  refine ⟨by rw [cut_len]; exact ok.few, fun x hx hb => ?_, fun x hx => ?_⟩
  · obtain ⟨y, hy, k, hk, rfl⟩ := key x hx
    have := ok.shown y hy hb
    obtain ⟨m, rfl⟩ : ∃ m, k = m + 1 := ⟨k - 1, by omega⟩
    cases h : y.2 with
    | nil => exact absurd h this
    | cons t ts => exact fun e => nomatch e
  · obtain ⟨y, hy, k, hk, rfl⟩ := key x hx
    exact Nat.le_trans (List.length_take_le' _ _) (ok.tags y hy)
end W1

set_option maxRecDepth 100000
set_option maxHeartbeats 4000000
namespace W1
open PySem PyProof.Rows L2
local macro_rules | `(tactic| walk_at "rp") => `(tactic| first | assumption | exact Rp.int _ | exact Rp.bl _ | exact Rp.str _ | exact Rp.non | exact Rp.obj _ | (refine Rp.le (by assumption) ?_; walk_at "rp"))
local macro_rules | `(tactic| walk_at "ed") => `(tactic| first
  | exact ed_int | exact ed_str | exact ed_bl | exact ed_non
  | (refine ed_var rfl ?_; walk_at "rp")
  | (refine ed_ixT (ds := [_, _]) ?_ ed_int (by decide) rfl; walk_at "ed")
  | (refine ed_I0 ?_ ?_ <;> walk_at "ed")
  | (refine ed_B0 ?_ ?_ <;> walk_at "ed")
  | (refine ed_eqS ?_ ?_ rfl rfl rfl <;> walk_at "ed")
  | assumption)
local macro_rules | `(tactic| walk_at "ea") => `(tactic| first | exact ea_nil | (refine ea_cons ?_ ?_; walk_at "ed"; walk_at "ea"))

abbrev s_is_ask : Stmt := topS 24
abbrev N_is_ask : List Str := ["web", "standing", "thing", "word", "room", "held"]
theorem sc_is_ask : FnScope N_is_ask ["web", "standing", "thing"] (defScope s_is_ask) := ⟨rfl, rfl, rfl, by decide +kernel, rfl, by decide +kernel, by decide +kernel⟩
structure HTxt (mg : Str → Option Value) : Prop extends GTxt mg where
  n_zip : mg "zip" = none
  n_str : mg "str" = none
  n_ValueError : mg "ValueError" = none
  g_tags : ∃ u, mg "MOST_TAGS" = some u ∧ RelV (.int 200) u
/-! ### asks and deeds as data -/
def numB : D → Bool
  | .int i => decide (0 ≤ i)
  | _ => false
def askB (st : St1) : List D → Bool
  | [.str w, .int r] => decide (0 ≤ r) && decide (r < st.length) && decide (w = (if (stAt st r).1 = true then ("back" : Str) else "give"))
  | _ => false
/-- the deed that a thing is, where the rooms are so -/
def dOf (st : St1) : D → Option Deed
  | .tup [.str w, .int r] => if askB st [.str w, .int r] = true ∧ w = "back" then some (.back r) else none
  | .tup [.str w, .int r, .int t] => if askB st [.str w, .int r] = true ∧ w ≠ "back" ∧ 0 ≤ t then some (.give r t) else none
  | _ => none
structure DOk (st : St1) (dd : Deed) : Prop where
  r0 : 0 ≤ dd.room
  r1 : dd.room < st.length
  fl : (stAt st dd.room).1 = !isG dd
  t0 : ∀ r t, dd = .give r t → 0 ≤ t
theorem askB_iff {st : St1} {w : Str} {r : Int} : askB st [.str w, .int r] = true ↔ 0 ≤ r ∧ r < st.length ∧ w = (if (stAt st r).1 = true then ("back" : Str) else "give") := by
  unfold askB
  rw [Bool.and_eq_true, Bool.and_eq_true, decide_eq_true_iff, decide_eq_true_iff, decide_eq_true_iff, and_assoc]
theorem vs_int (i j : Int) : decide (vOf (.int i) = vOf (.int j)) = decide (i = j) := by
  show decide (V.int i = V.int j) = decide (i = j)
  rw [decide_eq_decide]
  exact ⟨fun h => by injection h, fun h => by rw [h]⟩
theorem ne_gb : ("give" : Str) ≠ "back" := by decide +kernel
theorem askB_not {st : St1} {xs : List D} (h : ∀ w r, xs ≠ [.str w, .int r]) : askB st xs = false := by
  unfold askB
  split
  · exact absurd rfl (h _ _)
  · rfl
theorem dOf_ok {st : St1} {d : D} {dd : Deed} (h : dOf st d = some dd) : d = eD dd ∧ DOk st dd := by
  unfold dOf at h
  split at h
  · rename_i w r
    split at h
    · rename_i hc
      cases h
      obtain ⟨h0, h1, h2⟩ := askB_iff.mp hc.1
      have hb := hc.2
      subst hb
      refine ⟨rfl, h0, h1, ?_, fun _ _ e => nomatch e⟩
      show (stAt st r).1 = true
      cases hs : (stAt st r).1 with
      | true => rfl
      | false =>
        rw [hs] at h2
        exact absurd h2.symm ne_gb
    · cases h
  · rename_i w r t
    split at h
    · rename_i hc
      cases h
      obtain ⟨h0, h1, h2⟩ := askB_iff.mp hc.1
      have hs : (stAt st r).1 = false := by
        cases hs : (stAt st r).1 with
        | false => rfl
        | true =>
          rw [hs] at h2
          exact absurd h2 hc.2.1
      rw [hs] at h2
      have h3 : w = "give" := h2
      subst h3
      refine ⟨rfl, h0, h1, hs, fun r' t' e => ?_⟩
      cases e
      exact hc.2.2
    · cases h
  · cases h
theorem dOf_of {st : St1} {dd : Deed} (h : DOk st dd) : dOf st (eD dd) = some dd := by
  obtain ⟨h0, h1, h2, h3⟩ := h
  cases dd with
  | back r =>
    have a : askB st [.str "back", .int r] = true := askB_iff.mpr ⟨h0, h1, by rw [show (stAt st r).1 = true from h2]; rfl⟩
    show (if askB st [.str "back", .int r] = true ∧ ("back" : Str) = "back" then some (Deed.back r) else none) = _
    rw [if_pos ⟨a, rfl⟩]
  | give r t =>
    have a : askB st [.str "give", .int r] = true := askB_iff.mpr ⟨h0, h1, by rw [show (stAt st r).1 = false from h2]; rfl⟩
    show (if askB st [.str "give", .int r] = true ∧ ("give" : Str) ≠ "back" ∧ 0 ≤ t then some (Deed.give r t) else none) = _
    rw [if_pos ⟨a, ne_gb, h3 r t rfl⟩]
theorem isG_of {st : St1} {w : Str} {r : Int} (h : askB st [.str w, .int r] = true) : (w = "back" ↔ (stAt st r).1 = true) := by
  obtain ⟨_, _, h⟩ := askB_iff.mp h
  cases hs : (stAt st r).1 with
  | true =>
    rw [hs] at h
    exact ⟨fun _ => rfl, fun _ => h⟩
  | false =>
    rw [hs] at h
    refine ⟨fun e => ?_, fun e => nomatch e⟩
    have h' : w = "give" := h
    exact absurd (h'.symm.trans e) ne_gb
section
variable {K : PySem.W.Frag} {σ : L2.St} {H H' : Hp} {te : TE}
/-- the length of a tuple of things -/
theorem ed_len {d : D} {ds : List D} (h : ED K te σ H (.tup ds)) : ED K (tCB (fun xs H Q => ∃ p ys, xs = [.ref p] ∧ (SqL K H p ys ∨ SqT K H p ys) ∧ Q (.int ys.length) H) (tCons te tNil)) σ H (.int (ds.length : Int)) := ed_lenT h
end
section
variable {P : Program} {w : World} {K : PySem.W.Frag} {mg : Str → Option Value} {base : Heap} {C : Addr}
def R_isask (K : PySem.W.Frag) (C : Addr) : List D → Hp → Pd → Prop := fun ds H P => ∃ a ms ties st xs, ds = [.obj (.ref a), eT st, .tup xs] ∧ WebAt K C H a ms ties ∧ st.length = ms.length ∧ (∀ d ∈ xs, Th H d) ∧ P = is (.bl (askB st xs))
theorem vs_str (x y : Str) : decide (vOf (.str x) = vOf (.str y)) = decide (x = y) := by
  show decide (V.str x = V.str y) = decide (x = y)
  rw [decide_eq_decide]
  exact ⟨fun h => by injection h, fun h => by rw [h]⟩
theorem ok_isask (T : HTxt mg) (W : WTxt K C) (g : GDef K mg "is_ask" s_is_ask ["web", "standing", "thing"]) (Gis_room : Def P w K mg base 3 "is_room" ["web", "thing"] (spD K (R_isroom K C))) :
    Def P w K mg base 4 "is_ask" ["web", "standing", "thing"] (spD K (R_isask K C)) := by
  refine defD g sc_is_ask (fun ds H Pd h => ?_) fun cdv A outer s f H vs ds Pd Q E hr r h q => ?_
  · obtain ⟨a, ms, ties, st, xs, rfl, _⟩ := h
    rfl
  obtain ⟨a, ms, ties, st, xs, rfl, x, hl, ht, rfl⟩ := h
  obtain ⟨v1, v2, v3, rfl, r1, r2, r3⟩ := rps3 r
  refine ⟨_, (pss_cons (ps_if (PW.pt (pw_or (pt_not (pt_val (pe_callB (kc_isi (K := K)) (by rfl) T.n_isinstance boot_isinstance (pa_cons (pv 2) (pa_cons (pe_bltn (v := V.ty "tuple") (by rfl) T.n_tuple boot_tuple rfl) pa_nil))))) (pw_or1 (pt_cmpR op_ne (pe_callB (kc_len (K := K)) (by rfl) T.n_len boot_len (pa_cons (pv 2) pa_nil)) pe_int (nomark _)))))
      (pss_one (ps_ret pe_bl))
      pss_nil)
    (pss_cons (ps_asg (pv 2) (kpg_tup (K := K) (n := 2) rfl (pgs_cons (pg_name (i := 3) sc_is_ask.nd rfl (Or.inl rfl)) (pgs_cons (pg_name (i := 4) sc_is_ask.nd rfl (Or.inl rfl)) pgs_nil))))
    (pss_cons (ps_if (PW.pt (pw_or (pt_not (pt_val (pe_callB (kc_isi (K := K)) (by rfl) T.n_isinstance boot_isinstance (pa_cons (pv 3) (pa_cons (pe_bltn (v := V.ty "str") (by rfl) T.n_str boot_str rfl) pa_nil))))) (pw_or1 (pt_not (pt_val (pe_def Gis_room (hr.mono (by decide)) (pa_cons (pv 0) (pa_cons (pv 4) pa_nil))))))))
      (pss_one (ps_ret pe_bl))
      pss_nil)
    (pss_cons (ps_set (i := 5) sc_is_ask.nd rfl (Or.inl rfl) (pe_ix (kix_tup (K := K)) (pe_ix (kix_tup (K := K)) (pv 1) (pv 4) (fun _ _ => rfl)) pe_int (fun _ _ => rfl)))
    (pss_one (ps_ret (pe_cmpR op_eq (pv 3) (pe_ifExp (pt_val (pv 5)) pe_str pe_str) (nomark _)))))))), ?_⟩
  refine q_whenB (b := decide (xs.length ≠ 2)) (eb_eq (eb_or (a := false) (b := decide (xs.length ≠ 2)) (eb_eq (eb_not (et_B (K := K) (ed_isTup (ed_var rfl r3) (.inl rfl)))) rfl) fun _ => eb_eq (et_test (K := K) (ed_neS (d1 := .int (xs.length : Int)) (d2 := .int 2) (ed_lenT (ed_var rfl r3)) ed_int rfl rfl rfl)) ?_) (Bool.false_or _)) (fun hb H1 e1 => ?_) fun hb H1 e1 => ?_
  · rw [vs_int]
    by_cases h2 : xs.length = 2
    · rw [decide_eq_true (show (xs.length : Int) = 2 by omega), decide_eq_false (fun h => h h2)]
      rfl
    · rw [decide_eq_false (show ¬ (xs.length : Int) = 2 by omega), decide_eq_true h2]
      rfl
  · have hn := of_decide_eq_true hb
    exact s_retD ed_bl fun v H2 e2 r => q v _ H2 (e1.trans e2) (by
      show D.bl false = D.bl _
      rw [askB_not fun w r e => hn (by rw [e]; rfl)]) r
  · have h2 : xs.length = 2 := Decidable.not_not.mp (of_decide_eq_false hb)
    obtain ⟨x1, x2, rfl⟩ : ∃ x1 x2, xs = [x1, x2] := by
      match xs, h2 with
      | [x1, x2], _ => exact ⟨x1, x2, rfl⟩
    have t1 : Th H x1 := ht x1 (List.mem_cons_self ..)
    have t2 : Th H x2 := ht x2 (List.mem_cons_of_mem _ (List.mem_cons_self ..))
    refine q_tup2 (K := K) (d1 := x1) (d2 := x2) (ed_var rfl (r3.le e1)) fun v4 v5 H2 e2 r4 r5 => ?_
    have e12 := e1.trans e2
    refine q_whenB (b := !strB x1 || !btw 0 ((ms.length : Int) - 1) x2) (eb_or (eb_not (et_B (K := K) (ed_isStr (ed_var rfl r4) (t1.le e12).tk))) fun _ => eb_not (et_B (K := K) (ed_call (ea_cons (ed_var rfl (r1.le e12)) (ea_cons (ed_var rfl r5) ea_nil)) fun H3 e3 => ⟨a, ms, ties, x2, rfl, x.le (e12.trans e3), (t2.le (e12.trans e3)).tk, rfl⟩))) (fun hb3 H3 e3 => ?_) fun hb3 H3 e3 => ?_
    · exact s_retD ed_bl fun v H4 e4 r => q v _ H4 ((e12.trans e3).trans e4) (by
        show D.bl false = D.bl _
        have : askB st [x1, x2] = false := by
          cases hx : askB st [x1, x2] with
          | false => rfl
          | true =>
            exfalso
            unfold askB at hx
            split at hx
            · rename_i w r hw
              injection hw with hw1 hw2
              injection hw2 with hw2 _
              subst hw1 hw2
              obtain ⟨h0, h1, _⟩ := askB_iff.mp hx
              rw [btw_room h0 (by rw [← hl]; exact h1)] at hb3
              cases hb3
            · cases hx
        rw [this]) r
    · rw [Bool.or_eq_false_iff, Bool.not_eq_false', Bool.not_eq_false'] at hb3
      obtain ⟨w', rfl⟩ : ∃ w', x1 = .str w' := by
        cases x1 with
        | str w' => exact ⟨w', rfl⟩
        | _ => cases hb3.1
      obtain ⟨rm, rfl⟩ : ∃ rm, x2 = .int rm := by
        cases x2 with
        | int i => exact ⟨i, rfl⟩
        | _ => cases hb3.2
      have hrm : 0 ≤ rm ∧ rm < st.length := by
        have h := hb3.2
        replace h : (decide (0 ≤ rm) && decide (rm ≤ (ms.length : Int) - 1)) = true := h
        rw [Bool.and_eq_true, decide_eq_true_iff, decide_eq_true_iff] at h
        omega
      have hst : (st.map eR)[rm.toNat]? = some (eR (stAt st rm)) := map_get (st_get hrm.1 hrm.2)
      refine q_asgD (K := K) (d := .bl (stAt st rm).1) (ed_ixT (ds := [_, _]) (ed_ixT (d := eR (stAt st rm)) (ed_var rfl (r2.le (e12.trans e3))) (ed_var rfl (r5.le e3)) hrm.1 hst) ed_int (by decide) rfl) fun v6 H4 e4 r6 => ?_
      refine s_retD (K := K) (ed_eq (ed_eqS (d1 := .str w') (d2 := .str (if (stAt st rm).1 = true then ("back" : Str) else "give")) (ed_var rfl (r4.le (e3.trans e4))) (ep_if (b := (stAt st rm).1) (et_B (K := K) (ed_var rfl r6)) (fun hb => ?_) fun hb => ?_) rfl rfl rfl) (congrArg D.bl (vs_str _ _))) fun v H5 e5 r => q v _ H5 (((e12.trans e3).trans e4).trans e5) ?_ r
      · rw [if_pos hb]
        exact ed_str
      · rw [hb, if_neg Bool.false_ne_true]
        exact ed_str
      · show D.bl _ = D.bl (decide (0 ≤ rm) && decide (rm < st.length) && decide _)
        rw [decide_eq_true hrm.1, decide_eq_true hrm.2]
        rfl
end
end W1

set_option maxRecDepth 100000
set_option maxHeartbeats 4000000
namespace W1
open PySem PyProof.Rows L2
local macro_rules | `(tactic| walk_at "rp") => `(tactic| first | assumption | exact Rp.int _ | exact Rp.bl _ | exact Rp.str _ | exact Rp.non | exact Rp.obj _ | (refine Rp.le (by assumption) ?_; walk_at "rp"))
local macro_rules | `(tactic| walk_at "ed") => `(tactic| first
  | exact ed_int | exact ed_str | exact ed_bl | exact ed_non
  | (refine ed_var rfl ?_; walk_at "rp")
  | (refine ed_ixT (ds := [_, _]) ?_ ed_int (by decide) rfl; walk_at "ed")
  | (refine ed_I0 ?_ ?_ <;> walk_at "ed")
  | (refine ed_B0 ?_ ?_ <;> walk_at "ed")
  | (refine ed_eqS ?_ ?_ rfl rfl rfl <;> walk_at "ed")
  | assumption)
local macro_rules | `(tactic| walk_at "ea") => `(tactic| first | exact ea_nil | (refine ea_cons ?_ ?_; walk_at "ed"; walk_at "ea"))

abbrev s__law_standing : Stmt := topS 52
abbrev N__law_standing : List Str := ["_law_parts_here", "_law_state_here", "_law_memory", "_law_held", "_law_tags"]
theorem sc__law_standing : FnScope N__law_standing ["_law_parts_here", "_law_state_here"] (defScope s__law_standing) := ⟨rfl, rfl, rfl, by decide +kernel, rfl, by decide +kernel, by decide +kernel⟩
abbrev s__law_int : Stmt := topS 59
abbrev N__law_int : List Str := ["_law_thing", "_law_least", "_law_most"]
theorem sc__law_int : FnScope N__law_int ["_law_thing", "_law_least", "_law_most"] (defScope s__law_int) := ⟨rfl, rfl, rfl, by decide +kernel, rfl, by decide +kernel, by decide +kernel⟩
theorem inV_strs (x : Str) : ∀ ns : List Str, inV (.str x) (ns.map V.str) = decide (x ∈ ns)
  | [] => rfl
  | n :: ns => by
    have ih := inV_strs x ns
    unfold inV at ih ⊢
    rw [List.map_cons, List.any_cons, ih]
    by_cases e : n = x
    · subst e
      have e1 : eqV (.str n) (.str n) = true := by simp [eqV]
      rw [e1]
      simp
    · have e1 : eqV (.str n) (.str x) = false := by simp [eqV, e]
      rw [e1]
      simp [Ne.symm e]
theorem flat_strs (ns : List Str) : (ns.map V.str).all flatV = true := by
  rw [List.all_eq_true]
  intro v hv
  obtain ⟨i, _, rfl⟩ := List.mem_map.mp hv
  rfl
theorem strs_rps {K : PySem.W.Frag} {H : Hp} : ∀ {ns : List Str} {vs : List V}, Rps K H vs (ns.map D.str) → vs = ns.map V.str
  | [], _, h => by
    cases h
    rfl
  | n :: ns, _, h => by
    cases h with
    | cons a r =>
      cases a
      rw [strs_rps r]
      rfl
section
variable {K : PySem.W.Frag} {σ : L2.St} {H H' : Hp} {ta tb te : TE} {vs : List Nat}
theorem ed_ninS {x : Str} {ns : List Str} (h : ED K ta σ H (.str x)) (h2 : ED K tb σ H (.lst (ns.map .str))) : ED K (tOp (rIn K true) ta tb) σ H (.bl (!decide (x ∈ ns))) := ed_op h h2 fun v w H2 _ r1 r2 Q q => by
  obtain ⟨a, xs, rfl, s, _, rr⟩ := rp_lst r2
  have ex := strs_rps rr
  subst ex
  rw [rp_str r1]
  refine ⟨a, _, rfl, .inl (SqL.of s), rfl, flat_strs ns, ?_⟩
  rw [inV_strs]
  exact q _ _ H2 (Le.refl _) rfl (.bl _)
/-- [e for m, (held, tags) in zip(memories, state)] -/
theorem ed_lcZS {A : TA} {ms : List Int} {st : St1} {j l m : Nat} (f : Nat → Bool × List Int) (ha : EDA K A σ H [.tup (ms.map .int), eS st]) (hl : ms.length = st.length) (hz : ms.length ≤ 50000) (hw : ∀ x y z, wipe ((((wipe σ vs).set j (some x)).set l (some y)).set m (some z)) vs = wipe σ vs)
    (he : ∀ (i : Nat) mem v H1, Le H H1 → i < ms.length → ms[i]? = some mem → Rp K H1 v (.tup ((stAt st (i : Int)).2.map .int)) → ED K te ((((wipe σ vs).set j (some (.int mem))).set l (some (.bl (stAt st (i : Int)).1))).set m (some v)) H1 (eR (f i))) :
    ED K (tLc (iZTL K A) (gTup K 2 (gCons (gName j) (gCons (gTup K 2 (gCons (gName l) (gCons (gName m) gNil))) gNil))) tYes te vs) σ H (.lst (((List.range ms.length).map f).map eR)) := fun H1 e Q q => ha H1 e _ fun us es H2 e2 p rr => by
  have p' : es = [.tup (ms.map .int), eS st] := p
  subst p'
  obtain ⟨v, u, rfl, r1, r2⟩ := rps2 rr
  obtain ⟨a, xs, rfl, s, r⟩ := rp_tup r1
  obtain ⟨b, ys, rfl, s2, nh2, rb⟩ := rp_lst r2
  have lx : xs.length = ms.length := by rw [r.len, List.length_map]
  have ly : ys.length = st.length := by rw [rb.len, List.length_map]
  have G := good (enc := eR) enc_R fun i zs => zs = (List.range i).map f
  refine ⟨a, b, xs, ys, rfl, s, SqL.of s2, fun L hL => lc_it (walk_zTL (by omega)) (CI K H2 L (GI eR fun i zs => zs = (List.range i).map f)) (ci_start (I := GI eR fun i zs => zs = (List.range i).map f) hL ⟨[], rfl, Nat.zero_le _, rfl⟩) (fun i H' _ c => ⟨c.2.1.sqt s, SqL.of (c.2.1.lst s2 nh2)⟩) ?_ (fun H' c => ?_)⟩
  · rintro i x H' H3 hi c ⟨T, x1, x2, rfl, nT, rfl, f1, f2⟩
    rw [lx] at hi
    have e3 : Le H' (upd H' T (.tup [x1, x2])) := Le.new nT
    obtain ⟨d1, g1, g2⟩ := r.at' f1
    obtain ⟨mem, gm, rfl⟩ := map_at g1
    obtain ⟨d2, g3, g4⟩ := rb.at' f2
    obtain ⟨y, gy, rfl⟩ := map_at g3
    have ey : y = stAt st (i : Int) := by
      have h := st_get (st := st) (r := (i : Int)) (by omega) (by omega)
      rw [Int.toNat_natCast, gy] at h
      exact Option.some.inj h
    subst ey
    have ex1 := rp_int g2
    subst ex1
    obtain ⟨t, zs, rfl, s4, r4⟩ := rp_tup g4
    obtain ⟨w1, w2, rfl, q1, q2'⟩ := rps2 r4
    have ew := rp_bl q1
    subst ew
    have cT := CI.le G c e3
    refine ⟨T, _, rfl, Evl.st_of upd_same, rfl, _, _, rfl, _, _, rfl, t, _, rfl, (c.2.1.trans e3).sqt s4, rfl, _, _, rfl, _, _, rfl, rfl, rfl, hw _ _ _, ci_turn G cT (PT := fun b => b = true) (fun acc ia => et_yes) (fun acc ia _ => ?_) (fun acc ia hf => nomatch hf)⟩
    obtain ⟨zs, rfl, hl', rfl⟩ := ia
    refine (he i mem w2 H2 (e.trans e2) hi gm q2').weak fun d' H3 _ p => ?_
    have p' : d' = eR (f i) := p
    subst p'
    refine ⟨GI.more ?_ ?_, enc_R.noL _⟩
    · rw [List.length_append, List.length_map, List.length_range, List.length_singleton]
      omega
    · show _ = (List.range (i + 1)).map f
      rw [List.range_succ, List.map_append]
      rfl
  · rw [lx] at c
    exact ci_end G c fun v d H3 e3 p r => q v d H3 (e2.trans e3) (by
      obtain ⟨acc, rfl, zs, rfl, _, rfl⟩ := p
      rfl) r
end
section
variable {P : Program} {w : World} {K : PySem.W.Frag} {mg : Str → Option Value} {base : Heap} {C : Addr}
def R_lstand : List D → Hp → Pd → Prop := fun ds H P => ∃ ms ties st, ds = [eW ms ties, eS st] ∧ PartsOk ms ties ∧ st.length = ms.length ∧ P = is (eT (cutSt ms st))
theorem ok_lstand (T : HTxt mg) (g : GDef K mg "_law_standing" s__law_standing ["_law_parts_here", "_law_state_here"]) : Def P w K mg base 1 "_law_standing" ["_law_parts_here", "_law_state_here"] (spD K R_lstand) := by
  refine defD g sc__law_standing (fun ds H Pd h => ?_) fun cdv A outer s f H vs ds Pd Q E hr r h q => ?_
  · obtain ⟨ms, ties, st, rfl, _⟩ := h
    rfl
  obtain ⟨ms, ties, st, rfl, ok, hl, rfl⟩ := h
  obtain ⟨v1, v2, rfl, r1, r2⟩ := rps2 r
  refine ⟨_, (pss_one (ps_ret (pe_callTy (kc_tuple (K := K)) (by rfl) T.n_tuple boot_tuple (pa_cons (pe_lc (own := [("_law_memory", 2), ("_law_held", 3), ("_law_tags", 4)]) rfl sc__law_standing.nd (kpi_zTL (K := K) (by rfl) T.n_zip (pa_cons (pe_ix (kix_tup (K := K)) (pv 0) pe_int (fun _ _ => rfl)) (pa_cons (pv 1) pa_nil))) (blkOk_by (N := N__law_standing) (sc := defScope s__law_standing) (by decide +kernel)) (fun _ _ _ _ _ => (kpg_tup (K := K) (n := 2) rfl (pgs_cons (pg_name (i := 2) sc__law_standing.nd rfl (Or.inl rfl)) (pgs_cons (kpg_tup (K := K) (n := 2) rfl (pgs_cons (pg_name (i := 3) sc__law_standing.nd rfl (Or.inl rfl)) (pgs_cons (pg_name (i := 4) sc__law_standing.nd rfl (Or.inl rfl)) pgs_nil))) pgs_nil)))) (fun _ _ _ _ _ => pts_nil) (fun _ _ _ _ _ => (pe_tup (pa_cons (pv 3) (pa_cons (pe_slice (ksl_tup (K := K)) (pv 4) po_none (po_some (pe_callB (call_max2 rfl) (by rfl) T.n_max boot_max (pa_cons pe_int (pa_cons (pv 2) pa_nil))))) pa_nil))))) pa_nil)))), ?_⟩
  have few := ok.few
  refine s_retD (K := K) (d := eT (cutSt ms st)) (ed_eq (ed_tupOf (ed_lcZS (fun i => ((stAt st (i : Int)).1, (stAt st (i : Int)).2.take (keptN ms (i : Int)))) (ea_cons (ed_ixT (ds := [_, _]) (ed_var rfl r1) ed_int (by decide) rfl) (ea_cons (ed_var rfl r2) ea_nil)) hl.symm (by omega) (fun _ _ _ => rfl) fun i mem v H1 e1 hi hm rv => ?_)) ?_) fun v H1 e1 r => q v _ H1 e1 rfl r
  · have hm0 := ok.mem _ (List.mem_of_getElem? hm)
    have hk : keptN ms (i : Int) = (if mem > 1 then mem else 1).toNat := by
      unfold keptN
      rw [Int.toNat_natCast, hm]
      rfl
    refine ed_tup (ea_cons (ed_var rfl (.bl _)) (ea_cons (ed_eq (ed_slT (lo := none) (hi := some (if mem > 1 then mem else 1)) (ed_var rfl rv) eo_none (eo_some (K := K) (ed_max2 ed_int (ed_var rfl (.int mem))))) ?_) ea_nil)) (by show 2 ≤ 100000; decide)
    rw [cutG_hi _ _ (by split <;> omega), ← List.map_take, hk]
  · unfold cutSt
    rw [hl]
theorem sub_bl {d : D} (hs : subI d = true) (hi : isI d = false) : blB d = true := by
  cases d with
  | bl b => rfl
  | int i => cases hi
  | _ => cases hs
def R_lint : List D → Hp → Pd → Prop := fun ds H P => ∃ d l m, ds = [d, .int l, .int m] ∧ Tk H d ∧ P = is (.bl (btw l m d))
theorem ok_lint (T : HTxt mg) (g : GDef K mg "_law_int" s__law_int ["_law_thing", "_law_least", "_law_most"]) : Def P w K mg base 1 "_law_int" ["_law_thing", "_law_least", "_law_most"] (spD K R_lint) := by
  refine defD g sc__law_int (fun ds H Pd h => ?_) fun cdv A outer s f H vs ds Pd Q E hr r h q => ?_
  · obtain ⟨d, l, m, rfl, _⟩ := h
    rfl
  obtain ⟨d, l, m, rfl, hk, rfl⟩ := h
  obtain ⟨v1, v2, v3, rfl, r1, r2, r3⟩ := rps3 r
  refine ⟨_, (pss_one (ps_ret (pe_and (pe_callB (kc_isi (K := K)) (by rfl) T.n_isinstance boot_isinstance (pa_cons (pv 0) (pa_cons (pe_bltn (v := V.ty "int") (by rfl) T.n_int boot_int rfl) pa_nil))) (pe_and (pe_not (pe_callB (kc_isi (K := K)) (by rfl) T.n_isinstance boot_isinstance (pa_cons (pv 0) (pa_cons (pe_bltn (v := V.ty "bool") (by rfl) T.n_bool boot_bool rfl) pa_nil)))) (pe_one (pe_chain op_le op_le (pv 1) (pv 0) (pv 2))))))), ?_⟩
  have hI := ed_isInt (K := K) (σ := [some v1, some v2, some v3]) (ta := tVar 0) (ed_var rfl r1) hk
  have hB := ed_isBool (K := K) (σ := [some v1, some v2, some v3]) (ta := tVar 0) (ed_var rfl r1) hk
  cases hi : isI d with
  | true =>
    obtain ⟨i, rfl⟩ : ∃ i, d = .int i := by
      cases d with
      | int i => exact ⟨i, rfl⟩
      | _ => cases hi
    exact s_retD (ed_andV (a := true) hI fun _ => ed_andV (a := true) (ed_notV hB) fun _ => ed_chain (f := fun i j => decide (i ≤ j)) (g := fun i j => decide (i ≤ j)) (ed_var rfl r2) (ed_var rfl r1) (ed_var rfl r3)) fun v H1 e1 r => q v _ H1 e1 rfl r
  | false =>
    have hf : btw l m d = false := by cases d <;> first | rfl | cases hi
    cases hs : subI d with
    | false => exact s_retD (ed_andV (a := false) (b := true) (ed_eq hI (by rw [hs])) fun h => nomatch h) fun v H1 e1 r => q v _ H1 e1 (by rw [hf]; rfl) r
    | true =>
      have hb : blB d = true := sub_bl hs hi
      exact s_retD (ed_andV (a := true) (b := false) (ed_eq hI (by rw [hs])) fun _ => ed_eq (ed_andV (a := false) (b := true) (ed_eq (ed_notV hB) (by rw [hb]; rfl)) fun h => nomatch h) rfl) fun v H1 e1 r => q v _ H1 e1 (by rw [hf]; rfl) r
end
end W1

set_option maxRecDepth 100000
set_option maxHeartbeats 4000000
/-! the state behind a past; the word for a tag -/
namespace W1
open PySem PyProof.Rows L2
local macro_rules | `(tactic| walk_at "rp") => `(tactic| first | assumption | exact Rp.int _ | exact Rp.bl _ | exact Rp.str _ | exact Rp.non | exact Rp.obj _ | (refine Rp.le (by assumption) ?_; walk_at "rp"))
local macro_rules | `(tactic| walk_at "ed") => `(tactic| first
  | exact ed_int | exact ed_str | exact ed_bl | exact ed_non
  | (refine ed_var rfl ?_; walk_at "rp")
  | (refine ed_ixT (ds := [_, _]) ?_ ed_int (by decide) rfl; walk_at "ed")
  | (refine ed_I0 ?_ ?_ <;> walk_at "ed")
  | (refine ed_B0 ?_ ?_ <;> walk_at "ed")
  | (refine ed_eqS ?_ ?_ rfl rfl rfl <;> walk_at "ed")
  | assumption)
local macro_rules | `(tactic| walk_at "ea") => `(tactic| first | exact ea_nil | (refine ea_cons ?_ ?_; walk_at "ed"; walk_at "ea"))

abbrev s__law_state : Stmt := topS 51
abbrev N__law_state : List Str := ["_law_parts_here", "_law_past", "_law_state_here", "_law_deed"]
theorem sc__law_state : FnScope N__law_state ["_law_parts_here", "_law_past"] (defScope s__law_state) := ⟨rfl, rfl, rfl, by decide +kernel, rfl, by decide +kernel, by decide +kernel⟩
abbrev s__law_word : Stmt := topS 57
abbrev N__law_word : List Str := ["_law_parts_here", "_law_k", "_law_state_here", "_law_room", "_law_tag"]
theorem sc__law_word : FnScope N__law_word ["_law_parts_here", "_law_k", "_law_state_here", "_law_room", "_law_tag"] (defScope s__law_word) := ⟨rfl, rfl, rfl, by decide +kernel, rfl, by decide +kernel, by decide +kernel⟩
def stOf (n : Nat) (p : List Deed) : St1 := p.foldl doneL (List.replicate n (false, []))
theorem stOf_snoc (n : Nat) (p : List Deed) (d : Deed) : stOf n (p ++ [d]) = doneL (stOf n p) d := by
  unfold stOf
  rw [List.foldl_append]
  rfl
def InR (n : Nat) (p : List Deed) : Prop := ∀ dd ∈ p, 0 ≤ dd.room ∧ dd.room < n
theorem snoc_ind {α : Type} {m : List α → Prop} (h0 : m []) (h1 : ∀ p d, m p → m (p ++ [d])) (p : List α) : m p := by
  have h : ∀ l : List α, m l.reverse := fun l => by
    induction l with
    | nil => exact h0
    | cons a l ih =>
      rw [List.reverse_cons]
      exact h1 _ a ih
  have := h p.reverse
  rw [List.reverse_reverse] at this
  exact this
theorem stOf_ok {n : Nat} : ∀ (p : List Deed), InR n p → (stOf n p).length = n ∧ (∀ x ∈ stOf n p, x.1 = true → x.2 ≠ []) ∧ ∀ x ∈ stOf n p, x.2.length ≤ p.length := fun p => by
  refine snoc_ind (m := fun p => InR n p → (stOf n p).length = n ∧ (∀ x ∈ stOf n p, x.1 = true → x.2 ≠ []) ∧ ∀ x ∈ stOf n p, x.2.length ≤ p.length) ?_ ?_ p
  · intro _
    refine ⟨List.length_replicate, fun x hx => ?_, fun x hx => ?_⟩
    · rw [List.eq_of_mem_replicate hx]
      exact fun h => nomatch h
    · rw [List.eq_of_mem_replicate hx]
      exact Nat.le_refl _
  · intro p d ih hin
    obtain ⟨a, b, c⟩ := ih fun dd hd => hin dd (List.mem_append.mpr (.inl hd))
    obtain ⟨h0, h1⟩ := hin d (List.mem_append.mpr (.inr (List.mem_singleton.mpr rfl)))
    rw [stOf_snoc]
    cases d with
    | give r t =>
      refine ⟨by rw [doneL_len, a], fun x hx => ?_, fun x hx => ?_⟩
      · rcases mem_set_of hx with rfl | hx
        · exact fun _ e => nomatch e
        · exact b x hx
      · rw [List.length_append]
        rcases mem_set_of hx with rfl | hx
        · have := c _ (st_mem (st := stOf n p) h0 (by omega))
          show (stAt (stOf n p) r).2.length + 1 ≤ p.length + 1
          exact Nat.succ_le_succ this
        · have := c x hx
          omega
    | back r =>
      refine ⟨by rw [doneL_len, a], fun x hx => ?_, fun x hx => ?_⟩
      · rcases mem_set_of hx with rfl | hx
        · exact fun e => nomatch e
        · exact b x hx
      · rw [List.length_append]
        rcases mem_set_of hx with rfl | hx
        · have := c _ (st_mem (st := stOf n p) h0 (by omega))
          exact Nat.le_succ_of_le this
        · have := c x hx
          omega
theorem stOf_sok {n : Nat} {p : List Deed} (h : InR n p) (hn : n ≤ 60) (hp : p.length ≤ 5000) : StOk (stOf n p) := by
  obtain ⟨a, b, c⟩ := stOf_ok p h
  exact ⟨by omega, b, fun x hx => Nat.le_trans (c x hx) hp⟩
section
variable {P : Program} {w : World} {K : PySem.W.Frag} {mg : Str → Option Value} {base : Heap}
def R_lst : List D → Hp → Pd → Prop := fun ds _ P => ∃ ms ties past, ds = [eW ms ties, .tup (past.map eD)] ∧ ms.length ≤ 60 ∧ past.length ≤ 5000 ∧ InR ms.length past ∧ P = is (eS (stOf ms.length past))
theorem ok_lst (T : Txt mg) (g : GDef K mg "_law_state" s__law_state ["_law_parts_here", "_law_past"]) (G_law_start : Def P w K mg base 1 "_law_start" ["_law_parts_here"] (spD K R_start)) (G_law_done : Def P w K mg base 1 "_law_done" ["_law_state_here", "_law_deed"] (spF K R_done)) :
    Def P w K mg base 2 "_law_state" ["_law_parts_here", "_law_past"] (spD K R_lst) := by
  refine defD g sc__law_state (fun ds H Pd h => ?_) fun cdv A outer s f H vs ds Pd Q E hr r h q => ?_
  · obtain ⟨ms, ties, past, rfl, _⟩ := h
    rfl
  obtain ⟨ms, ties, past, rfl, h60, hp, hin, rfl⟩ := h
  obtain ⟨v1, v2, rfl, r1, r2⟩ := rps2 r
  refine ⟨_, (pss_cons (ps_set (i := 2) sc__law_state.nd rfl (Or.inl rfl) (pe_def G_law_start (hr.mono (by decide)) (pa_cons (pv 0) pa_nil)))
    (pss_cons (ps_for PassesOwn.never rfl (kpi_tup (K := K) (pv 1)) (pg_name (i := 3) sc__law_state.nd rfl (Or.inl rfl))
      (pss_one (ps_set (i := 2) sc__law_state.nd rfl (Or.inl rfl) (pe_def G_law_done (hr.mono (by decide)) (pa_cons (pv 2) (pa_cons (pv 3) pa_nil))))))
    (pss_one (ps_ret (pv 2))))), ?_⟩
  refine q_asgD (K := K) (d := eS (stOf ms.length [])) (ed_call (ea_cons (ed_var rfl r1) ea_nil) fun H1 _ => ⟨ms, ties, rfl, h60, rfl⟩) fun v3 H1 e1 r3 => ?_
  refine q_forT (K := K) (ds := past.map eD) (ed_var rfl (r2.le e1)) (enc_D.nl _) fun H2 e2 => ?_
  refine ⟨fun i σ H' => ∃ u y, σ = [some v1, some v2, some u, y] ∧ Le H2 H' ∧ i ≤ past.length ∧ Rp K H' u (eS (stOf ms.length (past.take i))), ⟨v3, none, rfl, Le.refl _, Nat.zero_le _, r3.le e2⟩, ?_, ?_, ?_⟩
  · rintro i σ H' _ ⟨_, _, _, e, _⟩
    exact e.t
  · rintro i d v σ H' hd rv ⟨u, y, rfl, e, _, ru⟩
    obtain ⟨dd, hdd, rfl⟩ := map_at hd
    have hi : i < past.length := (List.getElem?_eq_some_iff.mp hdd).1
    have hin' : InR ms.length (past.take i) := fun x hx => hin x (List.mem_of_mem_take hx)
    have ok := stOf_sok hin' h60 (Nat.le_trans (List.length_take_le _ _) (by omega))
    obtain ⟨b1, b2⟩ := hin dd (List.mem_of_getElem? hdd)
    have len := (stOf_ok _ hin').1
    refine s_asgD (K := K) (EFD.ed (ef_call (R := R_done) (ea_cons (ed_var rfl ru) (ea_cons (ed_var rfl rv) ea_nil)) fun H3 _ => ⟨stOf ms.length (past.take i), dd, rfl, ok, b1, by omega, rfl⟩)) fun v' H3 e3 r3' => ?_
    refine ⟨v', some v, rfl, e.trans e3, hi, ?_⟩
    rw [take_more hdd, stOf_snoc]
    exact r3'
  · rintro σ H' ⟨u, y, rfl, e, _, ru⟩
    rw [List.length_map, List.take_length] at ru
    exact s_retD (K := K) (ed_var rfl ru) fun v H3 e3 r3' => q v _ H3 ((e1.trans e2).trans (e.trans e3)) rfl r3'
/-! ### the word for a tag -/
def isNon : D → Bool
  | .non => true
  | _ => false
theorem ed_isNB {σ : L2.St} {H : Hp} {ta : TE} {d1 : D} (ha : ED K ta σ H d1) (n : ∀ v, d1 ≠ .obj v) : ED K (tOp (fun x y H Q => y = .non ∧ Q (.bl (decide (x = .non))) H) ta (tC .non)) σ H (.bl (isNon d1)) := ed_eq (ed_isN ha n) (by cases d1 <;> rfl)
def intO : D → Int
  | .int i => i
  | _ => 0
theorem btw_int {l m : Int} {d : D} (h : btw l m d = true) : ∃ i, d = .int i ∧ l ≤ i ∧ i ≤ m := by
  cases d with
  | int i =>
    replace h : (decide (l ≤ i) && decide (i ≤ m)) = true := h
    rw [Bool.and_eq_true, decide_eq_true_iff, decide_eq_true_iff] at h
    exact ⟨i, rfl, h.1, h.2⟩
  | _ => cases h
def wordL (ms : List Int) (ties : List (Int × Int)) (k : Int) (st : St1) (r : Int) (d : D) : Str :=
  if isNon d = true then "stuck" else if btw 0 (k - 1) d = true then (if intO d ∈ barsL ms ties st r then "barred" else "kept") else "odd"
def R_lword : List D → Hp → Pd → Prop := fun ds H P => ∃ ms ties k st r d, ds = [eW ms ties, .int k, eS st, .int r, d] ∧ PartsOk ms ties ∧ StOk st ∧ st.length = ms.length ∧ ms.length ≤ 8 ∧ 0 ≤ r ∧ r < ms.length ∧ noObj d = true ∧ P = is (.str (wordL ms ties k st r d))
theorem ok_lword (T : Txt mg) (g : GDef K mg "_law_word" s__law_word ["_law_parts_here", "_law_k", "_law_state_here", "_law_room", "_law_tag"]) (G_law_bars : Def P w K mg base 2 "_law_bars" ["_law_parts_here", "_law_state_here", "_law_room"] (spD K R_bars)) :
    Def P w K mg base 3 "_law_word" ["_law_parts_here", "_law_k", "_law_state_here", "_law_room", "_law_tag"] (spD K R_lword) := by
  refine defD g sc__law_word (fun ds H Pd h => ?_) fun cdv A outer s f H vs ds Pd Q E hr r h q => ?_
  · obtain ⟨ms, ties, k, st, r, d, rfl, _⟩ := h
    rfl
  obtain ⟨ms, ties, k, st, rm, d, rfl, ok, sok, hl, h8, h0, h1, no, rfl⟩ := h
  obtain ⟨v1, v2, v3, v4, v5, rfl, r1, r2, r3, r4, r5⟩ : ∃ v1 v2 v3 v4 v5, vs = [v1, v2, v3, v4, v5] ∧ Rp K H v1 (eW ms ties) ∧ Rp K H v2 (.int k) ∧ Rp K H v3 (eS st) ∧ Rp K H v4 (.int rm) ∧ Rp K H v5 d := by
    cases r with
    | cons a r =>
      cases r with
      | cons b r =>
        cases r with
        | cons c r =>
          obtain ⟨v4, v5, rfl, r4, r5⟩ := rps2 r
          exact ⟨_, _, _, v4, v5, rfl, a, b, c, r4, r5⟩
  refine ⟨_, (pss_cons (ps_if (pt_cmpR op_isN (pv 4) pe_non (nomark _))
      (pss_one (ps_ret pe_str))
      pss_nil)
    (pss_cons (ps_if (PW.pt (pw_or (pt_not (pt_val (pe_callB (kc_isi (K := K)) (by rfl) T.n_isinstance boot_isinstance (pa_cons (pv 4) (pa_cons (pe_bltn (v := V.ty "int") (by rfl) T.n_int boot_int rfl) pa_nil))))) (pw_or (pt_val (pe_callB (kc_isi (K := K)) (by rfl) T.n_isinstance boot_isinstance (pa_cons (pv 4) (pa_cons (pe_bltn (v := V.ty "bool") (by rfl) T.n_bool boot_bool rfl) pa_nil)))) (pw_or1 (pt_not (pt_chain op_le op_lt pe_int (pv 4) (pv 1)))))))
      (pss_one (ps_ret pe_str))
      pss_nil)
    (pss_one (ps_ret (pe_ifExp (pt_cmpR (kop_in (K := K)) (pv 4) (pe_def G_law_bars (hr.mono (by decide)) (pa_cons (pv 0) (pa_cons (pv 2) (pa_cons (pv 3) pa_nil)))) (by rfl)) pe_str pe_str))))), ?_⟩
  have nob : ∀ v, d ≠ .obj v := fun v e => by
    rw [e] at no
    cases no
  have fin : ∀ {x : Str} {te : TE} {σ : L2.St} {H1 : Hp}, wordL ms ties k st rm d = x → Le H H1 → ED K te σ H1 (.str x) → tRet te { nx := fun _ H' => Q .non H', rt := Q } σ H1 := fun {x te σ H1} hd e h => s_retD h fun v H2 e2 r => q v _ H2 (e.trans e2) (by rw [hd]) r
  refine q_whenB (et_test (K := K) (ed_isNB (ed_var rfl r5) nob)) (fun hn H1 e1 => ?_) fun hn H1 e1 => ?_
  · refine fin ?_ e1 ed_str
    unfold wordL
    rw [if_pos hn]
  have hk : Tk H d := .inl no
  have hI := fun {H2 : Hp} (e : Le H H2) => ed_isInt (K := K) (σ := [some v1, some v2, some v3, some v4, some v5]) (ta := tVar 4) (ed_var rfl (r5.le e)) (hk.le e)
  have hB := fun {H2 : Hp} (e : Le H H2) => ed_isBool (K := K) (σ := [some v1, some v2, some v3, some v4, some v5]) (ta := tVar 4) (ed_var rfl (r5.le e)) (hk.le e)
  have isub : True := True.intro
  have odd : btw 0 (k - 1) d = false → wordL ms ties k st rm d = "odd" := fun hb => by
    unfold wordL
    rw [if_neg (by rw [hn]; exact Bool.false_ne_true), if_neg (by rw [hb]; exact Bool.false_ne_true)]
  refine q_whenB (b := !btw 0 (k - 1) d) ?_ (fun hb H2 e2 => fin (odd (by rw [Bool.not_eq_true'] at hb; exact hb)) (e1.trans e2) ed_str) fun hb H2 e2 => ?_
  · cases hi : isI d with
    | true =>
      obtain ⟨i, rfl⟩ : ∃ i, d = .int i := by
        cases d with
        | int i => exact ⟨i, rfl⟩
        | _ => cases hi
      refine eb_eq (eb_or (a := false) (b := !(decide (0 ≤ i) && decide (i < k))) (eb_eq (eb_not (et_B (K := K) (hI e1))) rfl) fun _ => eb_eq (eb_or (a := false) (b := !(decide (0 ≤ i) && decide (i < k))) (et_B (K := K) (hB e1)) fun _ => eb_not (et_test (K := K) (ed_chain (f := fun i j => decide (i ≤ j)) (g := fun i j => decide (i < j)) ed_int (ed_var rfl (r5.le e1)) (ed_var rfl (r2.le e1))))) (Bool.false_or _)) ?_
      rw [Bool.false_or]
      show (!(decide (0 ≤ i) && decide (i < k))) = !(decide (0 ≤ i) && decide (i ≤ k - 1))
      rw [decide_eq_decide.mpr (show i < k ↔ i ≤ k - 1 by omega)]
    | false =>
      have hf : btw 0 (k - 1) d = false := by cases d <;> first | rfl | cases hi
      rw [hf]
      cases hs : subI d with
      | false => exact eb_eq (eb_or (a := true) (b := true) (eb_eq (eb_not (et_B (K := K) (hI e1))) (by rw [hs]; rfl)) fun h => nomatch h) rfl
      | true =>
        have hb := sub_bl hs hi
        exact eb_eq (eb_or (a := false) (b := true) (eb_eq (eb_not (et_B (K := K) (hI e1))) (by rw [hs]; rfl)) fun _ => eb_eq (eb_or (a := true) (b := true) (eb_eq (et_B (K := K) (hB e1)) hb) fun h => nomatch h) rfl) rfl
  · rw [Bool.not_eq_false'] at hb
    obtain ⟨i, rfl, i0, i1⟩ := btw_int hb
    refine s_ret (K := K) (P := is (.str (wordL ms ties k st rm (.int i)))) (ep_if (b := decide (i ∈ barsL ms ties st rm)) (et_test (K := K) (EP.weak (ep_inT (x := i) (PN := fun ns => ∀ k, k ∈ ns ↔ k ∈ barsL ms ties st rm) (ed_var rfl (r5.le (e1.trans e2))) (EP.weak (ed_call (P := fun d _ => ∃ ns : List Int, d = .tup (ns.map .int) ∧ Bars ms ties st rm ns) (ea_cons (ed_var rfl (r1.le (e1.trans e2))) (ea_cons (ed_var rfl (r3.le (e1.trans e2))) (ea_cons (ed_var rfl (r4.le (e1.trans e2))) ea_nil))) fun H3 _ => ⟨ms, ties, st, rm, rfl, ok, sok, hl, h8, h0, h1, rfl⟩) fun d H3 _ ⟨ns, e, b⟩ => ⟨ns, e, b.in⟩)) fun d H3 _ p => ?_)) (fun hi => ed_eq ed_str ?_) fun hi => ed_eq ed_str ?_) fun v d H3 e3 p r => q v d H3 ((e1.trans e2).trans e3) p r
    · obtain ⟨ns, hn, rfl⟩ := p
      show D.bl (decide (i ∈ ns)) = D.bl (decide (i ∈ barsL ms ties st rm))
      rw [decide_eq_decide.mpr (hn i)]
    · rw [decide_eq_true_iff] at hi
      unfold wordL
      rw [if_neg (by exact Bool.false_ne_true), if_pos hb, if_pos (by exact hi)]
    · rw [decide_eq_false_iff_not] at hi
      unfold wordL
      rw [if_neg (by exact Bool.false_ne_true), if_pos hb, if_neg (by exact hi)]
end
end W1

set_option maxRecDepth 100000
set_option maxHeartbeats 4000000
/-! asks of any kind, by the program and by the law -/
namespace W1
open PySem PyProof.Rows L2
local macro_rules | `(tactic| walk_at "rp") => `(tactic| first | assumption | exact Rp.int _ | exact Rp.bl _ | exact Rp.str _ | exact Rp.non | exact Rp.obj _ | (refine Rp.le (by assumption) ?_; walk_at "rp"))
local macro_rules | `(tactic| walk_at "ed") => `(tactic| first
  | exact ed_int | exact ed_str | exact ed_bl | exact ed_non
  | (refine ed_var rfl ?_; walk_at "rp")
  | (refine ed_ixT (ds := [_, _]) ?_ ed_int (by decide) rfl; walk_at "ed")
  | (refine ed_I0 ?_ ?_ <;> walk_at "ed")
  | (refine ed_B0 ?_ ?_ <;> walk_at "ed")
  | (refine ed_eqS ?_ ?_ rfl rfl rfl <;> walk_at "ed")
  | assumption)
local macro_rules | `(tactic| walk_at "ea") => `(tactic| first | exact ea_nil | (refine ea_cons ?_ ?_; walk_at "ed"; walk_at "ea"))

abbrev s__law_is_ask : Stmt := topS 67
abbrev N__law_is_ask : List Str := ["_law_state_here", "_law_thing"]
theorem sc__law_is_ask : FnScope N__law_is_ask ["_law_state_here", "_law_thing"] (defScope s__law_is_ask) := ⟨rfl, rfl, rfl, by decide +kernel, rfl, by decide +kernel, by decide +kernel⟩
def askD (st : St1) : D → Bool
  | .tup xs => askB st xs
  | _ => false
theorem askD_no {st : St1} {d : D} (h : tupB d = false) : askD st d = false := by
  cases d with
  | tup xs => cases h
  | _ => rfl
section
variable {P : Program} {w : World} {K : PySem.W.Frag} {mg : Str → Option Value} {base : Heap} {C : Addr}
def R_isaskD (K : PySem.W.Frag) (C : Addr) : List D → Hp → Pd → Prop := fun ds H P => ∃ a ms ties st d, ds = [.obj (.ref a), eT st, d] ∧ WebAt K C H a ms ties ∧ st.length = ms.length ∧ Th H d ∧ P = is (.bl (askD st d))
theorem ok_isaskD (T : HTxt mg) (W : WTxt K C) (g : GDef K mg "is_ask" s_is_ask ["web", "standing", "thing"]) (Gis_room : Def P w K mg base 3 "is_room" ["web", "thing"] (spD K (R_isroom K C))) :
    Def P w K mg base 4 "is_ask" ["web", "standing", "thing"] (spD K (R_isaskD K C)) := by
  refine defD g sc_is_ask (fun ds H Pd h => ?_) fun cdv A outer s f H vs ds Pd Q E hr r h q => ?_
  · obtain ⟨a, ms, ties, st, d, rfl, _⟩ := h
    rfl
  obtain ⟨a, ms, ties, st, d, rfl, x, hl, hd, rfl⟩ := h
  obtain ⟨v1, v2, v3, rfl, r1, r2, r3⟩ := rps3 r
  refine ⟨_, (pss_cons (ps_if (PW.pt (pw_or (pt_not (pt_val (pe_callB (kc_isi (K := K)) (by rfl) T.n_isinstance boot_isinstance (pa_cons (pv 2) (pa_cons (pe_bltn (v := V.ty "tuple") (by rfl) T.n_tuple boot_tuple rfl) pa_nil))))) (pw_or1 (pt_cmpR op_ne (pe_callB (kc_len (K := K)) (by rfl) T.n_len boot_len (pa_cons (pv 2) pa_nil)) pe_int (nomark _)))))
      (pss_one (ps_ret pe_bl))
      pss_nil)
    (pss_cons (ps_asg (pv 2) (kpg_tup (K := K) (n := 2) rfl (pgs_cons (pg_name (i := 3) sc_is_ask.nd rfl (Or.inl rfl)) (pgs_cons (pg_name (i := 4) sc_is_ask.nd rfl (Or.inl rfl)) pgs_nil))))
    (pss_cons (ps_if (PW.pt (pw_or (pt_not (pt_val (pe_callB (kc_isi (K := K)) (by rfl) T.n_isinstance boot_isinstance (pa_cons (pv 3) (pa_cons (pe_bltn (v := V.ty "str") (by rfl) T.n_str boot_str rfl) pa_nil))))) (pw_or1 (pt_not (pt_val (pe_def Gis_room (hr.mono (by decide)) (pa_cons (pv 0) (pa_cons (pv 4) pa_nil))))))))
      (pss_one (ps_ret pe_bl))
      pss_nil)
    (pss_cons (ps_set (i := 5) sc_is_ask.nd rfl (Or.inl rfl) (pe_ix (kix_tup (K := K)) (pe_ix (kix_tup (K := K)) (pv 1) (pv 4) (fun _ _ => rfl)) pe_int (fun _ _ => rfl)))
    (pss_one (ps_ret (pe_cmpR op_eq (pv 3) (pe_ifExp (pt_val (pv 5)) pe_str pe_str) (nomark _)))))))), ?_⟩
  by_cases hp : tupB d = false
  · refine q_whenB (b := true) (eb_eq (eb_or (a := true) (b := true) (eb_eq (eb_not (et_B (K := K) (ed_isTup (ed_var rfl r3) hd.tk))) (by rw [hp]; rfl)) fun h => nomatch h) rfl) (fun _ H1 e1 => s_retD ed_bl fun v H2 e2 r => q v _ H2 (e1.trans e2) (congrArg D.bl (askD_no hp).symm) r) fun h => nomatch h
  obtain ⟨xs, rfl⟩ : ∃ xs, d = .tup xs := by
    cases d with
    | tup xs => exact ⟨xs, rfl⟩
    | _ => exact absurd rfl hp
  obtain ⟨_, ht⟩ := hd.items
  have ed : askD st (.tup xs) = askB st xs := rfl
  rw [ed] at q
  refine q_whenB (b := decide (xs.length ≠ 2)) (eb_eq (eb_or (a := false) (b := decide (xs.length ≠ 2)) (eb_eq (eb_not (et_B (K := K) (ed_isTup (ed_var rfl r3) (.inl rfl)))) rfl) fun _ => eb_eq (et_test (K := K) (ed_neS (d1 := .int (xs.length : Int)) (d2 := .int 2) (ed_lenT (ed_var rfl r3)) ed_int rfl rfl rfl)) ?_) (Bool.false_or _)) (fun hb H1 e1 => ?_) fun hb H1 e1 => ?_
  · rw [vs_int]
    by_cases h2 : xs.length = 2
    · rw [decide_eq_true (show (xs.length : Int) = 2 by omega), decide_eq_false (fun h => h h2)]
      rfl
    · rw [decide_eq_false (show ¬ (xs.length : Int) = 2 by omega), decide_eq_true h2]
      rfl
  · have hn := of_decide_eq_true hb
    exact s_retD ed_bl fun v H2 e2 r => q v _ H2 (e1.trans e2) (by
      show D.bl false = D.bl _
      rw [askB_not fun w r e => hn (by rw [e]; rfl)]) r
  · have h2 : xs.length = 2 := Decidable.not_not.mp (of_decide_eq_false hb)
    obtain ⟨x1, x2, rfl⟩ : ∃ x1 x2, xs = [x1, x2] := by
      match xs, h2 with
      | [x1, x2], _ => exact ⟨x1, x2, rfl⟩
    have t1 : Th H x1 := ht x1 (List.mem_cons_self ..)
    have t2 : Th H x2 := ht x2 (List.mem_cons_of_mem _ (List.mem_cons_self ..))
    refine q_tup2 (K := K) (d1 := x1) (d2 := x2) (ed_var rfl (r3.le e1)) fun v4 v5 H2 e2 r4 r5 => ?_
    have e12 := e1.trans e2
    refine q_whenB (b := !strB x1 || !btw 0 ((ms.length : Int) - 1) x2) (eb_or (eb_not (et_B (K := K) (ed_isStr (ed_var rfl r4) (t1.le e12).tk))) fun _ => eb_not (et_B (K := K) (ed_call (ea_cons (ed_var rfl (r1.le e12)) (ea_cons (ed_var rfl r5) ea_nil)) fun H3 e3 => ⟨a, ms, ties, x2, rfl, x.le (e12.trans e3), (t2.le (e12.trans e3)).tk, rfl⟩))) (fun hb3 H3 e3 => ?_) fun hb3 H3 e3 => ?_
    · exact s_retD ed_bl fun v H4 e4 r => q v _ H4 ((e12.trans e3).trans e4) (by
        show D.bl false = D.bl _
        have : askB st [x1, x2] = false := by
          cases hx : askB st [x1, x2] with
          | false => rfl
          | true =>
            exfalso
            unfold askB at hx
            split at hx
            · rename_i w r hw
              injection hw with hw1 hw2
              injection hw2 with hw2 _
              subst hw1 hw2
              obtain ⟨h0, h1, _⟩ := askB_iff.mp hx
              rw [btw_room h0 (by rw [← hl]; exact h1)] at hb3
              cases hb3
            · cases hx
        rw [this]) r
    · rw [Bool.or_eq_false_iff, Bool.not_eq_false', Bool.not_eq_false'] at hb3
      obtain ⟨w', rfl⟩ : ∃ w', x1 = .str w' := by
        cases x1 with
        | str w' => exact ⟨w', rfl⟩
        | _ => cases hb3.1
      obtain ⟨rm, rfl⟩ : ∃ rm, x2 = .int rm := by
        cases x2 with
        | int i => exact ⟨i, rfl⟩
        | _ => cases hb3.2
      have hrm : 0 ≤ rm ∧ rm < st.length := by
        have h := hb3.2
        replace h : (decide (0 ≤ rm) && decide (rm ≤ (ms.length : Int) - 1)) = true := h
        rw [Bool.and_eq_true, decide_eq_true_iff, decide_eq_true_iff] at h
        omega
      have hst : (st.map eR)[rm.toNat]? = some (eR (stAt st rm)) := map_get (st_get hrm.1 hrm.2)
      refine q_asgD (K := K) (d := .bl (stAt st rm).1) (ed_ixT (ds := [_, _]) (ed_ixT (d := eR (stAt st rm)) (ed_var rfl (r2.le (e12.trans e3))) (ed_var rfl (r5.le e3)) hrm.1 hst) ed_int (by decide) rfl) fun v6 H4 e4 r6 => ?_
      refine s_retD (K := K) (ed_eq (ed_eqS (d1 := .str w') (d2 := .str (if (stAt st rm).1 = true then ("back" : Str) else "give")) (ed_var rfl (r4.le (e3.trans e4))) (ep_if (b := (stAt st rm).1) (et_B (K := K) (ed_var rfl r6)) (fun hb => ?_) fun hb => ?_) rfl rfl rfl) (congrArg D.bl (vs_str _ _))) fun v H5 e5 r => q v _ H5 (((e12.trans e3).trans e4).trans e5) ?_ r
      · rw [if_pos hb]
        exact ed_str
      · rw [hb, if_neg Bool.false_ne_true]
        exact ed_str
      · show D.bl _ = D.bl (decide (0 ≤ rm) && decide (rm < st.length) && decide _)
        rw [decide_eq_true hrm.1, decide_eq_true hrm.2]
        rfl

def R_lask : List D → Hp → Pd → Prop := fun ds H P => ∃ st d, ds = [eS st, d] ∧ st.length ≤ 60 ∧ Th H d ∧ P = is (.bl (askD st d))
theorem ok_lask (T : HTxt mg) (g : GDef K mg "_law_is_ask" s__law_is_ask ["_law_state_here", "_law_thing"]) (G_law_int : Def P w K mg base 1 "_law_int" ["_law_thing", "_law_least", "_law_most"] (spD K R_lint)) :
    Def P w K mg base 2 "_law_is_ask" ["_law_state_here", "_law_thing"] (spD K R_lask) := by
  refine defD g sc__law_is_ask (fun ds H Pd h => ?_) fun cdv A outer s f H vs ds Pd Q E hr r h q => ?_
  · obtain ⟨st, d, rfl, _⟩ := h
    rfl
  obtain ⟨st, d, rfl, hl, hd, rfl⟩ := h
  obtain ⟨v1, v2, rfl, r1, r2⟩ := rps2 r
  refine ⟨_, (pss_cons (ps_if (PW.pt (pw_or (pt_not (pt_val (pe_callB (kc_isi (K := K)) (by rfl) T.n_isinstance boot_isinstance (pa_cons (pv 1) (pa_cons (pe_bltn (v := V.ty "tuple") (by rfl) T.n_tuple boot_tuple rfl) pa_nil))))) (pw_or (pt_cmpR op_ne (pe_callB (kc_len (K := K)) (by rfl) T.n_len boot_len (pa_cons (pv 1) pa_nil)) pe_int (nomark _)) (pw_or1 (pt_not (pt_val (pe_callB (kc_isi (K := K)) (by rfl) T.n_isinstance boot_isinstance (pa_cons (pe_ix (kix_tup (K := K)) (pv 1) pe_int (fun _ _ => rfl)) (pa_cons (pe_bltn (v := V.ty "str") (by rfl) T.n_str boot_str rfl) pa_nil)))))))))
      (pss_one (ps_ret pe_bl))
      pss_nil)
    (pss_one (ps_ret (pe_and (pe_def G_law_int (hr.mono (by decide)) (pa_cons (pe_ix (kix_tup (K := K)) (pv 1) pe_int (fun _ _ => rfl)) (pa_cons pe_int (pa_cons (pe_op op_sub (pe_callB (kc_len (K := K)) (by rfl) T.n_len boot_len (pa_cons (pv 0) pa_nil)) pe_int) pa_nil)))) (pe_one (pe_cmpR op_eq (pe_ix (kix_tup (K := K)) (pv 1) pe_int (fun _ _ => rfl)) (pe_ifExp (pt_val (pe_ix (kix_tup (K := K)) (pe_ix (kix_list (K := K)) (pv 0) (pe_ix (kix_tup (K := K)) (pv 1) pe_int (fun _ _ => rfl)) (fun _ _ => rfl)) pe_int (fun _ _ => rfl))) pe_str pe_str) (nomark _))))))), ?_⟩
  have bad : ∀ {H1 : Hp}, Le H H1 → askD st d = false → tRet (tC (.bl false)) { nx := fun _ H' => Q .non H', rt := Q } [some v1, some v2] H1 := fun e hd => s_retD ed_bl fun v H2 e2 r => q v _ H2 (e.trans e2) (congrArg D.bl hd.symm) r
  by_cases hp : tupB d = false
  · exact q_whenB (b := true) (eb_eq (eb_or (a := true) (b := true) (eb_eq (eb_not (et_B (K := K) (ed_isTup (ed_var rfl r2) hd.tk))) (by rw [hp]; rfl)) fun h => nomatch h) rfl) (fun _ H1 e1 => bad e1 (askD_no hp)) fun h => nomatch h
  obtain ⟨xs, rfl⟩ : ∃ xs, d = .tup xs := by
    cases d with
    | tup xs => exact ⟨xs, rfl⟩
    | _ => exact absurd rfl hp
  obtain ⟨_, ht⟩ := hd.items
  have hT : EB (tNot (tB (tCB (rIsi K) (tCons (tVar 1) (tCons (tC (.ty "tuple")) tNil))))) (L2.start N__law_is_ask [v1, v2]) H false := eb_eq (eb_not (et_B (K := K) (ed_isTup (ed_var rfl r2) hd.tk))) rfl
  have hL : EB (tTest (tOp rNe (tCB (fun xs H Q => ∃ p ys, xs = [.ref p] ∧ (SqL K H p ys ∨ SqT K H p ys) ∧ Q (.int ys.length) H) (tCons (tVar 1) tNil)) (tC (.int 2)))) (L2.start N__law_is_ask [v1, v2]) H (decide (xs.length ≠ 2)) := eb_eq (et_test (K := K) (ed_neS (d1 := .int (xs.length : Int)) (d2 := .int 2) (ed_lenT (ed_var rfl r2)) ed_int rfl rfl rfl)) (by
    rw [vs_int]
    by_cases h2 : xs.length = 2
    · rw [decide_eq_true (show (xs.length : Int) = 2 by omega), decide_eq_false (fun h => h h2)]
      rfl
    · rw [decide_eq_false (show ¬ (xs.length : Int) = 2 by omega), decide_eq_true h2]
      rfl)
  by_cases hn : xs.length = 2
  rotate_left
  · refine q_whenB (b := true) (eb_eq (eb_or (a := false) (b := true) hT fun _ => eb_eq (eb_or (a := true) (b := true) (eb_eq hL (decide_eq_true hn)) fun h => nomatch h) rfl) rfl) (fun _ H1 e1 => bad e1 ?_) fun h => nomatch h
    exact askB_not fun w r e => hn (by rw [e]; rfl)
  obtain ⟨x1, x2, rfl⟩ : ∃ x1 x2, xs = [x1, x2] := by
    match xs, hn with
    | [x1, x2], _ => exact ⟨x1, x2, rfl⟩
  have t1 : Th H x1 := ht x1 (List.mem_cons_self ..)
  have t2 : Th H x2 := ht x2 (List.mem_cons_of_mem _ (List.mem_cons_self ..))
  refine q_whenB (b := !strB x1) (eb_eq (eb_or (a := false) (b := !strB x1) hT fun _ => eb_eq (eb_or (a := false) (b := !strB x1) (eb_eq hL (decide_eq_false fun h => h rfl)) fun _ => eb_not (et_B (K := K) (ed_isStr (ed_ixT (ds := [x1, x2]) (ed_var rfl r2) ed_int (by decide) rfl) t1.tk))) (Bool.false_or _)) (Bool.false_or _)) (fun hb H1 e1 => bad e1 ?_) fun hb H1 e1 => ?_
  · refine askB_not fun w r e => ?_
    injection e with e _
    rw [e] at hb
    cases hb
  · rw [Bool.not_eq_false'] at hb
    obtain ⟨w', rfl⟩ : ∃ w', x1 = .str w' := by
      cases x1 with
      | str w' => exact ⟨w', rfl⟩
      | _ => cases hb
    have p0 : ∀ {H2 : Hp}, Le H1 H2 → ED K (tOp (rIxT K) (tVar 1) (tC (.int 0))) (L2.start N__law_is_ask [v1, v2]) H2 (.str w') := fun e => ed_ixT (ds := [.str w', x2]) (ed_var rfl (r2.le (e1.trans e))) ed_int (by decide) rfl
    have p1 : ∀ {H2 : Hp}, Le H1 H2 → ED K (tOp (rIxT K) (tVar 1) (tC (.int 1))) (L2.start N__law_is_ask [v1, v2]) H2 x2 := fun e => ed_ixT (ds := [.str w', x2]) (ed_var rfl (r2.le (e1.trans e))) ed_int (by decide) rfl
    cases hb2 : btw 0 ((st.length : Int) - 1) x2 with
    | false =>
      refine s_retD (K := K) (d := .bl false) (ed_eq (ed_andV (a := false) (b := true) (ed_call (P := is (.bl false)) (ea_cons (p1 (Le.refl _)) (ea_cons ed_int (ea_cons (ed_I0 (f := fun i j => i - j) (ed_eq (ed_lenL (ed_var rfl (r1.le e1))) (by rw [List.length_map])) ed_int) ea_nil))) fun H3 e3 => ⟨x2, 0, (st.length : Int) - 1, rfl, (t2.le (e1.trans e3)).tk, by rw [hb2]⟩) fun h => nomatch h) rfl) fun v H2 e2 r => q v _ H2 (e1.trans e2) ?_ r
      show D.bl false = D.bl (askB st [.str w', x2])
      cases hx : askB st [.str w', x2] with
      | false => rfl
      | true =>
        exfalso
        unfold askB at hx
        split at hx
        · rename_i w r hw
          injection hw with hw1 hw2
          injection hw2 with hw2 _
          subst hw2
          skip
          obtain ⟨h0, h1, _⟩ := askB_iff.mp hx
          rw [btw_room h0 h1] at hb2
          cases hb2
        · cases hx
    | true =>
      obtain ⟨rm, rfl, m0, m1⟩ := btw_int hb2
      have hst : (st.map eR)[rm.toNat]? = some (eR (stAt st rm)) := map_get (st_get m0 (by omega))
      refine s_retD (K := K) (d := .bl (askB st [.str w', .int rm])) (ed_eq (ed_andV (a := true) (b := decide (w' = (if (stAt st rm).1 = true then ("back" : Str) else "give"))) (ed_call (P := is (.bl true)) (ea_cons (p1 (Le.refl _)) (ea_cons ed_int (ea_cons (ed_I0 (f := fun i j => i - j) (ed_eq (ed_lenL (ed_var rfl (r1.le e1))) (by rw [List.length_map])) ed_int) ea_nil))) fun H3 e3 => ⟨.int rm, 0, (st.length : Int) - 1, rfl, .inl rfl, by rw [hb2]⟩) fun _ => ed_eq (ed_eqS (d1 := .str w') (d2 := .str (if (stAt st rm).1 = true then ("back" : Str) else "give")) (p0 (Le.refl _)) (ep_if (b := (stAt st rm).1) (et_B (K := K) (ed_ixT (ds := [_, _]) (ed_ixL (d := eR (stAt st rm)) (ed_var rfl (r1.le e1)) (p1 (Le.refl _)) m0 hst) ed_int (by decide) rfl)) (fun hb => ?_) fun hb => ?_) rfl rfl rfl) (congrArg D.bl (vs_str _ _))) ?_) fun v H2 e2 r => q v _ H2 (e1.trans e2) rfl r
      · rw [if_pos hb]
        exact ed_str
      · rw [hb, if_neg Bool.false_ne_true]
        exact ed_str
      · show D.bl _ = D.bl (decide (0 ≤ rm) && decide (rm < st.length) && decide _)
        rw [decide_eq_true m0, decide_eq_true (show rm < (st.length : Int) by omega)]
        rfl
end
end W1

set_option maxRecDepth 100000
set_option maxHeartbeats 4000000
/-! rows judged by the program and by the law -/
namespace W1
open PySem PyProof.Rows L2
local macro_rules | `(tactic| walk_at "rp") => `(tactic| first | assumption | exact Rp.int _ | exact Rp.bl _ | exact Rp.str _ | exact Rp.non | exact Rp.obj _ | (refine Rp.le (by assumption) ?_; walk_at "rp"))
local macro_rules | `(tactic| walk_at "ed") => `(tactic| first
  | exact ed_int | exact ed_str | exact ed_bl | exact ed_non
  | (refine ed_var rfl ?_; walk_at "rp")
  | (refine ed_ixT (ds := [_, _]) ?_ ed_int (by decide) rfl; walk_at "ed")
  | (refine ed_I0 ?_ ?_ <;> walk_at "ed")
  | (refine ed_B0 ?_ ?_ <;> walk_at "ed")
  | (refine ed_eqS ?_ ?_ rfl rfl rfl <;> walk_at "ed")
  | assumption)
local macro_rules | `(tactic| walk_at "ea") => `(tactic| first | exact ea_nil | (refine ea_cons ?_ ?_; walk_at "ed"; walk_at "ea"))

/-- a deed as data: what is given back may bring one more number -/
def DD (dd : Deed) (dx : D) : Prop := dx = eD dd ∨ ∃ r, dd = .back r ∧ dx = .tup [.str "back", .int r, .int 0]
section
variable {P : Program} {w : World} {K : PySem.W.Frag} {mg : Str → Option Value} {base : Heap} {C : Addr}
def R_wdX (K : PySem.W.Frag) (C : Addr) : List D → Hp → Pd → Prop := fun ds H P => ∃ a ms ties st dd dx, ds = [.obj (.ref a), eT st, dx] ∧ DD dd dx ∧ WebAt K C H a ms ties ∧ StOk st ∧ st.length = ms.length ∧ 0 ≤ dd.room ∧ dd.room < ms.length ∧ P = is (eT (wdL ms st dd))
theorem ok_wdX (T : GTxt mg) (W : WTxt K C) (g : GDef K mg "with_deed" s_with_deed ["web", "standing", "deed"]) (Gkept_tags : Def P w K mg base 1 "kept_tags" ["web", "room"] (spD K (R_kept K C))) : Def P w K mg base 2 "with_deed" ["web", "standing", "deed"] (spD K (R_wdX K C)) := by
  refine defD g sc_with_deed (fun ds H Pd h => ?_) fun cdv A outer s f H vs ds Pd Q E hr r h q => ?_
  · obtain ⟨a, ms, ties, st, dd, dx, rfl, _⟩ := h
    rfl
  obtain ⟨a, ms, ties, st, dd, dx, rfl, hx, x, sok, hl, h0, h1, rfl⟩ := h
  obtain ⟨v1, v2, v3, rfl, r1, r2, r3⟩ := rps3 r
  refine ⟨_, (pss_cons (ps_set (i := 3) sc_with_deed.nd rfl (Or.inl rfl) (pe_ix (kix_tup (K := K)) (pv 2) pe_int (fun _ _ => rfl)))
    (pss_cons (ps_set (i := 4) sc_with_deed.nd rfl (Or.inl rfl) (pe_ix (kix_tup (K := K)) (pe_ix (kix_tup (K := K)) (pv 1) (pv 3) (fun _ _ => rfl)) pe_int (fun _ _ => rfl)))
    (Evl.pss_cut (ps_if (pt_cmpR op_eq (pe_ix (kix_tup (K := K)) (pv 2) pe_int (fun _ _ => rfl)) pe_str (nomark _))
      (pss_one (ps_set (i := 4) sc_with_deed.nd rfl (Or.inl rfl) (pe_slice (ksl_tup (K := K)) (pe_op (kop_catA (K := K)) (pe_tup (pa_cons (pe_ix (kix_tup (K := K)) (pv 2) pe_int (fun _ _ => rfl)) pa_nil)) (pv 4)) po_none (po_some (pe_def Gkept_tags (hr.mono (by decide)) (pa_cons (pv 0) (pa_cons (pv 3) pa_nil)))))))
      pss_nil)
    (pss_one (ps_ret (pe_op (kop_catA (K := K)) (pe_op (kop_catA (K := K)) (pe_slice (ksl_tup (K := K)) (pv 1) po_none (po_some (pv 3))) (pe_tup (pa_cons (pe_tup (pa_cons (pe_cmpR op_eq (pe_ix (kix_tup (K := K)) (pv 2) pe_int (fun _ _ => rfl)) pe_str (nomark _)) (pa_cons (pv 4) pa_nil))) pa_nil))) (pe_slice (ksl_tup (K := K)) (pv 1) (po_some (pe_op op_add (pv 3) pe_int)) po_none))))))), ?_⟩
  have hroom : ∀ {H1 : Hp} {σ : L2.St}, Le H H1 → σ[2]? = some (some v3) → ED K (tOp (rIxT K) (tVar 2) (tC (.int 1))) σ H1 (.int dd.room) := by
    intro H1 σ e hs
    rcases hx with rfl | ⟨rb, rfl, rfl⟩
    · cases dd with
      | give r t => exact ed_ixT (ds := [_, _, _]) (ed_var hs (r3.le e)) ed_int (by decide) rfl
      | back r => exact ed_ixT (ds := [_, _]) (ed_var hs (r3.le e)) ed_int (by decide) rfl
    · exact ed_ixT (ds := [_, _, _]) (ed_var hs (r3.le e)) ed_int (by decide) rfl
  have hg := st_get h0 (show dd.room < st.length by omega)
  have hgive : ∀ {H1 : Hp} {σ : L2.St}, Le H H1 → σ[2]? = some (some v3) → ED K (tOp rEq (tOp (rIxT K) (tVar 2) (tC (.int 0))) (tC (.str "give"))) σ H1 (.bl (isG dd)) := by
    intro H1 σ e hs
    rcases hx with rfl | ⟨rb, rfl, rfl⟩
    rotate_left
    · exact ed_eq (ed_eqS (d1 := .str "back") (d2 := .str "give") (ed_ixT (ds := [_, _, _]) (ed_var hs (r3.le e)) ed_int (by decide) rfl) ed_str rfl rfl rfl) (congrArg D.bl vs_bg)
    cases dd with
    | give r t => exact ed_eq (ed_eqS (d1 := .str "give") (d2 := .str "give") (ed_ixT (ds := [_, _, _]) (ed_var hs (r3.le e)) ed_int (by decide) rfl) ed_str rfl rfl rfl) (congrArg D.bl vs_gg)
    | back r => exact ed_eq (ed_eqS (d1 := .str "back") (d2 := .str "give") (ed_ixT (ds := [_, _]) (ed_var hs (r3.le e)) ed_int (by decide) rfl) ed_str rfl rfl rfl) (congrArg D.bl vs_bg)
  -- room = deed[1]
  refine q_asgD (K := K) (hroom (Le.refl _) rfl) fun v4 H1 e1 r4 => ?_
  -- tags = standing[room][1]
  refine q_asgD (K := K) (d := .tup ((stAt st dd.room).2.map .int)) (ed_ixT (ds := [_, _]) (ed_ixT (d := eR (stAt st dd.room)) (ed_var rfl (r2.le e1)) (ed_var rfl r4) h0 (map_get hg)) ed_int (by decide) rfl) fun v5 H2 e2 r5 => ?_
  refine q_cut (M := fun σ H' => ∃ v5, σ = [some v1, some v2, some v3, some v4, some v5] ∧ Le H2 H' ∧ Rp K H' v5 (.tup ((ntL ms st dd).map .int))) ?_ ?_
  · refine s_ifB (et_test (K := K) (hgive (σ := [some v1, some v2, some v3, some v4, some v5]) (e1.trans e2) rfl)) (fun hb H3 e3 => ?_) (fun hb H3 e3 => ?_)
    · cases dd with
      | back r => cases hb
      | give rm t =>
        obtain rfl : dx = eD (.give rm t) := by
          rcases hx with h | ⟨_, h, _⟩
          · exact h
          · cases h
        have e03 := (e1.trans e2).trans e3
        have tl := sok.tags _ (st_mem h0 (show (Deed.give rm t).room < st.length by omega))
        refine s_asgD (K := K) (d := .tup ((ntL ms st (.give rm t)).map .int)) (ed_eq (ed_slT (lo := none) (hi := some ((keptN ms rm : Nat) : Int)) (ed_catA (ds := [.int t]) (es := (stAt st rm).2.map D.int) (ed_tup (ea_cons (ed_ixT (ds := [_, _, _]) (ed_var rfl (r3.le e03)) ed_int (by decide) rfl) ea_nil) (by show 1 ≤ 100000; decide)) (ed_var rfl (r5.le e3)) ?_) eo_none (eo_some (ed_call (ea_cons (ed_var rfl (r1.le e03)) (ea_cons (ed_var rfl (r4.le (e2.trans e3))) ea_nil)) fun H4 e4 => ⟨a, ms, ties, rm, rfl, x.le (e03.trans e4), h0, h1, rfl⟩))) ?_) fun v H4 e4 r => ⟨v, rfl, e3.trans e4, r⟩
        · rw [List.length_map]
          have e5 : (Deed.give rm t).room = rm := rfl
          rw [e5] at tl
          show 1 + _ ≤ 100000
          omega
        · rw [cutG_hi _ _ (by omega), Int.toNat_natCast]
          show D.tup (((t :: (stAt st rm).2).map D.int).take _) = _
          rw [← List.map_take]
          rfl
    · cases dd with
      | give rm t => cases hb
      | back rm => exact ⟨v5, rfl, e3, r5.le e3⟩
  rintro σ H3 ⟨v5, rfl, e3, r5⟩
  have e03 := (e1.trans e2).trans e3
  have hlt : dd.room.toNat < st.length := by omega
  refine s_retD (K := K) (d := eT (wdL ms st dd)) (ed_eq (ed_catA (ds := (st.map eR).take dd.room.toNat ++ [eR (isG dd, ntL ms st dd)]) (es := (st.map eR).drop (dd.room.toNat + 1)) (ed_catA (ds := (st.map eR).take dd.room.toNat) (es := [eR (isG dd, ntL ms st dd)]) (ed_eq (ed_slT (lo := none) (hi := some dd.room) (ed_var rfl (r2.le e03)) eo_none (eo_some (ed_var rfl (r4.le (e2.trans e3))))) ?_)
    (ed_tup (ea_cons (ed_tup (ea_cons (hgive e03 rfl) (ea_cons (ed_var rfl r5) ea_nil)) (by show 2 ≤ 100000; decide)) ea_nil) (by show 1 ≤ 100000; decide)) ?_)
    (ed_eq (ed_slT (lo := some (dd.room + 1)) (hi := none) (ed_var rfl (r2.le e03)) (eo_some (ed_I0 (f := fun i j => i + j) (ed_var rfl (r4.le (e2.trans e3))) ed_int)) eo_none) ?_) ?_) ?_) fun v H4 e4 r => q v _ H4 (e03.trans e4) rfl r
  · rw [cutG_hi _ _ h0]
  · have := sok.few
    have := List.length_take_le dd.room.toNat (st.map eR)
    rw [List.length_take, List.length_map]
    show _ + 1 ≤ 100000
    omega
  · have e7 : (dd.room + 1).toNat = dd.room.toNat + 1 := by omega
    rw [cutG_lo _ _ (by omega), e7]
  · have := sok.few
    rw [List.length_append, List.length_take, List.length_drop, List.length_map]
    show _ + 1 + _ ≤ 100000
    omega
  · rw [wdL_eq, set_cut hlt]
    show D.tup _ = D.tup _
    rw [List.map_append, List.map_append, List.map_take, List.map_drop]
    rfl

end
end W1

set_option maxRecDepth 100000
set_option maxHeartbeats 4000000
/-! rows of any kind -/
namespace W1
open PySem PyProof.Rows L2
local macro_rules | `(tactic| walk_at "rp") => `(tactic| first | assumption | exact Rp.int _ | exact Rp.bl _ | exact Rp.str _ | exact Rp.non | exact Rp.obj _ | (refine Rp.le (by assumption) ?_; walk_at "rp"))
local macro_rules | `(tactic| walk_at "ed") => `(tactic| first
  | exact ed_int | exact ed_str | exact ed_bl | exact ed_non
  | (refine ed_var rfl ?_; walk_at "rp")
  | (refine ed_ixT (ds := [_, _]) ?_ ed_int (by decide) rfl; walk_at "ed")
  | (refine ed_I0 ?_ ?_ <;> walk_at "ed")
  | (refine ed_B0 ?_ ?_ <;> walk_at "ed")
  | (refine ed_eqS ?_ ?_ rfl rfl rfl <;> walk_at "ed")
  | assumption)
local macro_rules | `(tactic| walk_at "ea") => `(tactic| first | exact ea_nil | (refine ea_cons ?_ ?_; walk_at "ed"; walk_at "ea"))

section
variable {K : PySem.W.Frag} {σ : L2.St} {H : Hp} {te : TE} {tu tz : TS} {D1 : Ends}
/-- enumerate of a list or of a tuple -/
def iEnumE (K : PySem.W.Frag) (A : TA) : TI := fun σ H R => iEnum K A σ H R ∨ iEnumT K A σ H R
theorem kpi_enumE {X : Cx} {e : Expr} {ta : TA} {p pos tp : Pos} {elts : List Expr} {kk : Nat} (hg : Gl X "enumerate") (hm : X.mg "enumerate" = none) (ha : PA X [e] ta) (hs : starEach [e] X.env = [(false, eval e X.env)] := by rfl) (h : X.K = K := by rfl) :
    PI X (.Tuple elts kk tp) (.Call (.Name "enumerate" p) [e] [] pos) (iEnumE K ta) := by
  subst h
  refine ⟨fun pins s σ H R I h => ?_⟩
  rcases h with h | h
  · exact (pi_enum hg hm ha hs).run pins s σ H R I h
  · exact (pi_enumT hg hm ha hs).run pins s σ H R I h
theorem q_forEE {A : TA} {j l : Nat} {d0 : D} {ds : List D} (hd0 : d0 = .tup ds ∨ d0 = .lst ds) (h : EDA K A σ H [d0]) (nl : ∀ d ∈ ds, NoL d)
    (k : ∀ H1, Le H H1 → ∃ Pv : Nat → L2.St → Hp → Prop, Pv 0 σ H1 ∧ (∀ i σ' H', i ≤ ds.length → Pv i σ' H' → Le H1 H') ∧
      (∀ (i : Nat) d v σ' H' H2, ds[i]? = some d → Pv i σ' H' → Le H' H2 → Rp K H2 v d → tu (bodyEnds { D1 with nx := tz D1 } (Pv (i + 1))) ((σ'.set j (some (.int (i : Int)))).set l (some v)) H2) ∧ ∀ σ' H', Pv ds.length σ' H' → tz D1 σ' H') :
    tSeq (tFor (iEnumE K A) (gTup K 2 (gCons (gName j) (gCons (gName l) gNil))) tu) tz D1 σ H := by
  rcases hd0 with rfl | rfl
  · refine Or.inr (s_forE (D1 := { D1 with nx := tz D1 }) h nl fun H1 e => ?_)
    obtain ⟨Pv, h0, hle, hs, hd⟩ := k H1 e
    exact ⟨Pv, h0, fun i σ' H' hi q => (hle i σ' H' hi q).t, fun i d v σ' H' H2 h1 q e2 r => ⟨rfl, hs i d v σ' H' H2 h1 q e2 r⟩, hd⟩
  · exact Or.inl (s_forEL (D1 := { D1 with nx := tz D1 }) h k)
theorem ed_isiLT {d : D} (h : ED K te σ H d) (no : noObj d = true) : ED K (tCB (rIsiT K) (tCons te (tCons (tTup (tCons (tC (.ty "list")) (tCons (tC (.ty "tuple")) tNil))) tNil))) σ H (.bl (isSeq d)) := fun H1 e Q q => h H1 e _ fun v d' H2 e2 p r => by
  obtain rfl : d' = d := p
  refine ⟨(by decide), fun a na => ⟨v, a, _, .type (tyD d'), [.type "list", .type "tuple"], isSeq d', rfl, upd_same, .cons (.ty "list") (.cons (.ty "tuple") .nil), tyx_of (noObj_ne no) (r.le (Le.new na)), ?_, q _ _ _ (e2.trans (Le.new na)) rfl (.bl _)⟩⟩
  have t1 : PySem.W.kitOne K (.type (tyD d')) (.type "list") = some (isLstD d') := kit_ty (kd_lst no)
  have t2 : PySem.W.kitOne K (.type (tyD d')) (.type "tuple") = some (isTupD d') := kit_ty (kd_tup no)
  unfold PySem.W.kitAny
  rw [t1]
  cases d' with
  | lst xs => rfl
  | _ =>
    show PySem.W.kitAny K _ [.type "tuple"] = _
    unfold PySem.W.kitAny
    rw [t2]
    rfl
end
end W1

set_option maxRecDepth 100000
set_option maxHeartbeats 4000000
/-! the first that is no ask -/
namespace W1
open PySem PyProof.Rows L2
local macro_rules | `(tactic| walk_at "rp") => `(tactic| first | assumption | exact Rp.int _ | exact Rp.bl _ | exact Rp.str _ | exact Rp.non | exact Rp.obj _ | (refine Rp.le (by assumption) ?_; walk_at "rp"))
local macro_rules | `(tactic| walk_at "ed") => `(tactic| first
  | exact ed_int | exact ed_str | exact ed_bl | exact ed_non
  | (refine ed_var rfl ?_; walk_at "rp")
  | (refine ed_ixT (ds := [_, _]) ?_ ed_int (by decide) rfl; walk_at "ed")
  | (refine ed_I0 ?_ ?_ <;> walk_at "ed")
  | (refine ed_B0 ?_ ?_ <;> walk_at "ed")
  | (refine ed_eqS ?_ ?_ rfl rfl rfl <;> walk_at "ed")
  | assumption)
local macro_rules | `(tactic| walk_at "ea") => `(tactic| first | exact ea_nil | (refine ea_cons ?_ ?_; walk_at "ed"; walk_at "ea"))

abbrev s_first_no_ask : Stmt := topS 34
abbrev N_first_no_ask : List Str := ["web", "things", "standing", "at", "thing"]
theorem sc_first_no_ask : FnScope N_first_no_ask ["web", "things"] (defScope s_first_no_ask) := ⟨rfl, rfl, rfl, by decide +kernel, rfl, by decide +kernel, by decide +kernel⟩
/-- the deed that an ask stands for -/
def dA : D → Deed
  | .tup [.str w, .int r] => if w = "back" then .back r else .give r 0
  | _ => .back 0
def fb : Nat → St1 → List D → D
  | _, _, [] => .non
  | i, st, d :: ds => if askD st d = true then fb (i + 1) (doneL st (dA d)) ds else .int (i : Int)
structure StB (n i : Nat) (st : St1) : Prop where
  len : st.length = n
  shown : ∀ x ∈ st, x.1 = true → x.2 ≠ []
  tags : ∀ x ∈ st, x.2.length ≤ i
theorem StB.start (n : Nat) : StB n 0 (List.replicate n (false, [])) := by
  refine ⟨List.length_replicate, fun x hx => ?_, fun x hx => ?_⟩
  · rw [List.eq_of_mem_replicate hx]
    exact fun h => nomatch h
  · rw [List.eq_of_mem_replicate hx]
    exact Nat.le_refl _
theorem StB.ok {n i : Nat} {st : St1} (h : StB n i st) (hn : n ≤ 60) (hi : i ≤ 5000) : StOk st := ⟨by rw [h.len]; exact hn, h.shown, fun x hx => Nat.le_trans (h.tags x hx) hi⟩
theorem StB.done {n i : Nat} {st : St1} {dd : Deed} (h : StB n i st) (h0 : 0 ≤ dd.room) (h1 : dd.room < n) : StB n (i + 1) (doneL st dd) := by
  obtain ⟨a, b, c⟩ := h
  cases dd with
  | give r t =>
    refine ⟨by rw [doneL_len, a], fun x hx => ?_, fun x hx => ?_⟩
    · rcases mem_set_of hx with rfl | hx
      · exact fun _ e => nomatch e
      · exact b x hx
    · rcases mem_set_of hx with rfl | hx
      · have := c _ (st_mem (st := st) h0 (by omega))
        exact Nat.succ_le_succ this
      · have := c x hx
        omega
  | back r =>
    refine ⟨by rw [doneL_len, a], fun x hx => ?_, fun x hx => ?_⟩
    · rcases mem_set_of hx with rfl | hx
      · exact fun e => nomatch e
      · exact b x hx
    · rcases mem_set_of hx with rfl | hx
      · have := c _ (st_mem (st := st) h0 (by omega))
        exact Nat.le_succ_of_le this
      · have := c x hx
        omega
theorem ask_is {st : St1} {d : D} (h : askD st d = true) : ∃ w r, d = .tup [.str w, .int r] ∧ 0 ≤ r ∧ r < st.length ∧ (w = "back" ∧ (stAt st r).1 = true ∨ w = "give" ∧ (stAt st r).1 = false) := by
  cases d with
  | tup xs =>
    have h' : askB st xs = true := h
    unfold askB at h'
    split at h'
    · rename_i w r
      obtain ⟨h0, h1, h2⟩ := askB_iff.mp (show askB st [.str w, .int r] = true from h)
      refine ⟨w, r, rfl, h0, h1, ?_⟩
      cases hs : (stAt st r).1 with
      | true =>
        rw [hs] at h2
        exact .inl ⟨h2, rfl⟩
      | false =>
        rw [hs] at h2
        exact .inr ⟨h2, rfl⟩
    · cases h'
  | _ => cases h
theorem dA_room {w : Str} {r : Int} : (dA (.tup [.str w, .int r])).room = r := by
  show (if w = "back" then Deed.back r else Deed.give r 0).room = r
  split <;> rfl
theorem dA_DD {st : St1} {w : Str} {r : Int} (h : w = "back" ∨ w = "give") : DD (dA (.tup [.str w, .int r])) (.tup [.str w, .int r, .int 0]) := by
  rcases h with rfl | rfl
  · refine .inr ⟨r, ?_, rfl⟩
    show (if ("back" : Str) = "back" then Deed.back r else Deed.give r 0) = _
    rw [if_pos rfl]
  · refine .inl ?_
    show _ = eD (if ("give" : Str) = "back" then Deed.back r else Deed.give r 0)
    rw [if_neg ne_gb]
    rfl
theorem ask_cut {ms : List Int} {st : St1} {d : D} : askD (cutSt ms st) d = askD st d := by
  cases d with
  | tup xs =>
    show askB (cutSt ms st) xs = askB st xs
    unfold askB
    split
    · rename_i w r
      rw [cut_len]
      by_cases h0 : 0 ≤ r
      · by_cases h1 : r < st.length
        · rw [cut_at ms st h0 h1]
        · rw [decide_eq_false h1, Bool.and_false, Bool.false_and, Bool.false_and]
      · simp only [decide_eq_false h0, Bool.false_and]
    · rfl
  | _ => rfl
theorem fb_turn {i : Nat} {st : St1} {ds : List D} {d : D} (h : ds[i]? = some d) : fb i st (ds.drop i) = if askD st d = true then fb (i + 1) (doneL st (dA d)) (ds.drop (i + 1)) else .int (i : Int) := by
  have hi := (List.getElem?_eq_some_iff.mp h).1
  rw [List.drop_eq_getElem_cons hi, show ds[i] = d from (List.getElem?_eq_some_iff.mp h).2]
  rfl
section
variable {P : Program} {w : World} {K : PySem.W.Frag} {mg : Str → Option Value} {base : Heap} {C : Addr}
def R_fna (K : PySem.W.Frag) (C : Addr) : List D → Hp → Pd → Prop := fun ds H P => ∃ a ms ties d0 xs, ds = [.obj (.ref a), d0] ∧ WebAt K C H a ms ties ∧ 1 ≤ ms.length ∧ ms.length ≤ 60 ∧ (d0 = .tup xs ∨ d0 = .lst xs) ∧ xs.length ≤ 5000 ∧ (∀ x ∈ xs, Th H x) ∧ P = is (fb 0 (List.replicate ms.length (false, [])) xs)
theorem ok_fna (T : HTxt mg) (g : GDef K mg "first_no_ask" s_first_no_ask ["web", "things"]) (Gbegun : Def P w K mg base 1 "begun" ["web"] (spD K (R_begun K C))) (Gis_ask : Def P w K mg base 4 "is_ask" ["web", "standing", "thing"] (spD K (R_isaskD K C))) (Gwith_deed : Def P w K mg base 2 "with_deed" ["web", "standing", "deed"] (spD K (R_wdX K C))) :
    Def P w K mg base 6 "first_no_ask" ["web", "things"] (spD K (R_fna K C)) := by
  refine defD g sc_first_no_ask (fun ds H Pd h => ?_) fun cdv A outer s f H vs ds Pd Q E hr r h q => ?_
  · obtain ⟨a, ms, ties, d0, xs, rfl, _⟩ := h
    rfl
  obtain ⟨a, ms, ties, d0, xs, rfl, x, h1, h60, hd0, hz, ht, rfl⟩ := h
  obtain ⟨v1, v2, rfl, r1, r2⟩ := rps2 r
  have ev := rp_obj r1
  subst ev
  refine ⟨_, (pss_cons (ps_set (i := 2) sc_first_no_ask.nd rfl (Or.inl rfl) (pe_def Gbegun (hr.mono (by decide)) (pa_cons (pv 0) pa_nil)))
    (pss_cons (ps_for PassesOwn.never rfl (kpi_enumE (K := K) (by rfl) T.n_enumerate (pa_cons (pv 1) pa_nil)) (kpg_tup (K := K) (n := 2) rfl (pgs_cons (pg_name (i := 3) sc_first_no_ask.nd rfl (Or.inl rfl)) (pgs_cons (pg_name (i := 4) sc_first_no_ask.nd rfl (Or.inl rfl)) pgs_nil)))
      (pss_cons (ps_if (pt_not (pt_val (pe_def Gis_ask (hr.mono (by decide)) (pa_cons (pv 0) (pa_cons (pv 2) (pa_cons (pv 4) pa_nil))))))
      (pss_one (ps_ret (pv 3)))
      pss_nil)
    (pss_one (ps_set (i := 2) sc_first_no_ask.nd rfl (Or.inl rfl) (pe_def Gwith_deed (hr.mono (by decide)) (pa_cons (pv 0) (pa_cons (pv 2) (pa_cons (pe_op (kop_catA (K := K)) (pv 4) (pe_tup (pa_cons pe_int pa_nil))) pa_nil))))))))
    (pss_one (ps_ret pe_non)))), ?_⟩
  refine q_asgD (K := K) (d := eT (List.replicate ms.length (false, []))) (ed_call (ea_cons (ed_var rfl (.obj (.ref a))) ea_nil) fun H1 e1 => ⟨a, ms, ties, rfl, x.le e1, h1, h60, rfl⟩) fun v3 H1 e1 r3 => ?_
  refine q_forEE (K := K) hd0 (ea_cons (ed_var rfl (r2.le e1)) ea_nil) (fun d hd => (ht d hd).noL) fun H2 e2 => ?_
  refine ⟨fun i σ H' => ∃ st u y z, σ = [some (.ref a), some v2, some u, y, z] ∧ Le H2 H' ∧ i ≤ xs.length ∧ StB ms.length i st ∧ fb i st (xs.drop i) = fb 0 (List.replicate ms.length (false, [])) xs ∧ Rp K H' u (eT (cutSt ms st)), ⟨List.replicate ms.length (false, []), v3, none, none, rfl, Le.refl _, Nat.zero_le _, StB.start _, by rw [List.drop_zero], by rw [cut_start]; exact r3.le e2⟩, ?_, ?_, ?_⟩
  · rintro i σ H' _ ⟨_, _, _, _, _, e, _⟩
    exact e
  · rintro i d v σ H' H3 hd ⟨st, u, y, z, rfl, e, _, sb, hf, ru⟩ e3 rv
    have hi := (List.getElem?_eq_some_iff.mp hd).1
    have td : Th H d := ht d (List.mem_of_getElem? hd)
    have e03 := ((e1.trans e2).trans e).trans e3
    rw [fb_turn hd] at hf
    refine q_whenB (b := !askD st d) (eb_not (et_B (K := K) (ed_call (P := is (.bl (askD st d))) (ea_cons (ed_var rfl (.obj (.ref a))) (ea_cons (ed_var rfl (ru.le e3)) (ea_cons (ed_var rfl rv) ea_nil))) fun H4 e4 => ⟨a, ms, ties, cutSt ms st, d, rfl, x.le (e03.trans e4), by rw [cut_len, sb.len], td.le (e03.trans e4), by rw [ask_cut]⟩))) (fun hb H4 e4 => ?_) fun hb H4 e4 => ?_
    · rw [Bool.not_eq_true'] at hb
      rw [hb, if_neg Bool.false_ne_true] at hf
      exact s_retD (K := K) (d := .int (i : Int)) (ed_var rfl (.int _)) fun v' H5 e5 r' => q v' _ H5 ((e03.trans e4).trans e5) hf r'
    · rw [Bool.not_eq_false'] at hb
      obtain ⟨w', rm, rfl, m0, m1, hw⟩ := ask_is hb
      rw [hb, if_pos rfl] at hf
      have hw' : w' = "back" ∨ w' = "give" := hw.imp (fun h => h.1) fun h => h.1
      have rmm : (dA (.tup [.str w', .int rm])).room = rm := dA_room
      have sok := sb.ok h60 (by omega)
      refine s_asgD (K := K) (d := eT (cutSt ms (doneL st (dA (.tup [.str w', .int rm]))))) (ed_eq (ed_call (P := is (eT (wdL ms (cutSt ms st) (dA (.tup [.str w', .int rm]))))) (ea_cons (ed_var rfl (.obj (.ref a))) (ea_cons (ed_var rfl (ru.le (e3.trans e4))) (ea_cons (ed_catA (ds := [.str w', .int rm]) (es := [.int 0]) (ed_var rfl (rv.le e4)) (ed_tup (ea_cons ed_int ea_nil) (by show 1 ≤ 100000; decide)) (by show 3 ≤ 100000; decide)) ea_nil))) fun H5 e5 => ⟨a, ms, ties, cutSt ms st, dA (.tup [.str w', .int rm]), _, rfl, dA_DD (st := st) hw', x.le ((e03.trans e4).trans e5), cut_ok sok, by rw [cut_len, sb.len], by rw [rmm]; exact m0, by rw [rmm, ← sb.len]; exact m1, rfl⟩) (by rw [cut_wd (by rw [rmm]; exact m0) (by rw [rmm]; exact m1)])) fun v' H5 e5 r' => ?_
      exact ⟨doneL st (dA (.tup [.str w', .int rm])), v', some (.int (i : Int)), some v, rfl, ((e.trans e3).trans e4).trans e5, hi, sb.done (by rw [rmm]; exact m0) (by rw [rmm, ← sb.len]; exact m1), hf, r'⟩
  · rintro σ H' ⟨st, u, y, z, rfl, e, _, sb, hf, ru⟩
    rw [List.drop_length] at hf
    exact s_retD (K := K) (d := .non) ed_non fun v' H5 e5 r' => q v' _ H5 (((e1.trans e2).trans e).trans e5) hf r'
end
end W1

set_option maxRecDepth 100000
set_option maxHeartbeats 4000000
/-! is_row, and the law's own judging of rows -/
namespace W1
open PySem PyProof.Rows L2
local macro_rules | `(tactic| walk_at "rp") => `(tactic| first | assumption | exact Rp.int _ | exact Rp.bl _ | exact Rp.str _ | exact Rp.non | exact Rp.obj _ | (refine Rp.le (by assumption) ?_; walk_at "rp"))
local macro_rules | `(tactic| walk_at "ed") => `(tactic| first
  | exact ed_int | exact ed_str | exact ed_bl | exact ed_non
  | (refine ed_var rfl ?_; walk_at "rp")
  | (refine ed_ixT (ds := [_, _]) ?_ ed_int (by decide) rfl; walk_at "ed")
  | (refine ed_I0 ?_ ?_ <;> walk_at "ed")
  | (refine ed_B0 ?_ ?_ <;> walk_at "ed")
  | (refine ed_eqS ?_ ?_ rfl rfl rfl <;> walk_at "ed")
  | assumption)
local macro_rules | `(tactic| walk_at "ea") => `(tactic| first | exact ea_nil | (refine ea_cons ?_ ?_; walk_at "ed"; walk_at "ea"))

abbrev s_is_row : Stmt := topS 32
abbrev N_is_row : List Str := ["web", "thing"]
theorem sc_is_row : FnScope N_is_row ["web", "thing"] (defScope s_is_row) := ⟨rfl, rfl, rfl, by decide +kernel, rfl, by decide +kernel, by decide +kernel⟩
abbrev s__law_first_none : Stmt := topS 62
abbrev N__law_first_none : List Str := ["_law_parts_here", "_law_thing", "_law_state_here", "_law_at", "_law_ask"]
theorem sc__law_first_none : FnScope N__law_first_none ["_law_parts_here", "_law_thing"] (defScope s__law_first_none) := ⟨rfl, rfl, rfl, by decide +kernel, rfl, by decide +kernel, by decide +kernel⟩
/-- what may be handed in for a row -/
inductive Rw (H : Hp) : D → Prop
  | tup {xs : List D} : xs.length ≤ 5000 → (∀ x ∈ xs, Th H x) → Rw H (.tup xs)
  | lst {xs : List D} : xs.length ≤ 5000 → (∀ x ∈ xs, Th H x) → Rw H (.lst xs)
  | sc {d : D} : sca d = true → Rw H d
  | dict {p : Addr} : H p = some (.dK []) → Rw H (.obj (.ref p))
theorem Rw.le {H H' : Hp} {d : D} (e : Le H H') (h : Rw H d) : Rw H' d := by
  cases h with
  | tup a b => exact .tup a fun x hx => (b x hx).le e
  | lst a b => exact .lst a fun x hx => (b x hx).le e
  | sc h => exact .sc h
  | dict h => exact .dict (e.dK h)
def rowD (n : Nat) : D → D
  | .tup xs => fb 0 (List.replicate n (false, [])) xs
  | .lst xs => fb 0 (List.replicate n (false, [])) xs
  | _ => .int (-1)
theorem fb_sca : ∀ (i : Nat) (st : St1) (ds : List D), sca (fb i st ds) = true
  | _, _, [] => rfl
  | i, st, d :: ds => by
    unfold fb
    split
    · exact fb_sca _ _ _
    · rfl
theorem sca_ob {d : D} (h : sca d = true) : ∀ v, d ≠ .obj v := fun v e => by
  rw [e] at h
  cases h
theorem sca_no {d : D} (h : sca d = true) : noObj d = true := by
  cases d <;> first | rfl | cases h
theorem sca_seq {d : D} (h : sca d = true) : isSeq d = false := by
  cases d <;> first | rfl | cases h
section
variable {K : PySem.W.Frag} {σ : L2.St} {H : Hp} {te : TE}
theorem ed_isiRw {d : D} {i : Nat} {v : V} (hs : σ[i]? = some (some v)) (r : Rp K H v d) (h : Rw H d) : ED K (tCB (rIsiT K) (tCons (tVar i) (tCons (tTup (tCons (tC (.ty "list")) (tCons (tC (.ty "tuple")) tNil))) tNil))) σ H (.bl (isSeq d)) := by
  cases h with
  | tup _ _ => exact ed_isiLT (ed_var hs r) rfl
  | lst _ _ => exact ed_isiLT (ed_var hs r) rfl
  | sc h => exact ed_isiLT (ed_var hs r) (sca_no h)
  | @dict p hp =>
    have ev := rp_obj r
    subst ev
    intro H2 e2 Q q
    have ty : ∀ {H3 : Hp}, Le H2 H3 → TyX K H3 (.ref p) (.type "dict") := fun e => .base (.dK ((e2.trans e).dK hp))
    refine ⟨_, hs, (by decide), fun a na => ⟨.ref p, a, _, .type "dict", [.type "list", .type "tuple"], false, rfl, upd_same, .cons (.ty "list") (.cons (.ty "tuple") .nil), ty (Le.new na), ?_, q _ _ _ (Le.new na) rfl (.bl _)⟩⟩
    have t1 : PySem.W.kitOne K (.type "dict") (.type "list") = some false := kit_ty (by decide +kernel)
    have t2 : PySem.W.kitOne K (.type "dict") (.type "tuple") = some false := kit_ty (by decide +kernel)
    unfold PySem.W.kitAny
    rw [t1]
    show PySem.W.kitAny K _ [.type "tuple"] = _
    unfold PySem.W.kitAny
    rw [t2]
    rfl
end
def rowB (n : Nat) (d : D) : Bool := isSeq d && isNon (rowD n d)
theorem Rw.seq {H : Hp} {d : D} (h : Rw H d) (hs : isSeq d = true) : ∃ xs, (d = .tup xs ∨ d = .lst xs) ∧ xs.length ≤ 5000 ∧ ∀ x ∈ xs, Th H x := by
  cases h with
  | tup a b => exact ⟨_, .inl rfl, a, b⟩
  | lst a b => exact ⟨_, .inr rfl, a, b⟩
  | sc h =>
    rw [sca_seq h] at hs
    cases hs
  | dict _ => cases hs
theorem rowD_seq {n : Nat} {d : D} {xs : List D} (h : d = .tup xs ∨ d = .lst xs) : rowD n d = fb 0 (List.replicate n (false, [])) xs := by
  rcases h with rfl | rfl <;> rfl
theorem rowD_no {n : Nat} {d : D} (h : isSeq d = false) : rowD n d = .int (-1) := by
  cases d <;> first | rfl | cases h
theorem rowD_sca {n : Nat} {d : D} : sca (rowD n d) = true := by
  cases d <;> first | exact fb_sca _ _ _ | rfl
section
variable {P : Program} {w : World} {K : PySem.W.Frag} {mg : Str → Option Value} {base : Heap} {C : Addr}
def R_isrow (K : PySem.W.Frag) (C : Addr) : List D → Hp → Pd → Prop := fun ds H P => ∃ a ms ties d, ds = [.obj (.ref a), d] ∧ WebAt K C H a ms ties ∧ 1 ≤ ms.length ∧ ms.length ≤ 60 ∧ Rw H d ∧ P = is (.bl (rowB ms.length d))
theorem ok_isrow (T : HTxt mg) (g : GDef K mg "is_row" s_is_row ["web", "thing"]) (Gfirst_no_ask : Def P w K mg base 6 "first_no_ask" ["web", "things"] (spD K (R_fna K C))) : Def P w K mg base 7 "is_row" ["web", "thing"] (spD K (R_isrow K C)) := by
  refine defD g sc_is_row (fun ds H Pd h => ?_) fun cdv A outer s f H vs ds Pd Q E hr r h q => ?_
  · obtain ⟨a, ms, ties, d, rfl, _⟩ := h
    rfl
  obtain ⟨a, ms, ties, d, rfl, x, h1, h60, hd, rfl⟩ := h
  obtain ⟨v1, v2, rfl, r1, r2⟩ := rps2 r
  have ev := rp_obj r1
  subst ev
  refine ⟨_, (pss_one (ps_ret (pe_and (pe_callB (kc_isiT (K := K)) (by rfl) T.n_isinstance boot_isinstance (pa_cons (pv 1) (pa_cons (pe_tup (pa_cons (pe_bltn (v := V.ty "list") (by rfl) T.n_list boot_list rfl) (pa_cons (pe_bltn (v := V.ty "tuple") (by rfl) T.n_tuple boot_tuple rfl) pa_nil))) pa_nil))) (pe_one (pe_cmpR op_isN (pe_def Gfirst_no_ask (hr.mono (by decide)) (pa_cons (pv 0) (pa_cons (pv 1) pa_nil))) pe_non (nomark _)))))), ?_⟩
  refine s_retD (K := K) (d := .bl (rowB ms.length d)) (ed_andV (a := isSeq d) (b := isNon (rowD ms.length d)) (ed_isiRw rfl r2 hd) fun hs => ?_) fun v H1 e1 r => q v _ H1 e1 rfl r
  obtain ⟨xs, hx, hl, ht⟩ := hd.seq hs
  rw [rowD_seq hx]
  exact ed_isNB (ed_call (ea_cons (ed_var rfl (.obj (.ref a))) (ea_cons (ed_var rfl r2) ea_nil)) fun H1 e1 => ⟨a, ms, ties, d, xs, rfl, x.le e1, h1, h60, hx, hl, fun y hy => (ht y hy).le e1, rfl⟩) (sca_ob (fb_sca _ _ _))
def R_lfn : List D → Hp → Pd → Prop := fun ds H P => ∃ ms ties d, ds = [eW ms ties, d] ∧ 1 ≤ ms.length ∧ ms.length ≤ 60 ∧ Rw H d ∧ P = is (rowD ms.length d)
theorem ok_lfn (T : HTxt mg) (g : GDef K mg "_law_first_none" s__law_first_none ["_law_parts_here", "_law_thing"]) (G_law_start : Def P w K mg base 1 "_law_start" ["_law_parts_here"] (spD K R_start)) (G_law_is_ask : Def P w K mg base 2 "_law_is_ask" ["_law_state_here", "_law_thing"] (spD K R_lask)) (G_law_done : Def P w K mg base 1 "_law_done" ["_law_state_here", "_law_deed"] (spF K R_done)) :
    Def P w K mg base 3 "_law_first_none" ["_law_parts_here", "_law_thing"] (spD K R_lfn) := by
  refine defD g sc__law_first_none (fun ds H Pd h => ?_) fun cdv A outer s f H vs ds Pd Q E hr r h q => ?_
  · obtain ⟨ms, ties, d, rfl, _⟩ := h
    rfl
  obtain ⟨ms, ties, d0, rfl, h1, h60, hd, rfl⟩ := h
  obtain ⟨v1, v2, rfl, r1, r2⟩ := rps2 r
  refine ⟨_, (pss_cons (ps_if (pt_not (pt_val (pe_callB (kc_isiT (K := K)) (by rfl) T.n_isinstance boot_isinstance (pa_cons (pv 1) (pa_cons (pe_tup (pa_cons (pe_bltn (v := V.ty "list") (by rfl) T.n_list boot_list rfl) (pa_cons (pe_bltn (v := V.ty "tuple") (by rfl) T.n_tuple boot_tuple rfl) pa_nil))) pa_nil)))))
      (pss_one (ps_ret (pe_un un_neg pe_int)))
      pss_nil)
    (pss_cons (ps_set (i := 2) sc__law_first_none.nd rfl (Or.inl rfl) (pe_def G_law_start (hr.mono (by decide)) (pa_cons (pv 0) pa_nil)))
    (pss_cons (ps_for PassesOwn.never rfl (kpi_enumE (K := K) (by rfl) T.n_enumerate (pa_cons (pv 1) pa_nil)) (kpg_tup (K := K) (n := 2) rfl (pgs_cons (pg_name (i := 3) sc__law_first_none.nd rfl (Or.inl rfl)) (pgs_cons (pg_name (i := 4) sc__law_first_none.nd rfl (Or.inl rfl)) pgs_nil)))
      (pss_cons (ps_if (pt_not (pt_val (pe_def G_law_is_ask (hr.mono (by decide)) (pa_cons (pv 2) (pa_cons (pv 4) pa_nil)))))
      (pss_one (ps_ret (pv 3)))
      pss_nil)
    (pss_one (ps_set (i := 2) sc__law_first_none.nd rfl (Or.inl rfl) (pe_def G_law_done (hr.mono (by decide)) (pa_cons (pv 2) (pa_cons (pe_ifExp (pt_cmpR op_eq (pe_ix (kix_tup (K := K)) (pv 4) pe_int (fun _ _ => rfl)) pe_str (nomark _)) (pv 4) (pe_op (kop_catA (K := K)) (pv 4) (pe_tup (pa_cons pe_int pa_nil)))) pa_nil)))))))
    (pss_one (ps_ret pe_non))))), ?_⟩
  refine q_whenB (b := !isSeq d0) (eb_not (et_B (K := K) (ed_isiRw rfl r2 hd))) (fun hs H1 e1 => ?_) fun hs H1 e1 => ?_
  · rw [Bool.not_eq_true'] at hs
    exact s_retD (K := K) (d := .int (-1)) (ed_neg ed_int) fun v H2 e2 r => q v _ H2 (e1.trans e2) (rowD_no hs).symm r
  rw [Bool.not_eq_false'] at hs
  obtain ⟨xs, hx, hz, ht⟩ := hd.seq hs
  rw [rowD_seq hx] at q
  refine q_asgD (K := K) (d := eS (List.replicate ms.length (false, []))) (ed_call (ea_cons (ed_var rfl (r1.le e1)) ea_nil) fun H2 e2 => ⟨ms, ties, rfl, h60, rfl⟩) fun v3 H2 e2 r3 => ?_
  have e12 := e1.trans e2
  refine q_forEE (K := K) hx (ea_cons (ed_var rfl (r2.le e12)) ea_nil) (fun d hd => (ht d hd).noL) fun H3 e3 => ?_
  refine ⟨fun i σ H' => ∃ st u y z, σ = [some v1, some v2, some u, y, z] ∧ Le H3 H' ∧ i ≤ xs.length ∧ StB ms.length i st ∧ fb i st (xs.drop i) = fb 0 (List.replicate ms.length (false, [])) xs ∧ Rp K H' u (eS st), ⟨List.replicate ms.length (false, []), v3, none, none, rfl, Le.refl _, Nat.zero_le _, StB.start _, by rw [List.drop_zero], r3.le e3⟩, ?_, ?_, ?_⟩
  · rintro i σ H' _ ⟨_, _, _, _, _, e, _⟩
    exact e
  · rintro i d v σ H' H4 hd ⟨st, u, y, z, rfl, e, _, sb, hf, ru⟩ e4 rv
    have hi := (List.getElem?_eq_some_iff.mp hd).1
    have td : Th H d := ht d (List.mem_of_getElem? hd)
    have e04 := ((e12.trans e3).trans e).trans e4
    rw [fb_turn hd] at hf
    refine q_whenB (b := !askD st d) (eb_not (et_B (K := K) (ed_call (P := is (.bl (askD st d))) (ea_cons (ed_var rfl (ru.le e4)) (ea_cons (ed_var rfl rv) ea_nil)) fun H5 e5 => ⟨st, d, rfl, by rw [sb.len]; exact h60, td.le (e04.trans e5), rfl⟩))) (fun hb H5 e5 => ?_) fun hb H5 e5 => ?_
    · rw [Bool.not_eq_true'] at hb
      rw [hb, if_neg Bool.false_ne_true] at hf
      exact s_retD (K := K) (d := .int (i : Int)) (ed_var rfl (.int _)) fun v' H6 e6 r' => q v' _ H6 ((e04.trans e5).trans e6) hf r'
    · rw [Bool.not_eq_false'] at hb
      obtain ⟨w', rm, rfl, m0, m1, hw⟩ := ask_is hb
      rw [hb, if_pos rfl] at hf
      have rmm : (dA (.tup [.str w', .int rm])).room = rm := dA_room
      have sok := sb.ok h60 (by omega)
      have deed : ED K (tIf (tTest (tOp rEq (tOp (rIxT K) (tVar 4) (tC (.int 0))) (tC (.str "back")))) (tVar 4) (tOp (rCatA K) (tVar 4) (tTup (tCons (tC (.int 0)) tNil)))) [some v1, some v2, some u, some (.int (i : Int)), some v] H5 (eD (dA (.tup [.str w', .int rm]))) := by
        refine ep_if (b := decide (w' = "back")) (eb_eq (et_test (K := K) (ed_eqS (d1 := .str w') (d2 := .str "back") (ed_ixT (ds := [_, _]) (ed_var rfl (rv.le e5)) ed_int (by decide) rfl) ed_str rfl rfl rfl)) (vs_str _ _)) (fun hb => ?_) fun hb => ?_
        · rw [decide_eq_true_iff] at hb
          subst hb
          show ED K _ _ _ (eD (if ("back" : Str) = "back" then Deed.back rm else Deed.give rm 0))
          rw [if_pos rfl]
          exact ed_var rfl (rv.le e5)
        · rw [decide_eq_false_iff_not] at hb
          have hg : w' = "give" := (hw.resolve_left fun h => hb h.1).1
          subst hg
          show ED K _ _ _ (eD (if ("give" : Str) = "back" then Deed.back rm else Deed.give rm 0))
          rw [if_neg ne_gb]
          exact ed_catA (ds := [.str "give", .int rm]) (es := [.int 0]) (ed_var rfl (rv.le e5)) (ed_tup (ea_cons ed_int ea_nil) (by show 1 ≤ 100000; decide)) (by show 3 ≤ 100000; decide)
      refine s_asgD (K := K) (EFD.ed (ef_call (R := R_done) (ea_cons (ed_var rfl (ru.le (e4.trans e5))) (ea_cons deed ea_nil)) fun H6 e6 => ⟨st, dA (.tup [.str w', .int rm]), rfl, sok, by rw [rmm]; exact m0, by rw [rmm]; exact m1, rfl⟩)) fun v' H6 e6 r' => ?_
      exact ⟨doneL st (dA (.tup [.str w', .int rm])), v', some (.int (i : Int)), some v, rfl, ((e.trans e4).trans e5).trans e6, hi, sb.done (by rw [rmm]; exact m0) (by rw [rmm, ← sb.len]; exact m1), hf, r'⟩
  · rintro σ H' ⟨st, u, y, z, rfl, e, _, sb, hf, ru⟩
    rw [List.drop_length] at hf
    exact s_retD (K := K) (d := .non) ed_non fun v' H5 e5 r' => q v' _ H5 (((e12.trans e3).trans e).trans e5) hf r'
end
end W1

set_option maxRecDepth 100000
set_option maxHeartbeats 4000000
/-! the deed for a tag -/
namespace W1
open PySem PyProof.Rows L2
local macro_rules | `(tactic| walk_at "rp") => `(tactic| first | assumption | exact Rp.int _ | exact Rp.bl _ | exact Rp.str _ | exact Rp.non | exact Rp.obj _ | (refine Rp.le (by assumption) ?_; walk_at "rp"))
local macro_rules | `(tactic| walk_at "ed") => `(tactic| first
  | exact ed_int | exact ed_str | exact ed_bl | exact ed_non
  | (refine ed_var rfl ?_; walk_at "rp")
  | (refine ed_ixT (ds := [_, _]) ?_ ed_int (by decide) rfl; walk_at "ed")
  | (refine ed_I0 ?_ ?_ <;> walk_at "ed")
  | (refine ed_B0 ?_ ?_ <;> walk_at "ed")
  | (refine ed_eqS ?_ ?_ rfl rfl rfl <;> walk_at "ed")
  | assumption)
local macro_rules | `(tactic| walk_at "ea") => `(tactic| first | exact ea_nil | (refine ea_cons ?_ ?_; walk_at "ed"; walk_at "ea"))

abbrev s_deed_of : Stmt := topS 37
abbrev N_deed_of : List Str := ["web", "k", "standing", "ask", "tag", "deed", "word"]
theorem sc_deed_of : FnScope N_deed_of ["web", "k", "standing", "ask", "tag"] (defScope s_deed_of) := ⟨rfl, rfl, rfl, by decide +kernel, rfl, by decide +kernel, by decide +kernel⟩
def eG (r : Int) : D := .tup [.str "give", .int r]
/-- what deed_of tells: the deed, or None; the word -/
def deedD (ms : List Int) (ties : List (Int × Int)) (k : Int) (st : St1) (r : Int) (d : D) : D :=
  .tup [if isNon d = true then .non else if btw 0 (k - 1) d = true then .tup [.str "give", .int r, d] else .non, .str (wordL ms ties k st r d)]
section
variable {P : Program} {w : World} {K : PySem.W.Frag} {mg : Str → Option Value} {base : Heap} {C : Addr}
def R_deed (K : PySem.W.Frag) (C : Addr) : List D → Hp → Pd → Prop := fun ds H P => ∃ a ms ties k st r d, ds = [.obj (.ref a), .int k, eT (cutSt ms st), eG r, d] ∧ WebAt K C H a ms ties ∧ PartsOk ms ties ∧ ms.length ≤ 8 ∧ StOk st ∧ st.length = ms.length ∧ 0 ≤ r ∧ r < ms.length ∧ noObj d = true ∧ P = is (deedD ms ties k st r d)
theorem ok_deed (T : HTxt mg) (g : GDef K mg "deed_of" s_deed_of ["web", "k", "standing", "ask", "tag"]) (Gis_between : Def P w K mg base 2 "is_between" ["least", "most", "thing"] (spD K R_btw)) (Ggives_barred : Def P w K mg base 7 "gives_barred" ["web", "standing", "deed"] (spD K (R_gb K C))) :
    Def P w K mg base 8 "deed_of" ["web", "k", "standing", "ask", "tag"] (spD K (R_deed K C)) := by
  refine defD g sc_deed_of (fun ds H Pd h => ?_) fun cdv A outer s f H vs ds Pd Q E hr r h q => ?_
  · obtain ⟨a, ms, ties, k, st, r, d, rfl, _⟩ := h
    rfl
  obtain ⟨a, ms, ties, k, st, rm, d, rfl, x, ok, h8, sok, hl, h0, h1, no, rfl⟩ := h
  obtain ⟨v1, v2, v3, v4, v5, rfl, r1, r2, r3, r4, r5⟩ : ∃ v1 v2 v3 v4 v5, vs = [v1, v2, v3, v4, v5] ∧ Rp K H v1 (.obj (.ref a)) ∧ Rp K H v2 (.int k) ∧ Rp K H v3 (eT (cutSt ms st)) ∧ Rp K H v4 (eG rm) ∧ Rp K H v5 d := by
    cases r with
    | cons a r =>
      cases r with
      | cons b r =>
        cases r with
        | cons c r =>
          obtain ⟨v4, v5, rfl, r4, r5⟩ := rps2 r
          exact ⟨_, _, _, v4, v5, rfl, a, b, c, r4, r5⟩
  have ev := rp_obj r1
  subst ev
  refine ⟨_, (pss_cons (ps_if (pt_cmpR op_isN (pv 4) pe_non (nomark _))
      (pss_one (ps_ret (pe_tup (pa_cons pe_non (pa_cons pe_str pa_nil)))))
      pss_nil)
    (pss_cons (ps_if (pt_not (pt_val (pe_def Gis_between (hr.mono (by decide)) (pa_cons pe_int (pa_cons (pe_op op_sub (pv 1) pe_int) (pa_cons (pv 4) pa_nil))))))
      (pss_one (ps_ret (pe_tup (pa_cons pe_non (pa_cons pe_str pa_nil)))))
      pss_nil)
    (pss_cons (ps_set (i := 5) sc_deed_of.nd rfl (Or.inl rfl) (pe_op (kop_catA (K := K)) (pv 3) (pe_tup (pa_cons (pv 4) pa_nil))))
    (pss_cons (ps_set (i := 6) sc_deed_of.nd rfl (Or.inl rfl) (pe_ifExp (pt_val (pe_def Ggives_barred (hr.mono (by decide)) (pa_cons (pv 0) (pa_cons (pv 2) (pa_cons (pv 5) pa_nil))))) pe_str pe_str))
    (pss_one (ps_ret (pe_tup (pa_cons (pv 5) (pa_cons (pv 6) pa_nil))))))))), ?_⟩
  have nob : ∀ v, d ≠ .obj v := fun v e => by
    rw [e] at no
    cases no
  refine q_whenB (et_test (K := K) (ed_isNB (ed_var rfl r5) nob)) (fun hn H1 e1 => ?_) fun hn H1 e1 => ?_
  · refine s_retD (K := K) (ed_tup (ds := [.non, .str "stuck"]) (ea_cons ed_non (ea_cons ed_str ea_nil)) (by show 2 ≤ 100000; decide)) fun v H2 e2 r => q v _ H2 (e1.trans e2) ?_ r
    unfold deedD wordL
    rw [if_pos hn, if_pos hn]
  refine q_whenB (b := !btw 0 (k - 1) d) (eb_not (et_B (K := K) (ed_call (ea_cons ed_int (ea_cons (ed_I0 (f := fun i j => i - j) (ed_var rfl (r2.le e1)) ed_int) (ea_cons (ed_var rfl (r5.le e1)) ea_nil))) fun H2 e2 => ⟨0, k - 1, d, rfl, .inl no, rfl⟩))) (fun hb H2 e2 => ?_) fun hb H2 e2 => ?_
  · rw [Bool.not_eq_true'] at hb
    refine s_retD (K := K) (ed_tup (ds := [.non, .str "odd"]) (ea_cons ed_non (ea_cons ed_str ea_nil)) (by show 2 ≤ 100000; decide)) fun v H3 e3 r => q v _ H3 ((e1.trans e2).trans e3) ?_ r
    unfold deedD wordL
    rw [hn, hb]
    rfl
  rw [Bool.not_eq_false'] at hb
  obtain ⟨t, rfl, t0, t1⟩ := btw_int hb
  have e12 := e1.trans e2
  refine q_asgD (K := K) (d := eD (.give rm t)) (ed_catA (ds := [.str "give", .int rm]) (es := [.int t]) (ed_var rfl (r4.le e12)) (ed_tup (ea_cons (ed_var rfl (r5.le e12)) ea_nil) (by show 1 ≤ 100000; decide)) (by show 3 ≤ 100000; decide)) fun v6 H3 e3 r6 => ?_
  have e13 := e12.trans e3
  refine q_asgD (K := K) (d := .str (wordL ms ties k st rm (.int t))) (ep_if (b := bad ms ties st (.give rm t)) (et_B (K := K) (ed_call (P := is (.bl (bad ms ties st (.give rm t)))) (ea_cons (ed_var rfl (.obj (.ref a))) (ea_cons (ed_var rfl (r3.le e13)) (ea_cons (ed_var rfl r6) ea_nil))) fun H4 e4 => ⟨a, ms, ties, cutSt ms st, .give rm t, rfl, x.le (e13.trans e4), ok, h8, cut_ok sok, by rw [cut_len]; exact hl, h0, h1, by rw [cut_bad (dd := .give rm t) ok hl h0 h1]⟩)) (fun hi => ed_eq ed_str ?_) fun hi => ed_eq ed_str ?_) fun v7 H4 e4 r7 => ?_
  · have hm : t ∈ barsL ms ties st rm := of_decide_eq_true hi
    unfold wordL
    rw [if_neg (by exact Bool.false_ne_true), if_pos hb, if_pos (by exact hm)]
  · have hm : ¬ t ∈ barsL ms ties st rm := of_decide_eq_false hi
    unfold wordL
    rw [if_neg (by exact Bool.false_ne_true), if_pos hb, if_neg (by exact hm)]
  refine s_retD (K := K) (ed_tup (ds := [eD (.give rm t), .str (wordL ms ties k st rm (.int t))]) (ea_cons (ed_var rfl (r6.le e4)) (ea_cons (ed_var rfl r7) ea_nil)) (by show 2 ≤ 100000; decide)) fun v H5 e5 r => q v _ H5 ((e13.trans e4).trans e5) ?_ r
  unfold deedD
  rw [hn, hb]
  rfl
end
end W1

set_option maxRecDepth 100000
set_option maxHeartbeats 4000000
/-! functions that outlive their maker: their cells are tracked; a call takes them out and puts them back -/
namespace L2
open PySem PySem.Spec PyProof.Rows NdefX LamX
/-- the cell at c holds v -/
def CelO (c : Addr) (v : V) : HO := .ext fun h => ∃ u, RelV v u ∧ h.IsCell c (some u)
def InC (F : NF) (b : Addr) : Prop := ∃ y, F.cl.lookup y = some b
open Classical in
noncomputable def strip (F : NF) (H : Hp) : Hp := fun b => if InC F b then none else H b
open Classical in
noncomputable def unstrip (F : NF) (H H' : Hp) : Hp := fun b => if InC F b then H b else H' b
def HeldC (F : NF) (H : Hp) : Prop := ∀ b, InC F b → ∃ v, H b = some (CelO b v)
structure Clo (H : Hp) (f : Addr) (F : NF) (fr : List Str) (ws : List V) : Prop where
  fn : H f = some (FnO f F)
  code : H F.c = some (CodeO F.c F.qual)
  len : ws.length = fr.length
  inj : ∀ x y c, F.cl.lookup x = some c → F.cl.lookup y = some c → x = y
  cel : ∀ y c, F.cl.lookup y = some c → ∃ v, H c = some (CelO c v)
  has : ∀ (i : Nat) y v, fr[i]? = some y → ws[i]? = some v → ∃ c, F.cl.lookup y = some c ∧ H c = some (CelO c v)
  nf : ∀ c, InC F c → c ≠ f ∧ c ≠ F.c
  only : ∀ y c, F.cl.lookup y = some c → y ∈ fr
section
variable {P : Program} {w : World} {K : PySem.W.Frag} {mg : Str → Option Value} {base : Heap} {H H' : Hp} {f : Addr} {F : NF} {fr : List Str} {ws : List V} {A : Around} {outer : List Env} {s s' : Shared}
theorem strip_in {b : Addr} (h : InC F b) : strip F H b = none := by
  unfold strip
  rw [if_pos h]
theorem strip_out {b : Addr} (h : ¬ InC F b) : strip F H b = H b := by
  unfold strip
  rw [if_neg h]
theorem unstrip_in {b : Addr} (h : InC F b) : unstrip F H H' b = H b := by
  unfold unstrip
  rw [if_pos h]
theorem unstrip_out {b : Addr} (h : ¬ InC F b) : unstrip F H H' b = H' b := by
  unfold unstrip
  rw [if_neg h]
theorem strip_some {b : Addr} {o : HO} (h : strip F H b = some o) : ¬ InC F b ∧ H b = some o := by
  by_cases hb : InC F b
  · rw [strip_in hb] at h
    cases h
  · rw [strip_out hb] at h
    exact ⟨hb, h⟩
theorem Clo.held (C : Clo H f F fr ws) : HeldC F H := fun b ⟨y, hy⟩ => C.cel y b hy
theorem HeldC.out (C : HeldC F H) {b : Addr} {o : HO} (h : H b = some o) (hn : ∀ φ, o ≠ .ext φ) : ¬ InC F b := fun hb => by
  obtain ⟨v, hv⟩ := C b hb
  rw [hv] at h
  exact hn _ (Option.some.inj h).symm
theorem celO_at {h : Heap} {c : Addr} {v : V} (hok : HOk P w H h) (e : H c = some (CelO c v)) : ∃ u, RelV v u ∧ h.IsCell c (some u) := by
  obtain ⟨z, _, _⟩ := hok c _ e
  exact z
theorem celO_ok {h h' : Heap} {c : Addr} {v : V} (hok : HOk P w H h) (e : H c = some (CelO c v)) (k : ∀ o, h.get? c = some o → h'.get? c = some o) : ObjOk P w H' h' c (CelO c v) := by
  obtain ⟨z, ⟨o, ho⟩, st⟩ := hok c _ e
  exact ⟨st _ _ z k, ⟨o, k o ho⟩, st⟩
theorem strip_hok {h : Heap} (C : HeldC F H) (hok : HOk P w H h) : HOk P w (strip F H) h := fun a o e => by
  obtain ⟨h1, h2⟩ := strip_some e
  exact (hok a o h2).stay (fun b u _ q => q) (fun b q => by rw [strip_out (C.out q fun φ z => HO.noConfusion z)]; exact q) fun b xs q => by
    rw [strip_out (C.out q fun φ z => HO.noConfusion z)]
    exact q
theorem strip_env (C : HeldC F H) (e0 : Env0 P w K mg base A outer s H) : Env0 P w K mg base A outer s (strip F H) := by
  have none_ : ∀ b, H b = none → strip F H b = none := fun b hb => by
    by_cases h : InC F b
    · exact strip_in h
    · rw [strip_out h]
      exact hb
  exact ⟨e0.frames, e0.mod, fun b o e => ⟨(e0.bs b o e).1, none_ b (e0.bs b o e).2⟩, e0.bsz, e0.funs, fun b hb => none_ b (e0.frf b hb), strip_hok C e0.hok, e0.bare⟩
theorem strip_end {Q : VK} {u : Value} (C : HeldC F H) (e0 : Env0 P w K mg base A outer s H) (h : CE outer P w (strip F H) s (fun v H' => (∀ b, InC F b → H' b = none) → Q v (unstrip F H H')) u s') : CE outer P w H s Q u s' := by
  obtain ⟨v, H', os, bare, un, hok, r, q⟩ := h
  have kept : ∀ c, InC F c → ∀ o, s.heap.get? c = some o → s'.heap.get? c = some o := fun c hc o ho => by
    obtain ⟨v, hv⟩ := C _ hc
    refine un.keep c o ho (strip_in hc) (fun hb => ?_) (fun h => nomatch h)
    rw [e0.frf c hb] at hv
    cases hv
  have out' : ∀ b o, H' b = some o → ¬ InC F b := fun b o hb hc => by
    obtain ⟨v, hv⟩ := C _ hc
    obtain ⟨_, ⟨o', ho'⟩, _⟩ := e0.hok b _ hv
    rw [un.free b o' ho' (strip_in hc) (fun h => nomatch h)] at hb
    cases hb
  refine ⟨v, unstrip F H H', os, bare, ⟨fun b o hb hn => ?_, fun b o hb hn => ?_, fun b o hb hn hx => ?_, un.there, fun b xs hb => ?_, fun b o u hb => ?_, fun b ps hb => ?_⟩, fun a o e => ?_, r, q fun b hb => by
    cases hz : H' b with
    | none => rfl
    | some o => exact absurd hb (out' b o hz)⟩
  · have hc : ¬ InC F b := fun hc => by
      obtain ⟨v, hv⟩ := C _ hc
      rw [hn] at hv
      cases hv
    exact un.keep b o hb (by rw [strip_out hc]; exact hn)
  · have hc : ¬ InC F b := fun hc => by
      obtain ⟨v, hv⟩ := C _ hc
      rw [hn] at hv
      cases hv
    exact un.slot b o hb (by rw [strip_out hc]; exact hn)
  · have hc : ¬ InC F b := fun hc => by
      obtain ⟨v, hv⟩ := C _ hc
      rw [hn] at hv
      cases hv
    rw [unstrip_out hc]
    exact un.free b o hb (by rw [strip_out hc]; exact hn) hx
  · have hc := C.out hb fun φ z => HO.noConfusion z
    rw [unstrip_out hc]
    exact un.tups b xs (by rw [strip_out hc]; exact hb)
  · have hc := C.out hb fun φ z => HO.noConfusion z
    rw [unstrip_out hc]
    exact un.frzs b o u (by rw [strip_out hc]; exact hb)
  · have hc := C.out hb fun φ z => HO.noConfusion z
    rw [unstrip_out hc]
    exact un.tbls b ps (by rw [strip_out hc]; exact hb)
  · by_cases hc : InC F a
    · rw [unstrip_in hc] at e
      obtain ⟨v, hv⟩ := C _ hc
      rw [hv] at e
      cases e
      exact celO_ok e0.hok hv (kept a hc)
    · rw [unstrip_out hc] at e
      exact (hok a o e).stay (fun b u _ q => q) (fun b q => by rw [unstrip_out (out' b _ q)]; exact q) fun b xs q => by
        rw [unstrip_out (out' b _ q)]
        exact q
/-- a call of a function that outlived its maker -/
theorem clo_run {k : Nat} {ps : List Str} {sp : List (Option V) → Sp} {us : List Value} {vs : List V} {Q : VK} {E : XK} (O : NOk P w K mg base CX0 k f F ps fr sp) (C : Clo H f F fr ws) (hr : Room k A) (e0 : Env0 P w K mg base A outer s H) (r : Vals vs us)
    (q : sp (ws.map Option.some) vs (strip F H) (fun v H' => (∀ b, InC F b → H' b = none) → Q v (unstrip F H H')) E) : codeAny (model P w) A (.call (.ref f) ⟨us, []⟩) (CR CX0 outer P w H s Q E) s := by
  have nfc : ¬ InC F f := fun h => (C.nf f h).1 rfl
  have ncc : ¬ InC F F.c := fun h => (C.nf F.c h).2 rfl
  have cells : CellsAt F.cl fr (ws.map Option.some) s.heap (strip F H) := by
    refine ⟨by rw [List.length_map]; exact C.len, fun y c e => ⟨strip_in ⟨y, e⟩, ?_⟩, C.inj, fun i y e => ?_⟩
    · obtain ⟨v, hv⟩ := C.cel y c e
      obtain ⟨u, _, hu⟩ := celO_at e0.hok hv
      exact ⟨_, hu⟩
    · have hi : i < ws.length := by
        rw [C.len]
        exact (List.getElem?_eq_some_iff.mp e).1
      obtain ⟨c, h1, h2⟩ := C.has i y ws[i] e (List.getElem?_eq_getElem hi)
      refine ⟨c, h1, fun v hv => ?_⟩
      rw [List.getElem?_map, List.getElem?_eq_getElem hi] at hv
      have ev : ws[i] = v := Option.some.inj (Option.some.inj hv)
      rw [← ev]
      exact celO_at e0.hok h2
  refine codeAny_mono (O.run A outer s (strip F H) us vs _ _ E hr (strip_env C.held e0) (by rw [strip_out nfc]; exact C.fn) (by rw [strip_out ncc]; exact C.code) cells r q) fun r' s' h => ?_
  cases r' with
  | error e => exact h
  | ok fl =>
    cases fl with
    | ret u => exact strip_end C.held e0 h
    | next => exact h
    | brk => exact h
    | cont => exact h
end
end L2

set_option maxRecDepth 100000
set_option maxHeartbeats 4000000
/-! what can be called, whatever made it -/
namespace W1
open PySem PySem.Spec PyProof.Rows L2 NdefX LamX

theorem clo_le {H H' : Hp} {f : Addr} {F : NF} {fr : List Str} {ws : List V} (e : Le H H') (C : Clo H f F fr ws) : Clo H' f F fr ws :=
  ⟨e.ext C.fn, e.ext C.code, C.len, C.inj, fun y c h => (C.cel y c h).imp fun v hv => e.ext hv, fun i y v h1 h2 => (C.has i y v h1 h2).imp fun c h => ⟨h.1, e.ext h.2⟩, C.nf, C.only⟩
/-- calls of what stands at f, from H0 on, keep the promise sp -/
structure Callee (P : Program) (w : World) (K : PySem.W.Frag) (mg : Str → Option Value) (base : Heap) (k : Nat) (f : Addr) (H0 : Hp) (sp : Sp) : Prop where
  fn : ∀ (H : Hp) (s : Shared), Le H0 H → HOk P w H s.heap → K.In s.heap → PySem.W.FnAt f s.heap
  run : ∀ (A : Around) (outer : List Env) (s : Shared) (H : Hp) (us : List Value) (vs : List V) (Q : VK) (E : XK), Room k A → Env0 P w K mg base A outer s H → Le H0 H → Vals vs us → sp vs H Q E →
    codeAny (model P w) A (.call (.ref f) ⟨us, []⟩) (CR CX0 outer P w H s Q E) s
section
variable {P : Program} {w : World} {K : PySem.W.Frag} {mg : Str → Option Value} {base : Heap} {H H' H0 : Hp} {f : Addr} {F : NF} {fr ps : List Str} {ws : List V} {k : Nat} {sp : Sp}
theorem Callee.le (e : Le H0 H) (C : Callee P w K mg base k f H0 sp) : Callee P w K mg base k f H sp := ⟨fun H1 s e1 => C.fn H1 s (e.trans e1), fun A outer s H1 us vs Q E hr e0 e1 => C.run A outer s H1 us vs Q E hr e0 (e.trans e1)⟩
theorem Callee.mono {j : Nat} (h : j ≤ k) (C : Callee P w K mg base j f H0 sp) : Callee P w K mg base k f H0 sp := ⟨C.fn, fun A outer s H1 us vs Q E hr e0 e1 => C.run A outer s H1 us vs Q E (hr.mono h) e0 e1⟩
theorem Callee.imp {sp' : Sp} (C : Callee P w K mg base k f H0 sp) (h : ∀ vs H Q E, Le H0 H → sp' vs H Q E → sp vs H Q E) : Callee P w K mg base k f H0 sp' := ⟨C.fn, fun A outer s H1 us vs Q E hr e0 e1 r q => C.run A outer s H1 us vs Q E hr e0 e1 r (h vs H1 Q E e1 q)⟩
theorem callee_clo {sp : List (Option V) → Sp} (O : NOk P w K mg base CX0 k f F ps fr sp) (C : Clo H0 f F fr ws) : Callee P w K mg base k f H0 fun vs H Q E => sp (ws.map some) vs (strip F H) (fun v H' => (∀ b, InC F b → H' b = none) → Q v (unstrip F H H')) E :=
  ⟨fun H s e hok _ => by
    obtain ⟨od, sl, doc, pm, ctv, ho⟩ := fnO_at hok (clo_le e C).fn
    exact ⟨_, od, _, sl, ho⟩, fun A outer s H us vs Q E hr e0 e r q => clo_run O (clo_le e C) hr e0 r q⟩
/-- what the strip leaves: all but the cells -/
theorem strip_le (e : Le H H') : ∀ {b : Addr} {o : HO}, strip F H b = some o → (∀ ys, o ≠ .lst ys) → strip F H' b = some o := fun {b o} h n => by
  obtain ⟨h1, h2⟩ := strip_some h
  rw [strip_out h1]
  rcases e b o h2 with h3 | ⟨_, _, _, _, _, _, _, _, _, z, _⟩
  · exact h3
  · exact absurd z (n _)
theorem le_unstrip (C : Clo H f F fr ws) (e : Le (strip F H) H') : Le H (unstrip F H H') := fun a o h => by
  by_cases hc : InC F a
  · exact .inl (by rw [unstrip_in hc]; exact h)
  · have h1 : strip F H a = some o := by rw [strip_out hc]; exact h
    rw [unstrip_out hc]
    exact e a o h1
end
/-- f(..), f a name that holds what can be called -/
def tCallV (P : Program) (w : World) (K : PySem.W.Frag) (mg : Str → Option Value) (base : Heap) (k i : Nat) (t : TA) : TE := fun σ H Q => ∃ f sp, σ[i]? = some (some (.ref f)) ∧ Callee P w K mg base k f H sp ∧ t σ H fun vs H1 => Le H H1 ∧ sp vs H1 Q E0
section
variable {X : Cx} {k j i : Nat} {x : Str} {t : TA} {e : Expr} {es : List Expr} {p pos : Pos}
theorem pe_callV (hr : Room k X.A) (hx : Passes CX0 X E0) (hN : X.N[i]? = some x) (hv : Vis X.env.scope x) (ha : PA X (e :: es) t) (hd : (x == ("__debug__" : Str)) = false := by decide) (hcd : (x == ("__classdict__" : Str)) = false := by decide)
    (he : starEach (e :: es) X.env = (false, eval e X.env) :: starEach es X.env := by rfl) (hpl : (backTo pos (starEach es X.env)).any (·.1) = false := by rfl) :
    PE X (.Call (.Name x p) (e :: es) [] pos) (tCallV X.prog X.w X.K X.mg X.base k i t) := by
  refine ⟨fun pins s σ H Q I h => ?_⟩
  obtain ⟨f, sp, hs, C, ht⟩ := h
  refine wpAny_Call_Name_kw (thn ((pe_var (pos := p) hN hv hd hcd).run pins s σ H (fun v H1 => v = .ref f ∧ H1 = H) I ⟨.ref f, hs, rfl, rfl⟩) fun u s1 ⟨v, H1, I1, r1, q1⟩ => ?_)
  obtain ⟨ev, eH⟩ := q1
  subst ev
  rw [eH] at I1
  obtain rfl : u = Value.ref f := r1
  refine PySem.W.callWith_F (first := []) (C.fn H s1 (Le.refl _) I1.hok I1.kIn) (thn (ha.run pos pins s1 σ H _ I1 ht) fun us s2 ⟨vs, H2, I2, r, e2, q⟩ => ⟨C.fn H2 s2 e2 I2.hok I2.kIn, ?_⟩) he hpl
  show wpAny _ _ (call (.ref f) us) _ _ _
  refine wpAny_call (codeAny_mono (C.run X.A X.stack s2 H2 us vs Q E0 hr I2.env0 e2 r q) fun r' s' hq => ?_)
  cases r' with
  | error e => exact hx pins σ H2 s2 e s' I2 hq
  | ok fl =>
    cases fl with
    | ret u => exact I2.after hq
    | next => exact False.elim hq
    | brk => exact False.elim hq
    | cont => exact False.elim hq
end
end W1

set_option maxRecDepth 100000
set_option maxHeartbeats 4000000
/-! one ask of a row that is led -/
namespace W1
open PySem PyProof.Rows L2
local macro_rules | `(tactic| walk_at "rp") => `(tactic| first | assumption | exact Rp.int _ | exact Rp.bl _ | exact Rp.str _ | exact Rp.non | exact Rp.obj _ | (refine Rp.le (by assumption) ?_; walk_at "rp"))
local macro_rules | `(tactic| walk_at "ed") => `(tactic| first
  | exact ed_int | exact ed_str | exact ed_bl | exact ed_non
  | (refine ed_var rfl ?_; walk_at "rp")
  | (refine ed_ixT (ds := [_, _]) ?_ ed_int (by decide) rfl; walk_at "ed")
  | (refine ed_I0 ?_ ?_ <;> walk_at "ed")
  | (refine ed_B0 ?_ ?_ <;> walk_at "ed")
  | (refine ed_eqS ?_ ?_ rfl rfl rfl <;> walk_at "ed")
  | assumption)
local macro_rules | `(tactic| walk_at "ea") => `(tactic| first | exact ea_nil | (refine ea_cons ?_ ?_; walk_at "ed"; walk_at "ea"))

abbrev s_led_on : Stmt := topS 36
abbrev N_led_on : List Str := ["keeper", "web", "k", "past", "standing", "ask", "deed", "word"]
theorem sc_led_on : FnScope N_led_on ["keeper", "web", "k", "past", "standing", "ask"] (defScope s_led_on) := ⟨rfl, rfl, rfl, by decide +kernel, rfl, by decide +kernel, by decide +kernel⟩
/-- a keeper tells by the past and the room alone -/
def R_kp (K : PySem.W.Frag) (C : Addr) (ms : List Int) (ties : List (Int × Int)) (k : Int) (kp : List Deed → Int → D) : List D → Hp → Pd → Prop := fun ds H P => ∃ a past r, ds = [.obj (.ref a), .int k, .tup (past.map eD), .int r] ∧ WebAt K C H a ms ties ∧ InR ms.length past ∧ past.length ≤ 200 ∧ 0 ≤ r ∧ r < ms.length ∧ P = is (kp past r)
abbrev Keeper (P : Program) (w : World) (K : PySem.W.Frag) (mg : Str → Option Value) (base : Heap) (C : Addr) (ms : List Int) (ties : List (Int × Int)) (k : Int) (kp : List Deed → Int → D) (f : Addr) (H : Hp) : Prop := Callee P w K mg base 8 f H (spD K (R_kp K C ms ties k kp))
theorem ed_callV {P : Program} {w : World} {K : PySem.W.Frag} {mg : Str → Option Value} {base : Heap} {kk i : Nat} {A : TA} {σ : L2.St} {H : Hp} {f : Addr} {R : List D → Hp → Pd → Prop} {ds : List D} {d : D} (hs : σ[i]? = some (some (.ref f))) (hc : Callee P w K mg base kk f H (spD K R)) (ha : EDA K A σ H ds) (hR : ∀ H2, Le H H2 → R ds H2 (is d)) : ED K (tCallV P w K mg base kk i A) σ H d := fun H1 e Q q =>
  ⟨f, _, hs, hc.le e, ha H1 e _ fun vs ds' H2 e2 p r => by
    have p' : ds' = ds := p
    subst p'
    exact ⟨e2, ds', _, r, hR H2 (e.trans e2), fun v d H3 e3 p3 r3 => q v d H3 (e2.trans e3) p3 r3⟩⟩
/-- an ask as data, and the deed for it where the keeper tells t -/
inductive Ask where
  | give (r : Int)
  | back (r : Int)
def Ask.room : Ask → Int
  | .give r => r
  | .back r => r
def eK : Ask → D
  | .give r => .tup [.str "give", .int r]
  | .back r => .tup [.str "back", .int r]
/-- past, state and word behind an ask -/
def stepL (ms : List Int) (ties : List (Int × Int)) (k : Int) (kp : List Deed → Int → D) (past : List Deed) (st : St1) : Ask → List Deed × St1 × Str
  | .back r => (past ++ [.back r], doneL st (.back r), "kept")
  | .give r => if isNon (kp past r) = true then (past, st, "stuck") else if btw 0 (k - 1) (kp past r) = true then (past ++ [.give r (intO (kp past r))], doneL st (.give r (intO (kp past r))), wordL ms ties k st r (kp past r)) else (past, st, "odd")
def stepD (ms : List Int) (x : List Deed × St1 × Str) : D := .tup [.tup (x.1.map eD), eT (cutSt ms x.2.1), .str x.2.2]
section
variable {P : Program} {w : World} {K : PySem.W.Frag} {mg : Str → Option Value} {base : Heap} {C : Addr}
def R_ledon (P : Program) (w : World) (K : PySem.W.Frag) (mg : Str → Option Value) (base : Heap) (C : Addr) : List D → Hp → Pd → Prop := fun ds H P1 => ∃ a ms ties k kp f past st ak, ds = [.obj (.ref f), .obj (.ref a), .int k, .tup (past.map eD), eT (cutSt ms st), eK ak] ∧ WebAt K C H a ms ties ∧ PartsOk ms ties ∧ ms.length ≤ 8 ∧ Keeper P w K mg base C ms ties k kp f H ∧ (∀ p r, noObj (kp p r) = true) ∧
  InR ms.length past ∧ past.length ≤ 200 ∧ StOk st ∧ st.length = ms.length ∧ 0 ≤ ak.room ∧ ak.room < ms.length ∧ P1 = is (stepD ms (stepL ms ties k kp past st ak))
theorem ok_ledon (T : HTxt mg) (g : GDef K mg "led_on" s_led_on ["keeper", "web", "k", "past", "standing", "ask"]) (Gdeed_of : Def P w K mg base 8 "deed_of" ["web", "k", "standing", "ask", "tag"] (spD K (R_deed K C))) (Gwith_deed : Def P w K mg base 2 "with_deed" ["web", "standing", "deed"] (spD K (R_wdX K C))) :
    Def P w K mg base 12 "led_on" ["keeper", "web", "k", "past", "standing", "ask"] (spD K (R_ledon P w K mg base C)) := by
  refine defD g sc_led_on (fun ds H Pd h => ?_) fun cdv A outer s f H vs ds Pd Q E hr r h q => ?_
  · obtain ⟨a, ms, ties, k, kp, fk, past, st, ak, rfl, _⟩ := h
    rfl
  obtain ⟨a, ms, ties, k, kp, fk, past, st, ak, rfl, x, ok, h8, hk, hno, hin, hpl, sok, hl, m0, m1, rfl⟩ := h
  obtain ⟨v1, v2, v3, v4, v5, v6, rfl, r1, r2, r3, r4, r5, r6⟩ : ∃ v1 v2 v3 v4 v5 v6, vs = [v1, v2, v3, v4, v5, v6] ∧ Rp K H v1 (.obj (.ref fk)) ∧ Rp K H v2 (.obj (.ref a)) ∧ Rp K H v3 (.int k) ∧ Rp K H v4 (.tup (past.map eD)) ∧ Rp K H v5 (eT (cutSt ms st)) ∧ Rp K H v6 (eK ak) := by
    cases r with
    | cons a r =>
      cases r with
      | cons b r =>
        cases r with
        | cons c r =>
          obtain ⟨v4, v5, v6, rfl, r4, r5, r6⟩ := rps3 r
          exact ⟨_, _, _, v4, v5, v6, rfl, a, b, c, r4, r5, r6⟩
  have ev1 := rp_obj r1
  have ev2 := rp_obj r2
  have ev3 := rp_int r3
  subst ev1 ev2 ev3
  refine ⟨_, (pss_cons (ps_par (i := 6) (j := 7) (by rfl) sc_led_on.nd rfl rfl (by decide) rfl rfl (pa_cons (pv 5) (pa_cons pe_str pa_nil)) (by rfl))
    (pss_cons (ps_if (pt_cmpR op_eq (pe_ix (kix_tup (K := K)) (pv 5) pe_int (fun _ _ => rfl)) pe_str (nomark _))
      (pss_one (ps_asg (pe_def Gdeed_of (hr.mono (by decide)) (pa_cons (pv 1) (pa_cons (pv 2) (pa_cons (pv 4) (pa_cons (pv 5) (pa_cons (pe_callV (k := 8) (i := 0) (hr.mono (by decide)) pass0 rfl (Or.inl rfl) (pa_cons (pv 1) (pa_cons (pv 2) (pa_cons (pv 3) (pa_cons (pe_ix (kix_tup (K := K)) (pv 5) pe_int (fun _ _ => rfl)) pa_nil))))) pa_nil)))))) (kpg_tup (K := K) (n := 2) rfl (pgs_cons (pg_name (i := 6) sc_led_on.nd rfl (Or.inl rfl)) (pgs_cons (pg_name (i := 7) sc_led_on.nd rfl (Or.inl rfl)) pgs_nil)))))
      pss_nil)
    (pss_cons (ps_if (pt_cmpR op_isN (pv 6) pe_non (nomark _))
      (pss_one (ps_ret (pe_tup (pa_cons (pv 3) (pa_cons (pv 4) (pa_cons (pv 7) pa_nil))))))
      pss_nil)
    (pss_one (ps_ret (pe_tup (pa_cons (pe_op (kop_catA (K := K)) (pv 3) (pe_tup (pa_cons (pv 6) pa_nil))) (pa_cons (pe_def Gwith_deed (hr.mono (by decide)) (pa_cons (pv 1) (pa_cons (pv 4) (pa_cons (pv 6) pa_nil)))) (pa_cons (pv 7) pa_nil))))))))), ?_⟩
  refine q_par2 (K := K) (PA := fun ds _ => ds = [eK ak, .str "kept"]) (ea_cons (ed_var rfl r6) (ea_cons ed_str ea_nil)) (fun ds H1 p => by rw [p]; rfl) fun v7 v8 d7 d8 H1 e1 p r7 r8 => ?_
  injection p with pa pb
  injection pb with pb _
  subst pa pb
  have out : ∀ {d : D} {te : TE} {σ : L2.St} {H2 : Hp}, stepD ms (stepL ms ties k kp past st ak) = d → Le H H2 → ED K te σ H2 d → tRet te { nx := fun _ H' => Q .non H', rt := Q } σ H2 := fun {d te σ H2} hd e h => s_retD h fun v H3 e3 r => q v _ H3 (e.trans e3) hd.symm r
  -- what is put behind
  have more : ∀ {dd : Deed} {wd : Str} {v9 v10 : V} {H2 : Hp}, Le H H2 → Rp K H2 v9 (eD dd) → Rp K H2 v10 (.str wd) → 0 ≤ dd.room → dd.room < ms.length → stepL ms ties k kp past st ak = (past ++ [dd], doneL st dd, wd) →
      tSeq (tIfS (tTest (tOp (fun x y H Q => y = .non ∧ Q (.bl (decide (x = .non))) H) (tVar 6) (tC .non))) (tRet (tTup (tCons (tVar 3) (tCons (tVar 4) (tCons (tVar 7) tNil))))) tNext) (tRet (tTup (tCons (tOp (rCatA K) (tVar 3) (tTup (tCons (tVar 6) tNil))) (tCons (tCall (spD K (R_wdX K C)) [] E0 (tCons (tVar 1) (tCons (tVar 4) (tCons (tVar 6) tNil)))) (tCons (tVar 7) tNil))))) { nx := fun _ H' => Q .non H', rt := Q } [some (.ref fk), some (.ref a), some (.int k), some v4, some v5, some v6, some v9, some v10] H2 := fun {dd wd v9 v10 H2} e r9 r10 a0 a1 hs => by
    refine q_whenB (b := false) (et_test (K := K) (ed_eq (ed_isNB (ed_var rfl r9) (fun v e => by cases dd <;> cases e)) (by cases dd <;> rfl))) (fun h => nomatch h) fun _ H3 e3 => ?_
    have e03 := e.trans e3
    refine out ?_ e03 (ed_tup (ds := [.tup ((past ++ [dd]).map eD), eT (cutSt ms (doneL st dd)), .str wd]) (ea_cons (ed_eq (ed_catA (ds := past.map eD) (es := [eD dd]) (ed_var rfl (r4.le e03)) (ed_tup (ea_cons (ed_var rfl (r9.le e3)) ea_nil) (by show 1 ≤ 100000; decide)) (by rw [List.length_map]; show past.length + 1 ≤ 100000; omega)) (by rw [List.map_append]; rfl)) (ea_cons (ed_eq (ed_call (P := is (eT (wdL ms (cutSt ms st) dd))) (ea_cons (ed_var rfl (.obj (.ref a))) (ea_cons (ed_var rfl (r5.le e03)) (ea_cons (ed_var rfl (r9.le e3)) ea_nil))) fun H4 e4 => ⟨a, ms, ties, cutSt ms st, dd, eD dd, rfl, .inl rfl, x.le (e03.trans e4), cut_ok sok, by rw [cut_len]; exact hl, a0, a1, rfl⟩) (by rw [cut_wd a0 (by omega)])) (ea_cons (ed_var rfl (r10.le e3)) ea_nil))) (by show 3 ≤ 100000; decide))
    rw [hs]
    rfl
  cases ak with
  | back rm =>
    refine q_ifB (b := false) (eb_eq (et_test (K := K) (ed_eqS (d1 := .str "back") (d2 := .str "give") (ed_ixT (ds := [_, _]) (ed_var rfl (r6.le e1)) ed_int (by decide) rfl) ed_str rfl rfl rfl)) vs_bg) (fun h => nomatch h) fun _ H2 e2 => ?_
    exact more (dd := .back rm) (wd := "kept") (e1.trans e2) (r7.le e2) (r8.le e2) m0 m1 rfl
  | give rm =>
    refine q_ifB (b := true) (eb_eq (et_test (K := K) (ed_eqS (d1 := .str "give") (d2 := .str "give") (ed_ixT (ds := [_, _]) (ed_var rfl (r6.le e1)) ed_int (by decide) rfl) ed_str rfl rfl rfl)) vs_gg) (fun _ H2 e2 => ?_) fun h => nomatch h
    have e02 := e1.trans e2
    refine s_tup2 (K := K) (d1 := if isNon (kp past rm) = true then .non else if btw 0 (k - 1) (kp past rm) = true then .tup [.str "give", .int rm, kp past rm] else .non) (d2 := .str (wordL ms ties k st rm (kp past rm))) (ed_call (P := is (deedD ms ties k st rm (kp past rm))) (ea_cons (ed_var rfl (.obj (.ref a))) (ea_cons (ed_var rfl (.int k)) (ea_cons (ed_var rfl (r5.le e02)) (ea_cons (ed_var rfl (r6.le e02)) (ea_cons (ed_callV (R := R_kp K C ms ties k kp) rfl (hk.le e02) (ea_cons (ed_var rfl (.obj (.ref a))) (ea_cons (ed_var rfl (.int k)) (ea_cons (ed_var rfl (r4.le e02)) (ea_cons (ed_ixT (ds := [.str "give", .int rm]) (ed_var rfl (r6.le e02)) ed_int (by decide) rfl) ea_nil)))) fun H3 e3 => ⟨a, past, rm, rfl, x.le (e02.trans e3), hin, hpl, m0, m1, rfl⟩) ea_nil))))) fun H3 e3 => ⟨a, ms, ties, k, st, rm, kp past rm, rfl, x.le (e02.trans e3), ok, h8, sok, hl, m0, m1, hno past rm, rfl⟩) fun v9 v10 H3 e3 r9 r10 => ?_
    have e03 := e02.trans e3
    by_cases hn : isNon (kp past rm) = true
    · rw [if_pos hn] at r9
      refine q_whenB (b := true) (et_test (K := K) (ed_isNB (ed_var rfl r9) fun v e => nomatch e)) (fun _ H4 e4 => ?_) fun h => nomatch h
      refine out ?_ (e03.trans e4) (ed_tup (ds := [.tup (past.map eD), eT (cutSt ms st), .str (wordL ms ties k st rm (kp past rm))]) (ea_cons (ed_var rfl (r4.le (e03.trans e4))) (ea_cons (ed_var rfl (r5.le (e03.trans e4))) (ea_cons (ed_var rfl (r10.le e4)) ea_nil))) (by show 3 ≤ 100000; decide))
      unfold stepD stepL wordL
      dsimp only
      rw [if_pos hn, if_pos hn]
    · by_cases hb : btw 0 (k - 1) (kp past rm) = true
      · rw [if_neg hn, if_pos hb] at r9
        obtain ⟨t, ht, t0, t1⟩ := btw_int hb
        have hs : stepL ms ties k kp past st (.give rm) = (past ++ [.give rm t], doneL st (.give rm t), wordL ms ties k st rm (kp past rm)) := by
          unfold stepL
          dsimp only
          rw [if_neg hn, if_pos hb, ht]
          rfl
        rw [ht] at r9
        exact more (dd := .give rm t) e03 r9 r10 m0 m1 hs
      · rw [if_neg hn, if_neg hb] at r9
        refine q_whenB (b := true) (et_test (K := K) (ed_isNB (ed_var rfl r9) fun v e => nomatch e)) (fun _ H4 e4 => ?_) fun h => nomatch h
        refine out ?_ (e03.trans e4) (ed_tup (ds := [.tup (past.map eD), eT (cutSt ms st), .str (wordL ms ties k st rm (kp past rm))]) (ea_cons (ed_var rfl (r4.le (e03.trans e4))) (ea_cons (ed_var rfl (r5.le (e03.trans e4))) (ea_cons (ed_var rfl (r10.le e4)) ea_nil))) (by show 3 ≤ 100000; decide))
        unfold stepD stepL wordL
        dsimp only
        rw [if_neg hn, if_neg hb, if_neg hn, if_neg hb]
end
end W1

set_option maxRecDepth 100000
set_option maxHeartbeats 4000000
/-! defs that may raise, told in data -/
namespace W1
open PySem PyProof.Rows L2
inductive Out where
  | ret (P : Pd)
  | err (C : Addr) (f : Option (Str × D))
/-- what E must take -/
def Lets (K : PySem.W.Frag) (E : XK) (H : Hp) (C : Addr) : Option (Str × D) → Prop
  | none => ∀ H2, Le H H2 → E (.ref C) none H2
  | some (f, d) => ∀ dd v H2, Le H H2 → H2 dd = some (.xd [(f, v)]) → Rp K H2 v d → E (.ref C) (some dd) H2
theorem Lets.le {K : PySem.W.Frag} {E : XK} {H H1 : Hp} {C : Addr} {f : Option (Str × D)} (e : Le H H1) (l : Lets K E H C f) : Lets K E H1 C f := by
  cases f with
  | none => exact fun H2 e2 => l H2 (e.trans e2)
  | some p => exact fun dd v H2 e2 h r => l dd v H2 (e.trans e2) h r
def spX (K : PySem.W.Frag) (R : List D → Hp → Out → Prop) : Sp := fun vs H Q E => ∃ ds o, Rps K H vs ds ∧ R ds H o ∧ (∀ P, o = .ret P → ∀ v d H2, Le H H2 → P d H2 → Rp K H2 v d → Q v H2) ∧ (∀ C f, o = .err C f → Lets K E H C f)
section
variable {K : PySem.W.Frag} {σ : L2.St} {H : Hp} {A : TA} {te : TE} {P : Pd} {E : XK} {ds : List D} {R : List D → Hp → Out → Prop}
theorem ep_callX (h : EDA K A σ H ds) (hr : ∀ H2, Le H H2 → R ds H2 (.ret P)) : EP K (tCall (spX K R) [] E A) σ H P := fun H1 e Q q => h H1 e _ fun vs ds' H2 e2 p r => by
  have p' : ds' = ds := p
  subst p'
  refine ⟨ds', _, by rw [List.append_nil]; exact r, hr H2 (e.trans e2), fun P0 e0 v d H3 e3 p3 r3 => ?_, fun C f e0 => Out.noConfusion e0⟩
  cases e0
  exact q v d H3 (e2.trans e3) p3 r3
theorem er_callX {C : Addr} {f : Option (Str × D)} (h : EDA K A σ H ds) (hr : ∀ H2, Le H H2 → R ds H2 (.err C f)) (l : Lets K E H C f) (Q : VK) : tCall (spX K R) [] E A σ H Q := h H (Le.refl _) _ fun vs ds' H2 e2 p r => by
  have p' : ds' = ds := p
  subst p'
  refine ⟨ds', _, by rw [List.append_nil]; exact r, hr H2 e2, fun P0 e0 => Out.noConfusion e0, fun C' f' e0 => ?_⟩
  cases e0
  exact l.le e2
end
structure FC (P : Program) (w : World) (K : PySem.W.Frag) (mg : Str → Option Value) (base : Heap) (x f : Str) (C : Addr) : Prop where
  mgC : mg x = some (.ref C)
  ox : OexC K C
  xf : XfC K C
  no : PySem.W.findIn K (.ref C) f = some none
  ex : ∃ fi fd, PySem.W.findIn K (.ref C) "__init__" = some (some (.ref fi)) ∧ PySem.W.typeIn K (.ref fi) = some (.type "function") ∧ FnOk P w K mg base CX0 1 fi fd ["self", f] (spFld K f) ∧ Binds K fd ["self", f] []
section
variable {X : Cx} {x f : Str} {C : Addr} {p pos : Pos} {e : Expr} {te : TE} {K : PySem.W.Frag}
theorem pmk_fc (c : FC X.prog X.w X.K X.mg X.base x f C) (hr : Room 2 X.A) (ha : PE X e te) (hg : Gl X x := by rfl) (hdb : (x == ("__debug__" : Str)) = false := by decide) (he : starEach [e] X.env = (false, eval e X.env) :: starEach [] X.env := by rfl) (h : X.K = K := by rfl) :
    PMk X (.Call (.Name x p) [e] [] pos) (tMkO C (spFld K f) [] (tCons te tNil)) := by
  subst h
  obtain ⟨fi, fd, h1, h2, F, b⟩ := c.ex
  exact pmk_oex c.ox h1 h2 F hr b .nil pass0 hg c.mgC (pa_cons ha pa_nil (hs := he)) hdb he (by rfl)
end
section
variable {K : PySem.W.Frag} {σ : L2.St} {H : Hp} {te : TE} {C : Addr} {f : Str} {d0 : D} {W : XK}
theorem mkO_lets (T : OexC K C) (hno : PySem.W.findIn K (.ref C) f = some none) (h : ED K te σ H d0) (k : ∀ dd v H2, Le H H2 → H2 dd = some (.xd [(f, v)]) → Rp K H2 v d0 → W (.ref C) (some dd) H2) : tMkO C (spFld K f) [] (tCons te tNil) σ H W := ea_cons h ea_nil H (Le.refl _) _ fun vs es H2 e2 p r => by
  have p' : es = [d0] := p
  subst p'
  obtain ⟨v, rfl, r1⟩ := rps1 r
  refine ⟨by show 1 ≤ 1000; decide, fun a na => ⟨a, C, v, rfl, upd_same, T, hno, fun dx hdx hne => ⟨rfl, dx, [(f, v)], upd_same, ?_, ?_, ?_⟩⟩⟩
  · rw [upd_ne hne, upd_same]
  · rw [upd_ne hne] at hdx
    exact hdx
  · have hd : H2 dx = none := by
      rw [upd_ne hne] at hdx
      exact hdx
    have l2 : Le H2 (upd (del (upd (upd (upd H2 a (exo a C none)) dx (exd dx [(f, v)])) a (exo a C (some dx))) a) dx (.xd [(f, v)])) := Le.ex fun b o hb => by
      have n1 : b ≠ dx := ne_of_none hb hd
      have n2 : b ≠ a := ne_of_none hb na
      rw [upd_ne n1]
      unfold del
      rw [if_neg n2, upd_ne n2, upd_ne n1, upd_ne n2]
      exact hb
    exact k dx v _ (e2.trans l2) upd_same (r1.le l2)
end
/-- a def that may raise -/
def DefX (P : Program) (w : World) (K : PySem.W.Frag) (mg : Str → Option Value) (base : Heap) (k : Nat) (x : Str) (ps : List Str) (sp : Sp) : Prop :=
  ∃ f fd, mg x = some (.ref f) ∧ PySem.W.keepIn K (.ref f) = true ∧ Binds K fd ps [] ∧ FnOk P w K mg base (L2.CX P w) k f fd ps sp
section
variable {P : Program} {w : World} {K : PySem.W.Frag} {mg : Str → Option Value} {base : Heap}
theorem defX {x : Str} {st : Stmt} {N ps : List Str} {k : Nat} {R : List D → Hp → Out → Prop} (g : GDef K mg x st ps) (S : FnScope N ps (defScope st)) (hl : ∀ ds H o, R ds H o → ds.length = ps.length)
    (body : ∀ (cdv : Value) (A : Around) (outer : List Env) (s : Shared) (f : Addr) (H : Hp) (vs : List V) (ds : List D) (o : Out) (Q : VK) (E : XK), Room k (A.deeper (envOfC x (defScope st) s.heap.objs.size f cdv)) → Rps K H vs ds → R ds H o →
      (∀ P, o = .ret P → ∀ v d H2, Le H H2 → P d H2 → Rp K H2 v d → Q v H2) → (∀ C f, o = .err C f → Lets K E H C f) →
      ∃ t, PSs (cxOf (L2.CX P w) P w K mg base N x (defScope st) f cdv A outer s H E) (defBody st) t ∧ t { nx := fun _ H' => Q .non H', rt := Q } (start N vs) H) : DefX P w K mg base (k + 1) x ps (spX K R) := by
  obtain ⟨f, fd, hm, F, hb⟩ := g
  refine ⟨f, fd, hm, F.kp, hb, F.okX S (fun vs H Q E h => ?_) fun cdv A outer s H vs Q E hr h => ?_⟩
  · obtain ⟨ds, o, r, h, _⟩ := h
    rw [r.len]
    exact hl ds H o h
  · obtain ⟨ds, o, r, h, q, l⟩ := h
    exact body cdv A outer s f H vs ds o Q E hr r h q l
end
section
variable {X : Cx} {k : Nat} {x : Str} {ps : List Str} {sp : Sp} {p pos : Pos} {e : Expr} {es : List Expr} {t : TA} {E : XK}
theorem pe_defX (G : DefX X.prog X.w X.K X.mg X.base k x ps sp) (hr : Room k X.A) (hx : Passes (L2.CX X.prog X.w) X E) (ha : PA X (e :: es) t) (hg : Gl X x := by rfl)
    (hdb : (x == ("__debug__" : Str)) = false := by decide) (he : starEach (e :: es) X.env = (false, eval e X.env) :: starEach es X.env := by rfl) (hpl : (backTo pos (starEach es X.env)).any (·.1) = false := by rfl) :
    PE X (.Call (.Name x p) (e :: es) [] pos) (tCall sp [] E t) := by
  obtain ⟨f, fd, hm, hk, hb, F⟩ := G
  exact pe_call F hr hg hm hk hb .nil hx ha hdb he hpl
theorem passF {X : Cx} : Passes (L2.CX X.prog X.w) X (fun _ _ _ => False) := fun pins σ H s e s' I c => by
  obtain ⟨a, B, H', cls, d, _, _, _, _, _, _, _, h⟩ := c
  exact h.elim
end
end W1

set_option maxRecDepth 100000
set_option maxHeartbeats 4000000
/-! rows refused; a row that is led -/
namespace W1
open PySem PyProof.Rows L2
local macro_rules | `(tactic| walk_at "rp") => `(tactic| first | assumption | exact Rp.int _ | exact Rp.bl _ | exact Rp.str _ | exact Rp.non | exact Rp.obj _ | (refine Rp.le (by assumption) ?_; walk_at "rp"))
local macro_rules | `(tactic| walk_at "ed") => `(tactic| first
  | exact ed_int | exact ed_str | exact ed_bl | exact ed_non
  | (refine ed_var rfl ?_; walk_at "rp")
  | (refine ed_ixT (ds := [_, _]) ?_ ed_int (by decide) rfl; walk_at "ed")
  | (refine ed_I0 ?_ ?_ <;> walk_at "ed")
  | (refine ed_B0 ?_ ?_ <;> walk_at "ed")
  | (refine ed_eqS ?_ ?_ rfl rfl rfl <;> walk_at "ed")
  | assumption)
local macro_rules | `(tactic| walk_at "ea") => `(tactic| first | exact ea_nil | (refine ea_cons ?_ ?_; walk_at "ed"; walk_at "ea"))

abbrev s_check_row : Stmt := topS 33
abbrev N_check_row : List Str := ["web", "row", "at"]
theorem sc_check_row : FnScope N_check_row ["web", "row"] (defScope s_check_row) := ⟨rfl, rfl, rfl, by decide +kernel, rfl, by decide +kernel, by decide +kernel⟩
abbrev s_led : Stmt := topS 35
abbrev N_led : List Str := ["keeper", "web", "k", "row", "past", "standing", "ask", "word"]
theorem sc_led : FnScope N_led ["keeper", "web", "k", "row"] (defScope s_led) := ⟨rfl, rfl, rfl, by decide +kernel, rfl, by decide +kernel, by decide +kernel⟩
theorem ed_notNB {K : PySem.W.Frag} {σ : L2.St} {H : Hp} {ta : TE} {d1 : D} (ha : ED K ta σ H d1) (n : ∀ v, d1 ≠ .obj v) : ED K (tOp (fun x y H Q => y = .non ∧ Q (.bl (!decide (x = .non))) H) ta (tC .non)) σ H (.bl (!isNon d1)) := ed_eq (ed_notN ha n) (by cases d1 <;> rfl)
theorem passUp {P : Program} {w : World} {K : PySem.W.Frag} {mg : Str → Option Value} {base : Heap} {N : List Str} {x : Str} {sc : Scope} {f : Addr} {cdv : Value} {A : Around} {outer : List Env} {s : Shared} {H : Hp} {E : XK} :
    Passes (L2.CX P w) (cxOf (L2.CX P w) P w K mg base N x sc f cdv A outer s H E) E := passes_call (takes_of rfl rfl rfl rfl) (fun _ _ _ _ h => h)
section
variable {P : Program} {w : World} {K : PySem.W.Frag} {mg : Str → Option Value} {base : Heap} {C CR : Addr}
def R_crow (K : PySem.W.Frag) (C CR : Addr) : List D → Hp → Out → Prop := fun ds H o => ∃ a ms ties d, ds = [.obj (.ref a), d] ∧ WebAt K C H a ms ties ∧ 1 ≤ ms.length ∧ ms.length ≤ 60 ∧ Rw H d ∧ o = if rowB ms.length d = true then .ret (is .non) else .err CR (some ("index", rowD ms.length d))
theorem ok_crow (T : HTxt mg) (c_NoRow : FC P w K mg base "NoRow" "index" CR) (g : GDef K mg "check_row" s_check_row ["web", "row"]) (Gfirst_no_ask : Def P w K mg base 6 "first_no_ask" ["web", "things"] (spD K (R_fna K C))) : DefX P w K mg base 9 "check_row" ["web", "row"] (spX K (R_crow K C CR)) := by
  refine defX g sc_check_row (fun ds H o h => ?_) fun cdv A outer s f H vs ds o Q E hr r h q l => ?_
  · obtain ⟨a, ms, ties, d, rfl, _⟩ := h
    rfl
  obtain ⟨a, ms, ties, d, rfl, x, h1, h60, hd, ho⟩ := h
  obtain ⟨v1, v2, rfl, r1, r2⟩ := rps2 r
  have ev := rp_obj r1
  subst ev
  refine ⟨_, (pss_cons (ps_if (pt_not (pt_val (pe_callB (kc_isiT (K := K)) (by rfl) T.n_isinstance boot_isinstance (pa_cons (pv 1) (pa_cons (pe_tup (pa_cons (pe_bltn (v := V.ty "list") (by rfl) T.n_list boot_list rfl) (pa_cons (pe_bltn (v := V.ty "tuple") (by rfl) T.n_tuple boot_tuple rfl) pa_nil))) pa_nil)))))
      (pss_one (ps_raise rfl (takes_of rfl rfl rfl rfl) (pmk_fc c_NoRow (hr.mono (by decide)) (pe_un un_neg pe_int))))
      pss_nil)
    (pss_cons (ps_set (i := 2) sc_check_row.nd rfl (Or.inl rfl) (pe_def Gfirst_no_ask (hr.mono (by decide)) (pa_cons (pv 0) (pa_cons (pv 1) pa_nil))))
    (pss_one (ps_if (pt_cmpR op_notN (pv 2) pe_non (nomark _))
      (pss_one (ps_raise rfl (takes_of rfl rfl rfl rfl) (pmk_fc c_NoRow (hr.mono (by decide)) (pv 2))))
      pss_nil)))), ?_⟩
  have bad : rowB ms.length d = false → ∀ {te : TE} {σ : L2.St} {H1 : Hp} {D1 : Ends}, Le H H1 → ED K te σ H1 (rowD ms.length d) → (tMkO CR (spFld K "index") [] (tCons te tNil)) σ H1 (fun cls d H' => E cls d H') := fun hb te σ H1 D1 e h => by
    rw [hb, if_neg Bool.false_ne_true] at ho
    exact mkO_lets c_NoRow.ox c_NoRow.no h fun dd v H2 e2 h r => l _ _ ho dd v H2 (e.trans e2) h r
  refine q_whenB (b := !isSeq d) (eb_not (et_B (K := K) (ed_isiRw rfl r2 hd))) (fun hs H1 e1 => ?_) fun hs H1 e1 => ?_
  · rw [Bool.not_eq_true'] at hs
    refine bad (by unfold rowB; rw [hs]; rfl) (D1 := { nx := fun _ H' => Q .non H', rt := Q }) e1 ?_
    rw [rowD_no hs]
    exact ed_neg ed_int
  rw [Bool.not_eq_false'] at hs
  obtain ⟨xs, hx, hl, ht⟩ := hd.seq hs
  refine q_asgD (K := K) (d := rowD ms.length d) (ed_call (P := is (rowD ms.length d)) (ea_cons (ed_var rfl (.obj (.ref a))) (ea_cons (ed_var rfl (r2.le e1)) ea_nil)) fun H2 e2 => ⟨a, ms, ties, d, xs, rfl, x.le (e1.trans e2), h1, h60, hx, hl, fun y hy => (ht y hy).le (e1.trans e2), by rw [rowD_seq hx]⟩) fun v3 H2 e2 r3 => ?_
  have e12 := e1.trans e2
  refine s_ifB (b := !isNon (rowD ms.length d)) (et_test (K := K) (ed_notNB (ed_var rfl r3) (sca_ob rowD_sca))) (fun hb H3 e3 => ?_) fun hb H3 e3 => ?_
  · rw [Bool.not_eq_true'] at hb
    exact bad (by unfold rowB; rw [hb, Bool.and_false]) (D1 := { nx := fun _ H' => Q .non H', rt := Q }) (e12.trans e3) (ed_var rfl (r3.le e3))
  · rw [Bool.not_eq_false'] at hb
    rw [if_pos (by unfold rowB; rw [hs, hb]; rfl)] at ho
    exact q _ ho .non .non H3 (e12.trans e3) rfl .non
end
/- (pss_cons (ps_expr (pe_def Gcheck_tags (hr.mono (by decide)) (pa_cons (pv 2) pa_nil)))
    (pss_cons (ps_expr (pe_defX Gcheck_row (hr.mono (by decide)) passUp (pa_cons (pv 1) (pa_cons (pv 3) pa_nil))))
    (pss_cons (ps_set (i := 4) sc_led.nd rfl (Or.inl rfl) (pe_tup pa_nil))
    (pss_cons (ps_set (i := 5) sc_led.nd rfl (Or.inl rfl) (pe_def Gbegun (hr.mono (by decide)) (pa_cons (pv 1) pa_nil)))
    (pss_cons (ps_for (passes_of rfl) rfl (kpi_tup (K := K) (pe_callTy (kc_tuple (K := K)) (by rfl) T.n_tuple boot_tuple (pa_cons (pv 3) pa_nil))) (pg_name (i := 6) sc_led.nd rfl (Or.inl rfl))
      (pss_cons (ps_asg (pe_def Gled_on (hr.mono (by decide)) (pa_cons (pv 0) (pa_cons (pv 1) (pa_cons (pv 2) (pa_cons (pv 4) (pa_cons (pv 5) (pa_cons (pv 6) pa_nil))))))) (kpg_tup (K := K) (n := 3) rfl (pgs_cons (pg_name (i := 4) sc_led.nd rfl (Or.inl rfl)) (pgs_cons (pg_name (i := 5) sc_led.nd rfl (Or.inl rfl)) (pgs_cons (pg_name (i := 7) sc_led.nd rfl (Or.inl rfl)) pgs_nil)))))
    (pss_one (ps_if (pt_cmpR op_ne (pv 7) pe_str (nomark _))
      (pss_one (ps_ret (pe_tup (pa_cons (pv 4) (pa_cons (pv 7) pa_nil)))))
      pss_nil))))
    (pss_one (ps_ret (pe_tup (pa_cons (pv 4) (pa_cons pe_str pa_nil)))))))))) -/
end W1

set_option maxRecDepth 100000
set_option maxHeartbeats 4000000
/-! a row that is led -/
namespace W1
open PySem PyProof.Rows L2
local macro_rules | `(tactic| walk_at "rp") => `(tactic| first | assumption | exact Rp.int _ | exact Rp.bl _ | exact Rp.str _ | exact Rp.non | exact Rp.obj _ | (refine Rp.le (by assumption) ?_; walk_at "rp"))
local macro_rules | `(tactic| walk_at "ed") => `(tactic| first
  | exact ed_int | exact ed_str | exact ed_bl | exact ed_non
  | (refine ed_var rfl ?_; walk_at "rp")
  | (refine ed_ixT (ds := [_, _]) ?_ ed_int (by decide) rfl; walk_at "ed")
  | (refine ed_I0 ?_ ?_ <;> walk_at "ed")
  | (refine ed_B0 ?_ ?_ <;> walk_at "ed")
  | (refine ed_eqS ?_ ?_ rfl rfl rfl <;> walk_at "ed")
  | assumption)
local macro_rules | `(tactic| walk_at "ea") => `(tactic| first | exact ea_nil | (refine ea_cons ?_ ?_; walk_at "ed"; walk_at "ea"))

abbrev s_check_tags : Stmt := topS 10
abbrev N_check_tags : List Str := ["k"]
theorem sc_check_tags : FnScope N_check_tags ["k"] (defScope s_check_tags) := ⟨rfl, rfl, rfl, by decide +kernel, rfl, by decide +kernel, by decide +kernel⟩
theorem q_tup3V {K : PySem.W.Frag} {σ : L2.St} {H : Hp} {te : TE} {d1 d2 d3 : D} {D1 : Ends} {tz : TS} {i j l : Nat} (h : ED K te σ H (.tup [d1, d2, d3])) (k : ∀ v w u H1, Le H H1 → Rp K H1 v d1 → Rp K H1 w d2 → Rp K H1 u d3 → tz D1 (((σ.set i (some v)).set j (some w)).set l (some u)) H1) : tSeq (tAsg te (gTup K 3 (gCons (gName i) (gCons (gName j) (gCons (gName l) gNil))))) tz D1 σ H := h H (Le.refl _) _ fun v d' H1 e p r => by
  obtain rfl : d' = .tup [d1, d2, d3] := p
  obtain ⟨a, xs, rfl, s, r⟩ := rp_tup r
  obtain ⟨x1, x2, x3, rfl, r1, r2, r3⟩ := rps3 r
  exact ⟨a, _, rfl, s, rfl, _, _, rfl, _, _, rfl, _, _, rfl, rfl, k _ _ _ H1 e r1 r2 r3⟩
theorem ed_tupOfE {K : PySem.W.Frag} {σ : L2.St} {H : Hp} {ta : TE} {d : D} {ds : List D} (hd : d = .tup ds ∨ d = .lst ds) (h : ED K ta σ H d) : ED K (tCB (rTupOf K) (tCons ta tNil)) σ H (.tup ds) := by
  rcases hd with rfl | rfl
  · exact ed_cb (ea_cons h ea_nil) fun vs H2 _ r Q q => by
      obtain ⟨v, rfl, rv⟩ := rps1 r
      obtain ⟨a, xs, rfl, s, rr⟩ := rp_tup rv
      exact ⟨a, xs, rfl, .inr ⟨s, q _ _ H2 (Le.refl _) rfl (.tup s rr)⟩⟩
  · exact ed_tupOf h
def ledL (ms : List Int) (ties : List (Int × Int)) (k : Int) (kp : List Deed → Int → D) : List Deed → St1 → List Ask → List Deed × Str
  | past, _, [] => (past, "kept")
  | past, st, ak :: row => if (stepL ms ties k kp past st ak).2.2 = "kept" then ledL ms ties k kp (stepL ms ties k kp past st ak).1 (stepL ms ties k kp past st ak).2.1 row else ((stepL ms ties k kp past st ak).1, (stepL ms ties k kp past st ak).2.2)
def ledD (x : List Deed × Str) : D := .tup [.tup (x.1.map eD), .str x.2]
def InA (n : Nat) (row : List Ask) : Prop := ∀ ak ∈ row, 0 ≤ ak.room ∧ ak.room < n
/-- past and state at the i-th turn -/
structure StI (n i : Nat) (past : List Deed) (st : St1) : Prop where
  b : StB n i st
  inr : InR n past
  len : past.length ≤ i
theorem StI.start (n : Nat) : StI n 0 [] (List.replicate n (false, [])) := ⟨StB.start n, (fun dd h => nomatch h), Nat.le_refl _⟩
theorem StI.deed {n i : Nat} {past : List Deed} {st : St1} {dd : Deed} (h : StI n i past st) (h0 : 0 ≤ dd.room) (h1 : dd.room < n) : StI n (i + 1) (past ++ [dd]) (doneL st dd) := by
  refine ⟨h.b.done h0 h1, fun x hx => ?_, ?_⟩
  · rcases List.mem_append.mp hx with hx | hx
    · exact h.inr x hx
    · rw [List.mem_singleton.mp hx]
      exact ⟨h0, h1⟩
  · rw [List.length_append]
    exact Nat.succ_le_succ h.len
theorem StI.skip {n i : Nat} {past : List Deed} {st : St1} (h : StI n i past st) : StI n (i + 1) past st := ⟨⟨h.b.len, h.b.shown, fun x hx => Nat.le_succ_of_le (h.b.tags x hx)⟩, h.inr, Nat.le_succ_of_le h.len⟩
theorem StI.step {n i : Nat} {past : List Deed} {st : St1} {ms : List Int} {ties : List (Int × Int)} {k : Int} {kp : List Deed → Int → D} {ak : Ask} (h : StI n i past st) (h0 : 0 ≤ ak.room) (h1 : ak.room < n) : StI n (i + 1) (stepL ms ties k kp past st ak).1 (stepL ms ties k kp past st ak).2.1 := by
  cases ak with
  | back r => exact h.deed (dd := .back r) h0 h1
  | give r =>
    unfold stepL
    dsimp only
    split
    · exact h.skip
    · split
      · exact h.deed (dd := .give r (intO (kp past r))) h0 h1
      · exact h.skip
theorem ledL_turn {ms : List Int} {ties : List (Int × Int)} {k : Int} {kp : List Deed → Int → D} {past : List Deed} {st : St1} {row : List Ask} {i : Nat} {ak : Ask} (h : row[i]? = some ak) : ledL ms ties k kp past st (row.drop i) = if (stepL ms ties k kp past st ak).2.2 = "kept" then ledL ms ties k kp (stepL ms ties k kp past st ak).1 (stepL ms ties k kp past st ak).2.1 (row.drop (i + 1)) else ((stepL ms ties k kp past st ak).1, (stepL ms ties k kp past st ak).2.2) := by
  have hi := (List.getElem?_eq_some_iff.mp h).1
  rw [List.drop_eq_getElem_cons hi, show row[i] = ak from (List.getElem?_eq_some_iff.mp h).2]
  rfl
section
variable {P : Program} {w : World} {K : PySem.W.Frag} {mg : Str → Option Value} {base : Heap} {C CR : Addr}
def R_ctags : List D → Hp → Pd → Prop := fun ds _ P => ∃ k : Int, ds = [.int k] ∧ 1 ≤ k ∧ k ≤ 200 ∧ P = is .non
theorem ok_ctags (T : HTxt mg) (g : GDef K mg "check_tags" s_check_tags ["k"]) (Gis_between : Def P w K mg base 2 "is_between" ["least", "most", "thing"] (spD K R_btw)) : Def P w K mg base 3 "check_tags" ["k"] (spD K R_ctags) := by
  refine defD g sc_check_tags (fun ds H Pd h => ?_) fun cdv A outer s f H vs ds Pd Q E hr r h q => ?_
  · obtain ⟨k, rfl, _⟩ := h
    rfl
  obtain ⟨k, rfl, k1, k2, rfl⟩ := h
  obtain ⟨v1, rfl, r1⟩ := rps1 r
  refine ⟨_, (pss_one (ps_if (pt_not (pt_val (pe_def Gis_between (hr.mono (by decide)) (pa_cons pe_int (pa_cons (pe_gl T.g_tags) (pa_cons (pv 0) pa_nil))))))
      (pss_one ps_never)
      pss_nil)), ?_⟩
  refine s_ifB (b := false) (eb_eq (eb_not (et_B (K := K) (ed_btw ed_int (fun H1 _ Q q => q _ _ H1 (Le.refl _) rfl (.int 200)) (ed_var rfl r1) rfl))) ?_) (fun h => nomatch h) fun _ H1 e1 => q _ .non H1 e1 rfl .non
  show (!(decide _ && decide _)) = false
  rw [decide_eq_true k1, decide_eq_true k2]
  rfl
/-- a row of asks that is led, or a row refused -/
def R_led (P : Program) (w : World) (K : PySem.W.Frag) (mg : Str → Option Value) (base : Heap) (C CR : Addr) : List D → Hp → Out → Prop := fun ds H o => ∃ a ms ties k f d, ds = [.obj (.ref f), .obj (.ref a), .int k, d] ∧ WebAt K C H a ms ties ∧ PartsOk ms ties ∧ ms.length ≤ 8 ∧ 1 ≤ k ∧ k ≤ 200 ∧ Rw H d ∧
  (rowB ms.length d = false → o = .err CR (some ("index", rowD ms.length d))) ∧
  (rowB ms.length d = true → ∃ kp row, (d = .tup (row.map eK) ∨ d = .lst (row.map eK)) ∧ Keeper P w K mg base C ms ties k kp f H ∧ (∀ p r, noObj (kp p r) = true) ∧ InA ms.length row ∧ row.length ≤ 200 ∧ o = .ret (is (ledD (ledL ms ties k kp [] (List.replicate ms.length (false, [])) row))))
theorem ok_led (T : HTxt mg) (g : GDef K mg "led" s_led ["keeper", "web", "k", "row"]) (Gcheck_tags : Def P w K mg base 3 "check_tags" ["k"] (spD K R_ctags)) (Gcheck_row : DefX P w K mg base 9 "check_row" ["web", "row"] (spX K (R_crow K C CR))) (Gbegun : Def P w K mg base 1 "begun" ["web"] (spD K (R_begun K C)))
    (Gled_on : Def P w K mg base 12 "led_on" ["keeper", "web", "k", "past", "standing", "ask"] (spD K (R_ledon P w K mg base C))) : DefX P w K mg base 13 "led" ["keeper", "web", "k", "row"] (spX K (R_led P w K mg base C CR)) := by
  refine defX g sc_led (fun ds H o h => ?_) fun cdv A outer s f H vs ds o Q E hr r h q l => ?_
  · obtain ⟨a, ms, ties, k, f, d, rfl, _⟩ := h
    rfl
  obtain ⟨a, ms, ties, k, fk, d, rfl, x, ok, h8, k1, k2, hd, no, yes⟩ := h
  obtain ⟨v1, v2, v3, v4, rfl, r1, r2, r3, r4⟩ : ∃ v1 v2 v3 v4, vs = [v1, v2, v3, v4] ∧ Rp K H v1 (.obj (.ref fk)) ∧ Rp K H v2 (.obj (.ref a)) ∧ Rp K H v3 (.int k) ∧ Rp K H v4 d := by
    cases r with
    | cons a r =>
      obtain ⟨v2, v3, v4, rfl, r2, r3, r4⟩ := rps3 r
      exact ⟨_, v2, v3, v4, rfl, a, r2, r3, r4⟩
  have ev1 := rp_obj r1
  have ev2 := rp_obj r2
  have ev3 := rp_int r3
  subst ev1 ev2 ev3
  have some1 := ok.some
  have few := ok.few
  refine ⟨_, (pss_cons (ps_expr (pe_def Gcheck_tags (hr.mono (by decide)) (pa_cons (pv 2) pa_nil)))
    (pss_cons (ps_expr (pe_defX Gcheck_row (hr.mono (by decide)) passUp (pa_cons (pv 1) (pa_cons (pv 3) pa_nil))))
    (pss_cons (ps_set (i := 4) sc_led.nd rfl (Or.inl rfl) (pe_tup pa_nil))
    (pss_cons (ps_set (i := 5) sc_led.nd rfl (Or.inl rfl) (pe_def Gbegun (hr.mono (by decide)) (pa_cons (pv 1) pa_nil)))
    (pss_cons (ps_for (passes_of rfl) rfl (kpi_tup (K := K) (pe_callTy (kc_tuple (K := K)) (by rfl) T.n_tuple boot_tuple (pa_cons (pv 3) pa_nil))) (pg_name (i := 6) sc_led.nd rfl (Or.inl rfl))
      (pss_cons (ps_asg (pe_def Gled_on (hr.mono (by decide)) (pa_cons (pv 0) (pa_cons (pv 1) (pa_cons (pv 2) (pa_cons (pv 4) (pa_cons (pv 5) (pa_cons (pv 6) pa_nil))))))) (kpg_tup (K := K) (n := 3) rfl (pgs_cons (pg_name (i := 4) sc_led.nd rfl (Or.inl rfl)) (pgs_cons (pg_name (i := 5) sc_led.nd rfl (Or.inl rfl)) (pgs_cons (pg_name (i := 7) sc_led.nd rfl (Or.inl rfl)) pgs_nil)))))
    (pss_one (ps_if (pt_cmpR op_ne (pv 7) pe_str (nomark _))
      (pss_one (ps_ret (pe_tup (pa_cons (pv 4) (pa_cons (pv 7) pa_nil)))))
      pss_nil))))
    (pss_one (ps_ret (pe_tup (pa_cons (pv 4) (pa_cons pe_str pa_nil)))))))))), ?_⟩
  refine q_drop (K := K) (P := is .non) (ed_call (ea_cons (ed_var rfl (.int k)) ea_nil) fun H1 _ => ⟨k, rfl, k1, k2, rfl⟩) fun H1 e1 => ?_
  cases hb : rowB ms.length d with
  | false =>
    exact er_callX (K := K) (ea_cons (ed_var rfl (.obj (.ref a))) (ea_cons (ed_var rfl (r4.le e1)) ea_nil)) (fun H3 e3 => ⟨a, ms, ties, d, rfl, x.le (e1.trans e3), some1, few, hd.le (e1.trans e3), by rw [hb]; rfl⟩) ((l _ _ (no hb)).le e1) _
  | true =>
    obtain ⟨kp, row, hrow, hk, hno, hin, hrl, ho⟩ := yes hb
    refine q_drop (K := K) (P := is .non) (ep_callX (ea_cons (ed_var rfl (.obj (.ref a))) (ea_cons (ed_var rfl (r4.le e1)) ea_nil)) fun H3 e3 => ⟨a, ms, ties, d, rfl, x.le (e1.trans e3), some1, few, hd.le (e1.trans e3), by rw [hb]; rfl⟩) fun H2 e2 => ?_
    have e12 := e1.trans e2
    refine q_asgD (K := K) (d := .tup []) (ed_tup (ds := []) ea_nil (by decide)) fun v5 H3 e3 r5 => ?_
    have e13 := e12.trans e3
    refine q_asgD (K := K) (d := eT (cutSt ms (List.replicate ms.length (false, [])))) (ed_eq (ed_call (ea_cons (ed_var rfl (.obj (.ref a))) ea_nil) fun H4 e4 => ⟨a, ms, ties, rfl, x.le (e13.trans e4), some1, few, rfl⟩) (by rw [cut_start])) fun v6 H4 e4 r6 => ?_
    have e14 := e13.trans e4
    have nlK : ∀ d ∈ row.map eK, NoL d := fun d hd => by
      obtain ⟨ak, _, rfl⟩ := List.mem_map.mp hd
      cases ak <;> exact .tup fun y hy => by
        simp only [List.mem_cons, List.not_mem_nil, or_false] at hy
        rcases hy with rfl | rfl
        · exact .str _
        · exact .int _
    refine q_forT (K := K) (ds := row.map eK) (ed_tupOfE hrow (ed_var rfl (r4.le e14))) nlK fun H5 e5 => ?_
    have e15 := e14.trans e5
    refine ⟨fun i σ H' => ∃ past st u5 u6 y7 y8, σ = [some (.ref fk), some (.ref a), some (.int k), some v4, some u5, some u6, y7, y8] ∧ Le H5 H' ∧ i ≤ row.length ∧ StI ms.length i past st ∧ ledL ms ties k kp past st (row.drop i) = ledL ms ties k kp [] (List.replicate ms.length (false, [])) row ∧ Rp K H' u5 (.tup (past.map eD)) ∧ Rp K H' u6 (eT (cutSt ms st)), ⟨[], List.replicate ms.length (false, []), v5, v6, none, none, rfl, Le.refl _, Nat.zero_le _, StI.start _, by rw [List.drop_zero], r5.le (e4.trans e5), r6.le e5⟩, ?_, ?_, ?_⟩
    · rintro i σ H' _ ⟨_, _, _, _, _, _, _, e, _⟩
      exact e.t
    · rintro i d v σ H' hdi rv ⟨past, st, u5, u6, y7, y8, rfl, e, _, si, hf, ru5, ru6⟩
      obtain ⟨ak, hak, rfl⟩ := map_at hdi
      have hi := (List.getElem?_eq_some_iff.mp hak).1
      obtain ⟨m0, m1⟩ := hin ak (List.mem_of_getElem? hak)
      have e05 := e15.trans e
      rw [ledL_turn hak] at hf
      have sl := si.len
      refine q_tup3V (K := K) (d1 := .tup ((stepL ms ties k kp past st ak).1.map eD)) (d2 := eT (cutSt ms (stepL ms ties k kp past st ak).2.1)) (d3 := .str (stepL ms ties k kp past st ak).2.2) (ed_call (P := is (stepD ms (stepL ms ties k kp past st ak))) (ea_cons (ed_var rfl (.obj (.ref fk))) (ea_cons (ed_var rfl (.obj (.ref a))) (ea_cons (ed_var rfl (.int k)) (ea_cons (ed_var rfl ru5) (ea_cons (ed_var rfl ru6) (ea_cons (ed_var rfl rv) ea_nil)))))) fun H6 e6 => ⟨a, ms, ties, k, kp, fk, past, st, ak, rfl, x.le (e05.trans e6), ok, h8, hk.le (e05.trans e6), hno, si.inr, by omega, si.b.ok few (by omega), si.b.len, m0, m1, rfl⟩) fun w5 w6 w8 H6 e6 q5 q6 q8 => ?_
      have e06 := e05.trans e6
      refine s_ifB (b := !decide ((stepL ms ties k kp past st ak).2.2 = "kept")) (eb_eq (et_test (K := K) (ed_neS (d1 := .str (stepL ms ties k kp past st ak).2.2) (d2 := .str "kept") (ed_var rfl q8) ed_str rfl rfl rfl)) (by rw [vs_str])) (fun hw H7 e7 => ?_) fun hw H7 e7 => ?_
      · rw [Bool.not_eq_true', decide_eq_false_iff_not] at hw
        rw [if_neg hw] at hf
        refine s_retD (K := K) (ed_tup (ds := [.tup ((stepL ms ties k kp past st ak).1.map eD), .str (stepL ms ties k kp past st ak).2.2]) (ea_cons (ed_var rfl (q5.le e7)) (ea_cons (ed_var rfl (q8.le e7)) ea_nil)) (by show 2 ≤ 100000; decide)) fun v' H8 e8 r' => q _ ho v' _ H8 ((e06.trans e7).trans e8) ?_ r'
        rw [← hf]
        rfl
      · rw [Bool.not_eq_false', decide_eq_true_iff] at hw
        rw [if_pos hw] at hf
        exact ⟨_, _, w5, w6, some v, some w8, rfl, (e.trans e6).trans e7, hi, si.step m0 m1, hf, q5.le e7, q6.le e7⟩
    · rintro σ H' ⟨past, st, u5, u6, y7, y8, rfl, e, _, si, hf, ru5, ru6⟩
      rw [List.length_map, List.drop_length] at hf
      refine s_retD (K := K) (ed_tup (ds := [.tup (past.map eD), .str "kept"]) (ea_cons (ed_var rfl ru5) (ea_cons ed_str ea_nil)) (by show 2 ≤ 100000; decide)) fun v' H6 e6 r' => q _ ho v' _ H6 ((e15.trans e).trans e6) ?_ r'
      rw [← hf]
      rfl
end
end W1

set_option maxRecDepth 100000
set_option maxHeartbeats 4000000
/-! the law's own leading -/
namespace W1
open PySem PyProof.Rows L2
local macro_rules | `(tactic| walk_at "rp") => `(tactic| first | assumption | exact Rp.int _ | exact Rp.bl _ | exact Rp.str _ | exact Rp.non | exact Rp.obj _ | (refine Rp.le (by assumption) ?_; walk_at "rp"))
local macro_rules | `(tactic| walk_at "ed") => `(tactic| first
  | exact ed_int | exact ed_str | exact ed_bl | exact ed_non
  | (refine ed_var rfl ?_; walk_at "rp")
  | (refine ed_ixT (ds := [_, _]) ?_ ed_int (by decide) rfl; walk_at "ed")
  | (refine ed_I0 ?_ ?_ <;> walk_at "ed")
  | (refine ed_B0 ?_ ?_ <;> walk_at "ed")
  | (refine ed_eqS ?_ ?_ rfl rfl rfl <;> walk_at "ed")
  | assumption)
local macro_rules | `(tactic| walk_at "ea") => `(tactic| first | exact ea_nil | (refine ea_cons ?_ ?_; walk_at "ed"; walk_at "ea"))

abbrev s__law_led : Stmt := topS 58
abbrev N__law_led : List Str := ["_law_keeper_here", "_law_parts_here", "_law_k", "_law_row_here", "_law_web", "_law_state_here", "_law_past", "_law_ask", "_law_deed", "_law_word_here", "_law_tag"]
theorem sc__law_led : FnScope N__law_led ["_law_keeper_here", "_law_parts_here", "_law_k", "_law_row_here"] (defScope s__law_led) := ⟨rfl, rfl, rfl, by decide +kernel, rfl, by decide +kernel, by decide +kernel⟩
theorem ed_inS {K : PySem.W.Frag} {σ : L2.St} {H : Hp} {ta tb : TE} {x : Str} {ns : List Str} (h : ED K ta σ H (.str x)) (h2 : ED K tb σ H (.lst (ns.map .str))) : ED K (tOp (rIn K false) ta tb) σ H (.bl (decide (x ∈ ns))) := ed_op h h2 fun v w H2 _ r1 r2 Q q => by
  obtain ⟨a, xs, rfl, s, _, rr⟩ := rp_lst r2
  have ex := strs_rps rr
  subst ex
  rw [rp_str r1]
  refine ⟨a, _, rfl, .inl (SqL.of s), rfl, flat_strs ns, ?_⟩
  rw [inV_strs]
  exact q _ _ H2 (Le.refl _) rfl (.bl _)
theorem q_par3 {K : PySem.W.Frag} {σ : L2.St} {H : Hp} {D1 : Ends} {tz : TS} {i j l : Nat} {ta : TA} {PA : List D → Hp → Prop} (h : EA K ta σ H PA) (hl : ∀ ds H1, PA ds H1 → ds.length = 3)
    (k : ∀ v w u d1 d2 d3 H1, Le H H1 → PA [d1, d2, d3] H1 → Rp K H1 v d1 → Rp K H1 w d2 → Rp K H1 u d3 → tz D1 (((σ.set i (some v)).set j (some w)).set l (some u)) H1) : tSeq (tPar3 i j l ta) tz D1 σ H := h H (Le.refl _) _ fun vs ds H1 e p r => by
  have l3 := hl ds H1 p
  match ds, l3, r, p with
  | [d1, d2, d3], _, r, p =>
    obtain ⟨x1, x2, x3, rfl, r1, r2, r3⟩ := rps3 r
    exact ⟨x1, x2, x3, rfl, k x1 x2 x3 d1 d2 d3 H1 e p r1 r2 r3⟩
/-- the deed and the word for an ask, before they are judged -/
def midL (ms : List Int) (ties : List (Int × Int)) (k : Int) (kp : List Deed → Int → D) (past : List Deed) (st : St1) : Ask → D × Str
  | .back r => (.tup [.str "back", .int r], "kept")
  | .give r => (.tup [.str "give", .int r, kp past r], wordL ms ties k st r (kp past r))
theorem word_cases (ms : List Int) (ties : List (Int × Int)) (k : Int) (st : St1) (r : Int) (d : D) : (isNon d = true ∧ wordL ms ties k st r d = "stuck") ∨ (isNon d = false ∧ btw 0 (k - 1) d = false ∧ wordL ms ties k st r d = "odd") ∨ (isNon d = false ∧ btw 0 (k - 1) d = true ∧ (wordL ms ties k st r d = "barred" ∨ wordL ms ties k st r d = "kept")) := by
  unfold wordL
  cases hn : isNon d with
  | true => exact .inl ⟨rfl, if_pos rfl⟩
  | false =>
    rw [if_neg Bool.false_ne_true]
    cases hb : btw 0 (k - 1) d with
    | false => exact .inr (.inl ⟨rfl, rfl, if_neg Bool.false_ne_true⟩)
    | true =>
      refine .inr (.inr ⟨rfl, rfl, ?_⟩)
      rw [if_pos rfl]
      split
      · exact .inl rfl
      · exact .inr rfl
section
variable {P : Program} {w : World} {K : PySem.W.Frag} {mg : Str → Option Value} {base : Heap} {C : Addr}
def R_lled (P : Program) (w : World) (K : PySem.W.Frag) (mg : Str → Option Value) (base : Heap) (C : Addr) : List D → Hp → Pd → Prop := fun ds H P1 => ∃ ms ties k f kp row, ds = [.obj (.ref f), eW ms ties, .int k, .tup (row.map eK)] ∧ PartsOk ms ties ∧ ms.length ≤ 8 ∧ Keeper P w K mg base C ms ties k kp f H ∧ (∀ p r, noObj (kp p r) = true) ∧ InA ms.length row ∧ row.length ≤ 200 ∧
  P1 = is (ledD (ledL ms ties k kp [] (List.replicate ms.length (false, [])) row))
theorem ok_lled (T : HTxt mg) (g : GDef K mg "_law_led" s__law_led ["_law_keeper_here", "_law_parts_here", "_law_k", "_law_row_here"]) (G_law_made : Def P w K mg base 7 "_law_made" ["_law_parts_here"] (spD K (R_made K C))) (G_law_start : Def P w K mg base 1 "_law_start" ["_law_parts_here"] (spD K R_start))
    (G_law_word : Def P w K mg base 3 "_law_word" ["_law_parts_here", "_law_k", "_law_state_here", "_law_room", "_law_tag"] (spD K R_lword)) (G_law_done : Def P w K mg base 1 "_law_done" ["_law_state_here", "_law_deed"] (spF K R_done)) : Def P w K mg base 9 "_law_led" ["_law_keeper_here", "_law_parts_here", "_law_k", "_law_row_here"] (spD K (R_lled P w K mg base C)) := by
  refine defD g sc__law_led (fun ds H Pd h => ?_) fun cdv A outer s f H vs ds Pd Q E hr r h q => ?_
  · obtain ⟨ms, ties, k, f, kp, row, rfl, _⟩ := h
    rfl
  obtain ⟨ms, ties, k, fk, kp, row, rfl, ok, h8, hk, hno, hin, hrl, rfl⟩ := h
  obtain ⟨v1, v2, v3, v4, rfl, r1, r2, r3, r4⟩ : ∃ v1 v2 v3 v4, vs = [v1, v2, v3, v4] ∧ Rp K H v1 (.obj (.ref fk)) ∧ Rp K H v2 (eW ms ties) ∧ Rp K H v3 (.int k) ∧ Rp K H v4 (.tup (row.map eK)) := by
    cases r with
    | cons a r =>
      obtain ⟨v2, v3, v4, rfl, r2, r3, r4⟩ := rps3 r
      exact ⟨_, v2, v3, v4, rfl, a, r2, r3, r4⟩
  have ev1 := rp_obj r1
  have ev3 := rp_int r3
  subst ev1 ev3
  have few := ok.few
  refine ⟨_, (pss_cons (ps_par3 (i := 4) (j := 5) (l := 6) rfl sc__law_led.nd rfl rfl rfl (by decide) (by decide) (by decide) rfl rfl rfl (pa_cons (pe_def G_law_made (hr.mono (by decide)) (pa_cons (pv 1) pa_nil)) (pa_cons (pe_def G_law_start (hr.mono (by decide)) (pa_cons (pv 1) pa_nil)) (pa_cons (pe_tup pa_nil) pa_nil))) (by rfl))
    (pss_cons (ps_for PassesOwn.never rfl (kpi_tup (K := K) (pv 3)) (pg_name (i := 7) sc__law_led.nd rfl (Or.inl rfl))
      (pss_cons (ps_par (i := 8) (j := 9) (by rfl) sc__law_led.nd rfl rfl (by decide) rfl rfl (pa_cons (pv 7) (pa_cons pe_str pa_nil)) (by rfl))
    (Evl.pss_cut (ps_if (pt_cmpR op_eq (pe_ix (kix_tup (K := K)) (pv 7) pe_int (fun _ _ => rfl)) pe_str (nomark _))
      (pss_cons (ps_set (i := 10) sc__law_led.nd rfl (Or.inl rfl) (pe_callV (k := 8) (i := 0) (hr.mono (by decide)) pass0 rfl (Or.inl rfl) (pa_cons (pv 4) (pa_cons (pv 2) (pa_cons (pv 6) (pa_cons (pe_ix (kix_tup (K := K)) (pv 7) pe_int (fun _ _ => rfl)) pa_nil))))))
    (pss_cons (ps_set (i := 9) sc__law_led.nd rfl (Or.inl rfl) (pe_def G_law_word (hr.mono (by decide)) (pa_cons (pv 1) (pa_cons (pv 2) (pa_cons (pv 5) (pa_cons (pe_ix (kix_tup (K := K)) (pv 7) pe_int (fun _ _ => rfl)) (pa_cons (pv 10) pa_nil)))))))
    (pss_one (ps_set (i := 8) sc__law_led.nd rfl (Or.inl rfl) (pe_op (kop_catA (K := K)) (pv 7) (pe_tup (pa_cons (pv 10) pa_nil)))))))
      pss_nil)
    (Evl.pss_cut (ps_if (pt_cmpR (kop_in (K := K)) (pv 9) (pe_lst (pa_cons pe_str (pa_cons pe_str pa_nil))) (by rfl))
      (pss_one (ps_par (i := 6) (j := 5) (by rfl) sc__law_led.nd rfl rfl (by decide) rfl rfl (pa_cons (pe_op (kop_catA (K := K)) (pv 6) (pe_tup (pa_cons (pv 8) pa_nil))) (pa_cons (pe_def G_law_done (hr.mono (by decide)) (pa_cons (pv 5) (pa_cons (pv 8) pa_nil))) pa_nil)) (by rfl)))
      pss_nil)
    (pss_one (ps_if (pt_cmpR op_ne (pv 9) pe_str (nomark _))
      (pss_one (ps_ret (pe_tup (pa_cons (pv 6) (pa_cons (pv 9) pa_nil)))))
      pss_nil))))))
    (pss_one (ps_ret (pe_tup (pa_cons (pv 6) (pa_cons pe_str pa_nil))))))), ?_⟩
  refine q_par3 (K := K) (PA := fun ds H => ∃ a, ds = [.obj (.ref a), eS (List.replicate ms.length (false, [])), .tup []] ∧ WebAt K C H a ms ties) (EA_weak (ep_cons (P := fun d H => ∃ a, d = .obj (.ref a) ∧ WebAt K C H a ms ties) (ed_call (ea_cons (ed_var rfl r2) ea_nil) fun H1 _ => ⟨ms, ties, rfl, ok, rfl⟩) (ep_cons (P := is (eS (List.replicate ms.length (false, [])))) (ed_call (ea_cons (ed_var rfl r2) ea_nil) fun H1 _ => ⟨ms, ties, rfl, few, rfl⟩) (ep_cons (P := is (.tup [])) (ed_tup (ds := []) ea_nil (by decide)) ea_nil))) ?_) (fun ds H1 ⟨a, e, _⟩ => by rw [e]; rfl) fun v5 v6 v7 d5 d6 d7 H1 e1 p r5 r6 r7 => ?_
  · rintro ds H1 ⟨d1, t1, H3, rfl, e3, ⟨a, rfl, x⟩, d2, t2, _, rfl, _, p2, d3, t3, _, rfl, _, p3, rfl⟩
    exact ⟨a, by rw [show d2 = _ from p2, show d3 = _ from p3], x.le e3⟩
  obtain ⟨wa, ee, x⟩ := p
  injection ee with ea ee
  injection ee with eb ee
  injection ee with ec _
  subst ea eb ec
  have ev := rp_obj r5
  subst ev
  obtain ⟨H2, e2, eH⟩ : ∃ H2, Le H1 H2 ∧ H2 = H1 := ⟨H1, Le.refl _, rfl⟩
  have e12 := e1.trans e2
  rw [← eH]
  have nlK : ∀ d ∈ row.map eK, NoL d := fun d hd => by
    obtain ⟨ak, _, rfl⟩ := List.mem_map.mp hd
    cases ak <;> exact .tup fun y hy => by
      simp only [List.mem_cons, List.not_mem_nil, or_false] at hy
      rcases hy with rfl | rfl
      · exact .str _
      · exact .int _
  refine q_forT (K := K) (ds := row.map eK) (ed_var rfl (r4.le e12)) nlK fun H3 e3 => ?_
  have e13 := e12.trans e3
  refine ⟨fun i σ H' => ∃ past st u6 u7 y8 y9 y10 y11, σ = [some (.ref fk), some v2, some (.int k), some v4, some (.ref wa), some u6, some u7, y8, y9, y10, y11] ∧ Le H3 H' ∧ i ≤ row.length ∧ StI ms.length i past st ∧ ledL ms ties k kp past st (row.drop i) = ledL ms ties k kp [] (List.replicate ms.length (false, [])) row ∧ Rp K H' u7 (.tup (past.map eD)) ∧ Rp K H' u6 (eS st), ⟨[], List.replicate ms.length (false, []), v6, v7, none, none, none, none, rfl, Le.refl _, Nat.zero_le _, StI.start _, by rw [List.drop_zero], r7.le (e2.trans e3), r6.le (e2.trans e3)⟩, ?_, ?_, ?_⟩
  · rintro i σ H' _ ⟨_, _, _, _, _, _, _, _, _, e, _⟩
    exact e.t
  · rintro i d v σ H' hdi rv ⟨past, st, u6, u7, y8, y9, y10, y11, rfl, e, _, si, hf, ru7, ru6⟩
    obtain ⟨ak, hak, rfl⟩ := map_at hdi
    have hi := (List.getElem?_eq_some_iff.mp hak).1
    obtain ⟨m0, m1⟩ := hin ak (List.mem_of_getElem? hak)
    have e03 := e13.trans e
    rw [ledL_turn hak] at hf
    have sl := si.len
    have sok := si.b.ok few (by omega)
    refine q_par2 (K := K) (PA := fun ds _ => ds = [eK ak, .str "kept"]) (ea_cons (ed_var rfl rv) (ea_cons ed_str ea_nil)) (fun ds H4 p => by rw [p]; rfl) fun v9 v10 d9 d10 H4 e4 p r9 r10 => ?_
    injection p with pa pb
    injection pb with pb _
    subst pa pb
    have e04 := e03.trans e4
    refine q_cut (M := fun σ H' => ∃ w9 w10 w11, σ = [some (.ref fk), some v2, some (.int k), some v4, some (.ref wa), some u6, some u7, some v, some w9, some w10, w11] ∧ Le H4 H' ∧ Rp K H' w9 (midL ms ties k kp past st ak).1 ∧ Rp K H' w10 (.str (midL ms ties k kp past st ak).2)) ?_ ?_
    · cases ak with
      | back rm =>
        refine s_ifB (b := false) (eb_eq (et_test (K := K) (ed_eqS (d1 := .str "back") (d2 := .str "give") (ed_ixT (ds := [_, _]) (ed_var rfl (rv.le e4)) ed_int (by decide) rfl) ed_str rfl rfl rfl)) vs_bg) (fun h => nomatch h) fun _ H5 e5 => ?_
        exact ⟨v9, v10, y11, rfl, e5, r9.le e5, r10.le e5⟩
      | give rm =>
        have ask1 : ∀ {H6 : Hp} {σ : L2.St}, Le H4 H6 → σ[7]? = some (some v) → ED K (tOp (rIxT K) (tVar 7) (tC (.int 1))) σ H6 (.int rm) := fun e s => ed_ixT (ds := [.str "give", .int rm]) (ed_var s (rv.le (e4.trans e))) ed_int (by decide) rfl
        refine s_ifB (b := true) (eb_eq (et_test (K := K) (ed_eqS (d1 := .str "give") (d2 := .str "give") (ed_ixT (ds := [_, _]) (ed_var rfl (rv.le e4)) ed_int (by decide) rfl) ed_str rfl rfl rfl)) vs_gg) (fun _ H5 e5 => ?_) fun h => nomatch h
        have e05 := e04.trans e5
        refine q_asgD (K := K) (d := kp past rm) (ed_callV (R := R_kp K C ms ties k kp) rfl (hk.le e05) (ea_cons (ed_var rfl (.obj (.ref wa))) (ea_cons (ed_var rfl (.int k)) (ea_cons (ed_var rfl (ru7.le (e4.trans e5))) (ea_cons (ask1 e5 rfl) ea_nil)))) fun H6 e6 => ⟨wa, past, rm, rfl, x.le (e2.trans ((((e3.trans e).trans e4).trans e5).trans e6)), si.inr, by omega, m0, m1, rfl⟩) fun v11 H6 e6 r11 => ?_
        have e46 := e5.trans e6
        refine q_asgD (K := K) (d := .str (wordL ms ties k st rm (kp past rm))) (ed_call (ea_cons (ed_var rfl (r2.le (e04.trans e46))) (ea_cons (ed_var rfl (.int k)) (ea_cons (ed_var rfl (ru6.le (e4.trans e46))) (ea_cons (ask1 e46 rfl) (ea_cons (ed_var rfl r11) ea_nil))))) fun H7 e7 => ⟨ms, ties, k, st, rm, kp past rm, rfl, ok, sok, si.b.len, h8, m0, m1, hno past rm, rfl⟩) fun v10' H7 e7 r10' => ?_
        refine s_asgD (K := K) (d := .tup [.str "give", .int rm, kp past rm]) (ed_catA (ds := [.str "give", .int rm]) (es := [kp past rm]) (ed_var rfl (rv.le (e4.trans (e46.trans e7)))) (ed_tup (ea_cons (ed_var rfl (r11.le e7)) ea_nil) (by show 1 ≤ 100000; decide)) (by show 3 ≤ 100000; decide)) fun v9' H8 e8 r9' => ?_
        exact ⟨v9', v10', some v11, rfl, (e46.trans e7).trans e8, r9', r10'.le e8⟩
    rintro σ H5 ⟨w9, w10, w11, rfl, e5, q9, q10⟩
    have e05 := e04.trans e5
    refine q_cut (M := fun σ H' => ∃ w6 w7, σ = [some (.ref fk), some v2, some (.int k), some v4, some (.ref wa), some w6, some w7, some v, some w9, some w10, w11] ∧ Le H5 H' ∧ Rp K H' w7 (.tup ((stepL ms ties k kp past st ak).1.map eD)) ∧ Rp K H' w6 (eS (stepL ms ties k kp past st ak).2.1) ∧ (midL ms ties k kp past st ak).2 = (stepL ms ties k kp past st ak).2.2) ?_ ?_
    · have par : ∀ {dd : Deed} {H6 : Hp}, Le H5 H6 → 0 ≤ dd.room → dd.room < ms.length → Rp K H5 w9 (eD dd) → EDA K (tCons (tOp (rCatA K) (tVar 6) (tTup (tCons (tVar 8) tNil))) (tCons (tCall (spF K R_done) [] E0 (tCons (tVar 5) (tCons (tVar 8) tNil))) tNil)) [some (.ref fk), some v2, some (.int k), some v4, some (.ref wa), some u6, some u7, some v, some w9, some w10, w11] H6 [.tup ((past ++ [dd]).map eD), eS (doneL st dd)] := fun {dd H6} e a0 a1 rd => ea_cons (ed_eq (ed_catA (ds := past.map eD) (es := [eD dd]) (ed_var rfl (ru7.le ((e4.trans e5).trans e))) (ed_tup (ea_cons (ed_var rfl (rd.le e)) ea_nil) (by show 1 ≤ 100000; decide)) (by rw [List.length_map]; show past.length + 1 ≤ 100000; omega)) (by rw [List.map_append]; rfl)) (ea_cons (EFD.ed (ef_call (R := R_done) (ea_cons (ed_var rfl (ru6.le ((e4.trans e5).trans e))) (ea_cons (ed_var rfl (rd.le e)) ea_nil)) fun H7 _ => ⟨st, dd, rfl, sok, a0, by rw [si.b.len]; exact a1, rfl⟩)) ea_nil)
      have inK : ∀ {wd : Str}, (midL ms ties k kp past st ak).2 = wd → EB (tTest (tOp (rIn K false) (tVar 9) (tLst (tCons (tC (.str "kept")) (tCons (tC (.str "barred")) tNil))))) [some (.ref fk), some v2, some (.int k), some v4, some (.ref wa), some u6, some u7, some v, some w9, some w10, w11] H5 (decide (wd ∈ (["kept", "barred"] : List Str))) := fun {wd} h => et_test (K := K) (ed_inS (ns := ["kept", "barred"]) (ed_var rfl (by rw [← h]; exact q10)) (ed_lst (ds := [.str "kept", .str "barred"]) (ea_cons ed_str (ea_cons ed_str ea_nil)) (by show 2 ≤ 100000; decide) rfl))
      cases ak with
      | back rm =>
        refine s_ifB (b := true) (eb_eq (inK (wd := "kept") rfl) (by decide +kernel)) (fun _ H6 e6 => ?_) fun h => nomatch h
        refine s_par2 (K := K) (par (dd := .back rm) e6 m0 m1 q9) (fun ds H7 p => by rw [p]; rfl) fun w7 w6 d7 d6 H7 e7 p r7' r6' => ?_
        injection p with pa pb
        injection pb with pb _
        subst pa pb
        exact ⟨w6, w7, rfl, e6.trans e7, r7', r6', rfl⟩
      | give rm =>
        rcases word_cases ms ties k st rm (kp past rm) with ⟨hn, hw⟩ | ⟨hn, hb, hw⟩ | ⟨hn, hb, hw⟩
        · refine s_ifB (b := false) (eb_eq (inK (wd := "stuck") hw) (by decide +kernel)) (fun h => nomatch h) fun _ H6 e6 => ?_
          have hs : stepL ms ties k kp past st (.give rm) = (past, st, ("stuck" : Str)) := by
            unfold stepL
            dsimp only
            rw [if_pos hn]
          exact ⟨u6, u7, rfl, e6, by rw [hs]; exact ru7.le ((e4.trans e5).trans e6), by rw [hs]; exact ru6.le ((e4.trans e5).trans e6), by rw [hs]; exact hw⟩
        · refine s_ifB (b := false) (eb_eq (inK (wd := "odd") hw) (by decide +kernel)) (fun h => nomatch h) fun _ H6 e6 => ?_
          have hs : stepL ms ties k kp past st (.give rm) = (past, st, ("odd" : Str)) := by
            unfold stepL
            dsimp only
            rw [if_neg (by rw [hn]; exact Bool.false_ne_true), if_neg (by rw [hb]; exact Bool.false_ne_true)]
          exact ⟨u6, u7, rfl, e6, by rw [hs]; exact ru7.le ((e4.trans e5).trans e6), by rw [hs]; exact ru6.le ((e4.trans e5).trans e6), by rw [hs]; exact hw⟩
        · obtain ⟨t, ht, t0, t1⟩ := btw_int hb
          have hs : stepL ms ties k kp past st (.give rm) = (past ++ [.give rm t], doneL st (.give rm t), wordL ms ties k st rm (kp past rm)) := by
            unfold stepL
            dsimp only
            rw [if_neg (by rw [hn]; exact Bool.false_ne_true), if_pos hb, ht]
            rfl
          have hin2 : decide (wordL ms ties k st rm (kp past rm) ∈ (["kept", "barred"] : List Str)) = true := by
            rcases hw with hw | hw
            · rw [hw]
              decide +kernel
            · rw [hw]
              decide +kernel
          refine s_ifB (b := true) (eb_eq (inK (wd := wordL ms ties k st rm (kp past rm)) rfl) hin2) (fun _ H6 e6 => ?_) fun h => nomatch h
          have q9' : Rp K H5 w9 (eD (.give rm t)) := by
            have q9'' : Rp K H5 w9 (.tup [.str "give", .int rm, kp past rm]) := q9
            rw [ht] at q9''
            exact q9''
          refine s_par2 (K := K) (par (dd := .give rm t) e6 m0 m1 q9') (fun ds H7 p => by rw [p]; rfl) fun w7 w6 d7 d6 H7 e7 p r7' r6' => ?_
          injection p with pa pb
          injection pb with pb _
          subst pa pb
          exact ⟨w6, w7, rfl, e6.trans e7, by rw [hs]; exact r7', by rw [hs]; exact r6', by rw [hs]; rfl⟩
    rintro σ H6 ⟨w6, w7, rfl, e6, q7, q6, hw⟩
    rw [hw] at q10
    refine s_ifB (b := !decide ((stepL ms ties k kp past st ak).2.2 = "kept")) (eb_eq (et_test (K := K) (ed_neS (d1 := .str (stepL ms ties k kp past st ak).2.2) (d2 := .str "kept") (ed_var rfl (q10.le e6)) ed_str rfl rfl rfl)) (by rw [vs_str])) (fun hw H7 e7 => ?_) fun hw H7 e7 => ?_
    · rw [Bool.not_eq_true', decide_eq_false_iff_not] at hw
      rw [if_neg hw] at hf
      refine s_retD (K := K) (ed_tup (ds := [.tup ((stepL ms ties k kp past st ak).1.map eD), .str (stepL ms ties k kp past st ak).2.2]) (ea_cons (ed_var rfl (q7.le e7)) (ea_cons (ed_var rfl (q10.le (e6.trans e7))) ea_nil)) (by show 2 ≤ 100000; decide)) fun v' H8 e8 r' => q v' _ H8 (((e05.trans e6).trans e7).trans e8) ?_ r'
      rw [← hf]
      rfl
    · rw [Bool.not_eq_false', decide_eq_true_iff] at hw
      rw [if_pos hw] at hf
      exact ⟨_, _, w6, w7, some v, some w9, some w10, w11, rfl, (((e.trans e4).trans e5).trans e6).trans e7, hi, si.step m0 m1, hf, q7.le e7, q6.le e7⟩
  · rintro σ H' ⟨past, st, u6, u7, y8, y9, y10, y11, rfl, e, _, si, hf, ru7, ru6⟩
    rw [List.length_map, List.drop_length] at hf
    refine s_retD (K := K) (ed_tup (ds := [.tup (past.map eD), .str "kept"]) (ea_cons (ed_var rfl ru7) (ea_cons ed_str ea_nil)) (by show 2 ≤ 100000; decide)) fun v' H6 e6 r' => q v' _ H6 ((e13.trans e).trans e6) ?_ r'
    rw [← hf]
    rfl
end
end W1

set_option maxRecDepth 100000
set_option maxHeartbeats 4000000
/-! rows that are drawn -/
namespace W1
open PySem PyProof.Rows L2
local macro_rules | `(tactic| walk_at "rp") => `(tactic| first | assumption | exact Rp.int _ | exact Rp.bl _ | exact Rp.str _ | exact Rp.non | exact Rp.obj _ | (refine Rp.le (by assumption) ?_; walk_at "rp"))
local macro_rules | `(tactic| walk_at "ed") => `(tactic| first
  | exact ed_int | exact ed_str | exact ed_bl | exact ed_non
  | (refine ed_var rfl ?_; walk_at "rp")
  | (refine ed_ixT (ds := [_, _]) ?_ ed_int (by decide) rfl; walk_at "ed")
  | (refine ed_I0 ?_ ?_ <;> walk_at "ed")
  | (refine ed_B0 ?_ ?_ <;> walk_at "ed")
  | (refine ed_eqS ?_ ?_ rfl rfl rfl <;> walk_at "ed")
  | assumption)
local macro_rules | `(tactic| walk_at "ea") => `(tactic| first | exact ea_nil | (refine ea_cons ?_ ?_; walk_at "ed"; walk_at "ea"))

abbrev s__law_row : Stmt := topS 55
abbrev N__law_row : List Str := ["_law_hand_here", "_law_parts_here", "_law_many", "_law_state_here", "_law_row_here", "_law_turn", "_law_asks_here", "_law_ask"]
theorem sc__law_row : FnScope N__law_row ["_law_hand_here", "_law_parts_here", "_law_many"] (defScope s__law_row) := ⟨rfl, rfl, rfl, by decide +kernel, rfl, by decide +kernel, by decide +kernel⟩
def aK (a : Bool × Nat) : Ask := if a.1 = true then .back (a.2 : Int) else .give (a.2 : Int)
theorem aK_eq (a : Bool × Nat) : eA a = eK (aK a) := by
  obtain ⟨b, j⟩ := a
  cases b <;> rfl
theorem aK_room (a : Bool × Nat) : (aK a).room = (a.2 : Int) := by
  obtain ⟨b, j⟩ := a
  cases b <;> rfl
theorem aK_ask {st : St1} {a : Bool × Nat} (h : a ∈ asksL st) : askD st (eK (aK a)) = true := by
  obtain ⟨b, j⟩ := a
  obtain ⟨h1, h2⟩ := mem_asks h
  dsimp only at h1 h2
  cases b with
  | true => exact askB_iff.mpr ⟨by omega, by omega, by rw [h2]; rfl⟩
  | false => exact askB_iff.mpr ⟨by omega, by omega, by rw [h2]; rfl⟩
theorem eK_noL (ak : Ask) : NoL (eK ak) := by
  cases ak <;> exact .tup fun y hy => by
    simp only [List.mem_cons, List.not_mem_nil, or_false] at hy
    rcases hy with rfl | rfl
    · exact .str _
    · exact .int _
section
variable {P : Program} {w : World} {K : PySem.W.Frag} {mg : Str → Option Value} {base : Heap}
def R_lrow : List D → Hp → Pd → Prop := fun ds H P => ∃ (h : Addr) (ms : List Int) (ties : List (Int × Int)) (m : Int), ds = [.obj (.ref h), eW ms ties, .int m] ∧ Hand H h ∧ 1 ≤ ms.length ∧ ms.length ≤ 60 ∧ 0 ≤ m ∧ m ≤ 100 ∧
  P = fun d _ => ∃ row : List Ask, d = .tup (row.map eK) ∧ row.length = m.toNat ∧ InA ms.length row ∧ fb 0 (List.replicate ms.length (false, [])) (row.map eK) = .non
theorem ok_lrow (T : HTxt mg) (g : GDef K mg "_law_row" s__law_row ["_law_hand_here", "_law_parts_here", "_law_many"]) (G_law_draw : Def P w K mg base 1 "_law_draw" ["_law_hand_here", "_law_many"] (spD K R_draw)) (G_law_any : Def P w K mg base 2 "_law_any" ["_law_hand_here", "_law_items"] (spD K R_any))
    (G_law_start : Def P w K mg base 1 "_law_start" ["_law_parts_here"] (spD K R_start)) (G_law_asks : Def P w K mg base 1 "_law_asks" ["_law_state_here"] (spD K R_asks)) (G_law_done : Def P w K mg base 1 "_law_done" ["_law_state_here", "_law_deed"] (spF K R_done)) :
    Def P w K mg base 3 "_law_row" ["_law_hand_here", "_law_parts_here", "_law_many"] (spD K R_lrow) := by
  refine defD g sc__law_row (fun ds H Pd h => ?_) fun cdv A outer s f H vs ds Pd Q E hr r h q => ?_
  · obtain ⟨h, ms, ties, m, rfl, _⟩ := h
    rfl
  obtain ⟨h, ms, ties, m, rfl, hh, s1, few, m0, m1, rfl⟩ := h
  obtain ⟨v1, v2, v3, rfl, r1, r2, r3⟩ := rps3 r
  have ev1 := rp_obj r1
  have ev3 := rp_int r3
  subst ev1 ev3
  refine ⟨_, (pss_cons (ps_par (i := 3) (j := 4) (by rfl) sc__law_row.nd rfl rfl (by decide) rfl rfl (pa_cons (pe_def G_law_start (hr.mono (by decide)) (pa_cons (pv 1) pa_nil)) (pa_cons (pe_tup pa_nil) pa_nil)) (by rfl))
    (pss_cons (ps_for PassesOwn.never rfl (pi_range1 (by rfl) T.n_range (pa_cons (pv 2) pa_nil)) (pg_name (i := 5) sc__law_row.nd rfl (Or.inl rfl))
      (pss_cons (ps_set (i := 6) sc__law_row.nd rfl (Or.inl rfl) (pe_def G_law_asks (hr.mono (by decide)) (pa_cons (pv 3) pa_nil)))
    (pss_cons (ps_set (i := 7) sc__law_row.nd rfl (Or.inl rfl) (pe_def G_law_any (hr.mono (by decide)) (pa_cons (pv 0) (pa_cons (pv 6) pa_nil))))
    (Evl.pss_cut (ps_if (PW.pt (pw_and (pt_cmpR op_eq (pe_ix (kix_tup (K := K)) (pv 7) pe_int (fun _ _ => rfl)) pe_str (nomark _)) (pw_and1 (pt_cmpR op_eq (pe_def G_law_draw (hr.mono (by decide)) (pa_cons (pv 0) (pa_cons pe_int pa_nil))) pe_int (nomark _)))))
      (pss_one (ps_set (i := 7) sc__law_row.nd rfl (Or.inl rfl) (pe_def G_law_any (hr.mono (by decide)) (pa_cons (pv 0) (pa_cons (pv 6) pa_nil)))))
      pss_nil)
    (pss_cons (ps_set (i := 4) sc__law_row.nd rfl (Or.inl rfl) (pe_op (kop_catA (K := K)) (pv 4) (pe_tup (pa_cons (pv 7) pa_nil))))
    (pss_one (ps_set (i := 3) sc__law_row.nd rfl (Or.inl rfl) (pe_def G_law_done (hr.mono (by decide)) (pa_cons (pv 3) (pa_cons (pe_ifExp (pt_cmpR op_eq (pe_ix (kix_tup (K := K)) (pv 7) pe_int (fun _ _ => rfl)) pe_str (nomark _)) (pv 7) (pe_op (kop_catA (K := K)) (pv 7) (pe_tup (pa_cons pe_int pa_nil)))) pa_nil))))))))))
    (pss_one (ps_ret (pv 4))))), ?_⟩
  refine q_par2 (K := K) (PA := fun ds _ => ds = [eS (List.replicate ms.length (false, [])), .tup []]) (ea_cons (ed_call (ea_cons (ed_var rfl r2) ea_nil) fun H1 _ => ⟨ms, ties, rfl, few, rfl⟩) (ea_cons (ed_tup (ds := []) ea_nil (by decide)) ea_nil)) (fun ds H1 p => by rw [p]; rfl) fun v4 v5 d4 d5 H1 e1 p r4 r5 => ?_
  injection p with pa pb
  injection pb with pb _
  subst pa pb
  refine q_forR1 (K := K) (n := m) (ea_cons (ed_var rfl (.int m)) ea_nil) (by omega) fun H2 e2 => ?_
  refine ⟨fun i σ H' => ∃ st row u4 u5 y6 y7 y8, σ = [some (.ref h), some v2, some (.int m), some u4, some u5, y6, y7, y8] ∧ Le H H' ∧ Rp K H' u4 (eS st) ∧ Rp K H' u5 (.tup (row.map eK)) ∧ StB ms.length i st ∧ row.length = i ∧ (i : Int) ≤ m ∧ InA ms.length row ∧ ∀ rest, fb 0 (List.replicate ms.length (false, [])) (row.map eK ++ rest) = fb i st rest,
    ⟨_, [], v4, v5, none, none, none, rfl, e1.trans e2, r4.le e2, r5.le e2, StB.start _, rfl, by omega, (fun ak h => nomatch h), fun rest => rfl⟩, ?_, ?_⟩
  · rintro i σ H3 hi ⟨st, row, u4, u5, y6, y7, y8, rfl, e, ru4, ru5, sb, hrl, _, hin, hfb⟩
    have sok := sb.ok few (by omega)
    have hh3 := hh.le e
    have sl := sb.len
    refine q_asgD (K := K) (d := .lst ((asksL st).map eA)) (ed_call (ea_cons (ed_var rfl ru4) ea_nil) fun H4 _ => ⟨st, rfl, by omega, rfl⟩) fun v7 H4 e4 r7 => ?_
    have anyA : ∀ {H5 : Hp} {σ : L2.St}, Le H4 H5 → σ[0]? = some (some (.ref h)) → σ[6]? = some (some v7) → EP K (tCall (spD K R_any) [] E0 (tCons (tVar 0) (tCons (tVar 6) tNil))) σ H5 (fun d _ => ∃ a ∈ asksL st, d = eA a) := fun e5 s0 s6 => EP.weak (ep_any (K := K) (PX := fun xs => xs = (asksL st).map eA) (hh3.le (e4.trans e5)) (EA_weak (ea_cons (ed_var s0 (.obj (.ref h))) (ea_cons (ed_var s6 (r7.le e5)) ea_nil)) fun ds H6 p => ⟨_, p, rfl⟩) (fun xs hx => by
      subst hx
      refine ⟨fun e => asks_ne (st := st) (by omega) (List.map_eq_nil_iff.mp e), ?_⟩
      rw [List.length_map]
      have := asks_len (st := st)
      omega)) fun d H6 _ ⟨xs, hx, hd⟩ => by
        subst hx
        obtain ⟨a, ha, rfl⟩ := List.mem_map.mp hd
        exact ⟨a, ha, rfl⟩
    refine q_asg (K := K) (anyA (Le.refl _) rfl rfl) fun v8 d8 H5 e5 p8 r8 => ?_
    obtain ⟨a, ha, rfl⟩ := p8
    refine q_cut (M := fun σ H' => ∃ w8 a, σ = [some (.ref h), some v2, some (.int m), some u4, some u5, some (.int (i : Int)), some v7, some w8] ∧ Le H5 H' ∧ a ∈ asksL st ∧ Rp K H' w8 (eA a)) ?_ ?_
    · refine s_if (et_and (et_test (K := K) (ed_eqS (d1 := .str (if a.1 = true then ("back" : Str) else "give")) (d2 := .str "back") (ed_ixT (ds := [_, _]) (ed_var rfl r8) ed_int (by decide) rfl) ed_str rfl rfl rfl)) fun _ => et_eq0 (K := K) (EP.anyI (ep_draw (hh3.le (e4.trans e5)) (ea_cons (ed_var rfl (.obj _)) (ea_cons ed_int ea_nil)) (by omega)))) (fun _ H6 e6 => ?_) fun _ H6 e6 => ?_
      · exact s_asg (K := K) (anyA (e5.trans e6) rfl rfl) fun w8 d8 H7 e7 ⟨b, hb, ed⟩ q8 => ⟨w8, b, rfl, e6.trans e7, hb, by rw [← ed]; exact q8⟩
      · exact ⟨v8, a, rfl, e6, ha, r8.le e6⟩
    clear r8 ha a
    rintro σ H6 ⟨w8, a, rfl, e6, ha, q8⟩
    obtain ⟨j1, j2⟩ := mem_asks ha
    have e36 := (e4.trans e5).trans e6
    have ask := aK_ask ha
    rw [aK_eq] at q8
    refine q_asgD (K := K) (d := .tup ((row ++ [aK a]).map eK)) (ed_eq (ed_catA (ds := row.map eK) (es := [eK (aK a)]) (ed_var rfl (ru5.le e36)) (ed_tup (ea_cons (ed_var rfl q8) ea_nil) (by show 1 ≤ 100000; decide)) (by rw [List.length_map]; show row.length + 1 ≤ 100000; omega)) (by rw [List.map_append]; rfl)) fun v5' H7 e7 r5' => ?_
    obtain ⟨w', rm, hd, m0', m1', hw⟩ := ask_is ask
    have rmm : (dA (eK (aK a))).room = rm := by rw [hd]; exact dA_room
    have e37 := e36.trans e7
    have deed : ED K (tIf (tTest (tOp rEq (tOp (rIxT K) (tVar 7) (tC (.int 0))) (tC (.str "back")))) (tVar 7) (tOp (rCatA K) (tVar 7) (tTup (tCons (tC (.int 0)) tNil)))) [some (.ref h), some v2, some (.int m), some u4, some v5', some (.int (i : Int)), some v7, some w8] H7 (eD (dA (eK (aK a)))) := by
      rw [hd] at q8 ⊢
      refine ep_if (b := decide (w' = "back")) (eb_eq (et_test (K := K) (ed_eqS (d1 := .str w') (d2 := .str "back") (ed_ixT (ds := [_, _]) (ed_var rfl (q8.le e7)) ed_int (by decide) rfl) ed_str rfl rfl rfl)) (vs_str _ _)) (fun hb => ?_) fun hb => ?_
      · rw [decide_eq_true_iff] at hb
        subst hb
        show ED K _ _ _ (eD (if ("back" : Str) = "back" then Deed.back rm else Deed.give rm 0))
        rw [if_pos rfl]
        exact ed_var rfl (q8.le e7)
      · rw [decide_eq_false_iff_not] at hb
        have hg : w' = "give" := (hw.resolve_left fun h => hb h.1).1
        subst hg
        show ED K _ _ _ (eD (if ("give" : Str) = "back" then Deed.back rm else Deed.give rm 0))
        rw [if_neg ne_gb]
        exact ed_catA (ds := [.str "give", .int rm]) (es := [.int 0]) (ed_var rfl (q8.le e7)) (ed_tup (ea_cons ed_int ea_nil) (by show 1 ≤ 100000; decide)) (by show 3 ≤ 100000; decide)
    refine s_asgD (K := K) (EFD.ed (ef_call (R := R_done) (ea_cons (ed_var rfl (ru4.le e37)) (ea_cons deed ea_nil)) fun H8 e8 => ⟨st, dA (eK (aK a)), rfl, sok, by rw [rmm]; exact m0', by rw [rmm]; exact m1', rfl⟩)) fun v4' H8 e8 r4' => ?_
    refine ⟨doneL st (dA (eK (aK a))), row ++ [aK a], v4', v5', some (.int (i : Int)), some v7, some w8, rfl, (e.trans e37).trans e8, r4', r5'.le e8, sb.done (by rw [rmm]; exact m0') (by rw [rmm, ← sl]; exact m1'), by rw [List.length_append, hrl]; rfl, by omega, fun x hx => ?_, fun rest => ?_⟩
    · rcases List.mem_append.mp hx with hx | hx
      · exact hin x hx
      · rw [List.mem_singleton.mp hx, aK_room]
        omega
    · rw [List.map_append, List.append_assoc, hfb]
      show fb i st (eK (aK a) :: rest) = _
      rw [show fb i st (eK (aK a) :: rest) = if askD st (eK (aK a)) = true then fb (i + 1) (doneL st (dA (eK (aK a)))) rest else .int (i : Int) from rfl, if_pos ask]
  · rintro σ H' ⟨st, row, u4, u5, y6, y7, y8, rfl, e, ru4, ru5, sb, hrl, _, hin, hfb⟩
    refine s_retD (K := K) (ed_var rfl ru5) fun v' H5 e5 r' => q v' _ H5 (e.trans e5) ⟨row, rfl, hrl, hin, ?_⟩ r'
    have := hfb []
    rw [List.append_nil] at this
    exact this
end
end W1

set_option maxRecDepth 100000
set_option maxHeartbeats 4000000
/-! rows with something otherwise -/
namespace W1
open PySem PyProof.Rows L2
local macro_rules | `(tactic| walk_at "rp") => `(tactic| first | assumption | exact Rp.int _ | exact Rp.bl _ | exact Rp.str _ | exact Rp.non | exact Rp.obj _ | (refine Rp.le (by assumption) ?_; walk_at "rp"))
local macro_rules | `(tactic| walk_at "ed") => `(tactic| first
  | exact ed_int | exact ed_str | exact ed_bl | exact ed_non
  | (refine ed_var rfl ?_; walk_at "rp")
  | (refine ed_ixT (ds := [_, _]) ?_ ed_int (by decide) rfl; walk_at "ed")
  | (refine ed_I0 ?_ ?_ <;> walk_at "ed")
  | (refine ed_B0 ?_ ?_ <;> walk_at "ed")
  | (refine ed_eqS ?_ ?_ rfl rfl rfl <;> walk_at "ed")
  | assumption)
local macro_rules | `(tactic| walk_at "ea") => `(tactic| first | exact ea_nil | (refine ea_cons ?_ ?_; walk_at "ed"; walk_at "ea"))

abbrev s__law_bent_row : Stmt := topS 63
abbrev N__law_bent_row : List Str := ["_law_hand_here", "_law_parts_here", "_law_row_here", "_law_at", "_law_room", "_law_asks_here", "_law_ask", "_law_some"]
theorem sc__law_bent_row : FnScope N__law_bent_row ["_law_hand_here", "_law_parts_here", "_law_row_here"] (defScope s__law_bent_row) := ⟨rfl, rfl, rfl, by decide +kernel, rfl, by decide +kernel, by decide +kernel⟩
section
variable {P : Program} {w : World} {K : PySem.W.Frag} {mg : Str → Option Value} {base : Heap}
def R_nestedT : List D → Hp → Pd → Prop := fun ds H P => ∃ h : Addr, ds = [.obj (.ref h)] ∧ Hand H h ∧ P = fun d H2 => ∃ x, d = .tup [x] ∧ Th H2 x
theorem ok_nestedT (T : STxt mg) (g : GDef K mg "_law_nested" s__law_nested ["_law_hand_here"]) (G_law_any : Def P w K mg base 2 "_law_any" ["_law_hand_here", "_law_items"] (spD K R_any)) : Def P w K mg base 3 "_law_nested" ["_law_hand_here"] (spD K R_nestedT) := by
  refine defD g sc__law_nested (fun ds H Pd h => ?_) fun cdv A outer s f H vs ds Pd Q E hr r h q => ?_
  · obtain ⟨h, rfl, _⟩ := h
    rfl
  obtain ⟨h, rfl, hh, rfl⟩ := h
  obtain ⟨v1, rfl, r1⟩ := rps1 r
  have ev := rp_obj r1
  subst ev
  refine ⟨_, (pss_cons (ps_set (i := 1) sc__law_nested.nd rfl (Or.inl rfl) (pe_def G_law_any (hr.mono (by decide)) (pa_cons (pv 0) (pa_cons (pe_lst (pa_cons (pe_tup pa_nil) (pa_cons pe_int (pa_cons pe_str (pa_cons pe_non pa_nil))))) pa_nil))))
    (pss_cons (ps_for PassesOwn.never rfl (pi_range1 (by rfl) T.n_range (pa_cons pe_int pa_nil)) (pg_name (i := 2) sc__law_nested.nd rfl (Or.inl rfl))
      (pss_one (ps_set (i := 1) sc__law_nested.nd rfl (Or.inl rfl) (pe_ifExp (pt_cmpR op_eq (pe_op op_mod (pe_callTy call_int1 (by rfl) T.n_int boot_int (pa_cons (pv 2) pa_nil)) pe_int) pe_int (nomark _)) (pe_lst (pa_cons (pv 1) pa_nil)) (pe_tup (pa_cons (pv 1) pa_nil))))))
    (pss_one (ps_ret (pv 1))))), ?_⟩
  refine q_asg (K := K) (ep_any (K := K) (PX := fun xs => xs = [.tup [], .int 0, .str "a", .non]) hh (EA_weak (ea_cons (ed_var rfl (.obj (.ref h))) (ea_cons (ed_lst (ea_cons (ed_tup ea_nil (by decide)) (ea_cons ed_int (ea_cons ed_str (ea_cons ed_non ea_nil)))) (by show 4 ≤ 100000; decide) rfl) ea_nil)) fun ds H2 p => ⟨_, p, rfl⟩) fun xs hx => by rw [hx]; exact ⟨(fun h => nomatch h), by show 4 ≤ 100000; decide⟩) fun v d H1 e1 p r2 => ?_
  have hd : ∀ H', Th H' d := by
    obtain ⟨xs, rfl, hm⟩ := p
    simp only [List.mem_cons, List.not_mem_nil, or_false] at hm
    intro H'
    rcases hm with rfl | rfl | rfl | rfl
    · exact .tup (Nat.zero_le _) fun x hx => nomatch hx
    · exact .sc rfl
    · exact .sc rfl
    · exact .sc rfl
  refine q_forR1 (K := K) (n := 36) (ea_cons ed_int ea_nil) (by omega) fun H2 e2 => ?_
  refine ⟨fun i σ H' => ∃ v y d, σ = [some (.ref h), some v, y] ∧ Le H H' ∧ Rp K H' v d ∧ Th H' d ∧ (i = 36 → ∃ x, d = .tup [x]), ⟨v, none, d, rfl, e1.trans e2, r2.le e2, hd _, fun h => nomatch h⟩, ?_, ?_⟩
  · rintro i σ' H3 hi ⟨v, y, d, rfl, e, r2, hd, hs⟩
    refine s_asg (K := K) (P := fun d' H4 => Th H4 d' ∧ (i + 1 = 36 → ∃ x, d' = .tup [x])) (ep_if (et_test (K := K) (ed_eqS (d2 := .int 4) (ed_I (f := fun i j => i % j) (ed_int1 (ed_var rfl (.int (i : Int)))) ed_int (by show (0 : Int) < 5; decide)) ed_int rfl rfl rfl)) (fun hb => ?_) fun _ => ?_) fun v' d' H4 e4 p r => ⟨v', _, d', rfl, e.trans e4, r, p⟩
    · refine EP.weak (ep_lstO (P := fun ds _ => ds = [d]) (ea_cons (ed_var rfl r2) ea_nil) (fun ds H4 p => by rw [p]; show 1 ≤ 100000; decide)) fun d' H4 _ p => ?_
      obtain ⟨u, rfl, ho⟩ := p
      refine ⟨.ob ho, fun h36 => ?_⟩
      have e35 : i = 35 := by omega
      subst e35
      exact absurd hb (by rw [vs_int]; decide)
    · refine EP.weak (ed_tup (ea_cons (ed_var rfl r2) ea_nil) (by show 1 ≤ 100000; decide)) fun d' H4 e4 p => ?_
      have p' : d' = .tup [d] := p
      subst p'
      exact ⟨.tup (by show 1 ≤ 50000; decide) fun x hx => by rw [List.mem_singleton.mp hx]; exact hd.le e4, fun _ => ⟨d, rfl⟩⟩
  · rintro σ' H3 ⟨v, y, d, rfl, e, r2, hd, hs⟩
    obtain ⟨x, rfl⟩ := hs rfl
    exact s_retD (K := K) (ed_var rfl r2) fun v' H4 e4 r => q v' _ H4 (e.trans e4) ⟨x, rfl, (hd.le e4).items.2 x (List.mem_singleton.mpr rfl)⟩ r
end
abbrev RwP : Pd := fun d H => Rw H d
theorem rw_mono : Mono RwP := fun d H H' e h => h.le e
abbrev ThP : Pd := fun d H => Th H d
theorem th_mono : Mono ThP := fun d H H' e h => h.le e
section
variable {K : PySem.W.Frag} {σ : L2.St} {H : Hp} {ta tb : TE} {d : D}
theorem ep_th (h : ED K ta σ H d) (t : ∀ H, Th H d) : EP K ta σ H ThP := h.weak fun d' H2 e p => by
  obtain rfl : d' = d := p
  exact t H2
theorem ep_rw (h : ED K ta σ H d) (t : ∀ H1, Le H H1 → Rw H1 d) : EP K ta σ H RwP := h.weak fun d' H2 e p => by
  obtain rfl : d' = d := p
  exact t H2 e
theorem ep_obT (h : EP K ta σ H fun d H => ∃ v, d = .obj v ∧ Ob H v) : EP K ta σ H ThP := h.weak fun d' H2 e p => by
  obtain ⟨v, rfl, h⟩ := p
  exact .ob h
theorem th_scs {ds : List D} (h : ∀ d ∈ ds, sca d = true) (hl : ds.length ≤ 50000) : ∀ H, Th H (.tup ds) := fun H => .tup hl fun d hd => .sc (h d hd)
theorem allL_mono {Pc : Pd} {n : Nat} (M : Mono Pc) : Mono (AllL Pc n) := fun d H H' e ⟨xs, h1, h2⟩ => ⟨xs, h1, h2.mono M e⟩
theorem th_eK (ak : Ask) : ∀ H, Th H (eK ak) := fun H => by
  cases ak <;> exact .tup (by show 2 ≤ 50000; decide) fun d hd => by
    simp only [List.mem_cons, List.not_mem_nil, or_false] at hd
    rcases hd with rfl | rfl
    · exact .sc rfl
    · exact .sc rfl
theorem ed_lst1 {i : Nat} {v : V} (r : Rp K H v d) (hs : σ[i]? = some (some v)) : ED K (tLst (tCons (tVar i) tNil)) σ H (.lst [d]) := ed_lstN (ds := [d]) (ea_cons (ed_var hs r) ea_nil) (by show 1 ≤ 100000; decide) (by show 1 ≠ 5; decide)
theorem ep_rowAdd {row : List Ask} {d : D} (h1 : ED K ta σ H (.lst (row.map eK))) (h2 : ED K tb σ H (.lst [d])) (hl : row.length ≤ 1000) : ED K (tOp rCat ta tb) σ H (.lst (row.map eK ++ [d])) := ed_op h1 h2 fun x y H2 _ r1 r2 Q q => by
  obtain ⟨a, xs, rfl, s, nh, rr⟩ := rp_lst r1
  obtain ⟨b, ys, rfl, s2, nh2, rr2⟩ := rp_lst r2
  have lx : xs.length = row.length := by rw [rr.len, List.length_map]
  have ly : ys.length = 1 := rr2.len
  refine ⟨a, b, xs, ys, rfl, rfl, s, s2, Evl.sz_of (by omega), fun p np => ?_⟩
  have rf := (rr.app rr2).le (Le.new (o := .lst (xs ++ ys)) np)
  refine q _ _ _ (Le.new np) rfl (.lst upd_same ?_ rf)
  by_cases h4 : row.length = 4
  · obtain ⟨a0, a1, a2, a3, rfl⟩ : ∃ a0 a1 a2 a3, row = [a0, a1, a2, a3] := by
      match row, h4 with
      | [a0, a1, a2, a3], _ => exact ⟨a0, a1, a2, a3, rfl⟩
    intro c p2 x2 s3 n2 e
    rw [e] at rf
    cases rf with
    | cons _ rf =>
      cases rf with
      | cons r1 _ =>
        cases a1 <;> cases r1
  · exact notH_len (by rw [List.length_append]; omega)
end
section
variable {P : Program} {w : World} {K : PySem.W.Frag} {mg : Str → Option Value} {base : Heap}
def R_lbr : List D → Hp → Pd → Prop := fun ds H P => ∃ (h : Addr) (ms : List Int) (ties : List (Int × Int)) (row : List Ask), ds = [.obj (.ref h), eW ms ties, .tup (row.map eK)] ∧ Hand H h ∧ 1 ≤ ms.length ∧ ms.length ≤ 60 ∧ row.length ≤ 200 ∧ P = RwP
theorem ok_lbr (T : HTxt mg) (g : GDef K mg "_law_bent_row" s__law_bent_row ["_law_hand_here", "_law_parts_here", "_law_row_here"]) (G_law_draw : Def P w K mg base 1 "_law_draw" ["_law_hand_here", "_law_many"] (spD K R_draw)) (G_law_any : Def P w K mg base 2 "_law_any" ["_law_hand_here", "_law_items"] (spD K R_any))
    (G_law_nested : Def P w K mg base 3 "_law_nested" ["_law_hand_here"] (spD K R_nestedT)) : Def P w K mg base 4 "_law_bent_row" ["_law_hand_here", "_law_parts_here", "_law_row_here"] (spD K R_lbr) := by
  refine defD g sc__law_bent_row (fun ds H Pd h => ?_) fun cdv A outer s f H vs ds Pd Q E hr r h q => ?_
  · obtain ⟨h, ms, ties, row, rfl, _⟩ := h
    rfl
  obtain ⟨h, ms, ties, row, rfl, hh, s1, few, hrl, rfl⟩ := h
  obtain ⟨v1, v2, v3, rfl, r1, r2, r3⟩ := rps3 r
  have ev1 := rp_obj r1
  subst ev1
  refine ⟨_, (pss_cons (ps_par (i := 3) (j := 4) (by rfl) sc__law_bent_row.nd rfl rfl (by decide) rfl rfl (pa_cons (pe_def G_law_draw (hr.mono (by decide)) (pa_cons (pv 0) (pa_cons (pe_op op_add (pe_callB (kc_len (K := K)) (by rfl) T.n_len boot_len (pa_cons (pv 2) pa_nil)) pe_int) pa_nil))) (pa_cons (pe_def G_law_draw (hr.mono (by decide)) (pa_cons (pv 0) (pa_cons (pe_callB (kc_len (K := K)) (by rfl) T.n_len boot_len (pa_cons (pe_ix (kix_tup (K := K)) (pv 1) pe_int (fun _ _ => rfl)) pa_nil)) pa_nil))) pa_nil)) (by rfl))
    (pss_cons (ps_set (i := 5) sc__law_bent_row.nd rfl (Or.inl rfl) (pe_lst (pa_cons (pe_tup (pa_cons pe_str (pa_cons (pv 4) pa_nil))) (pa_cons (pe_tup (pa_cons pe_str (pa_cons (pv 4) pa_nil))) (pa_cons (pe_tup (pa_cons pe_str (pa_cons (pe_callB (kc_len (K := K)) (by rfl) T.n_len boot_len (pa_cons (pe_ix (kix_tup (K := K)) (pv 1) pe_int (fun _ _ => rfl)) pa_nil)) pa_nil))) (pa_cons (pe_tup (pa_cons pe_str (pa_cons pe_bl pa_nil))) (pa_cons (pe_tup (pa_cons pe_str (pa_cons (pv 4) pa_nil))) (pa_cons (pe_tup (pa_cons pe_str pa_nil)) pa_nil))))))))
    (pss_cons (ps_set (i := 6) sc__law_bent_row.nd rfl (Or.inl rfl) (pe_def G_law_any (hr.mono (by decide)) (pa_cons (pv 0) (pa_cons (pv 5) pa_nil))))
    (pss_cons (ps_set (i := 6) sc__law_bent_row.nd rfl (Or.inl rfl) (pe_def G_law_any (hr.mono (by decide)) (pa_cons (pv 0) (pa_cons (pe_lst (pa_cons (pv 6) (pa_cons (pv 6) (pa_cons (pv 6) (pa_cons (pe_tup (pa_cons pe_str (pa_cons (pv 4) (pa_cons pe_int pa_nil)))) (pa_cons (pe_lst (pa_cons pe_str (pa_cons (pv 4) pa_nil))) (pa_cons pe_non (pa_cons pe_int (pa_cons pe_str (pa_cons (pe_tup pa_nil) (pa_cons (pe_tup (pa_cons pe_str (pa_cons (pe_un un_neg pe_int) pa_nil))) (pa_cons (pe_tup (pa_cons pe_int (pa_cons pe_int pa_nil))) pa_nil)))))))))))) pa_nil))))
    (pss_cons (ps_set (i := 7) sc__law_bent_row.nd rfl (Or.inl rfl) (pe_lst (pa_cons (pe_op (kop_catA (K := K)) (pe_op (kop_catA (K := K)) (pe_slice (ksl_tup (K := K)) (pv 2) po_none (po_some (pv 3))) (pe_tup (pa_cons (pv 6) pa_nil))) (pe_slice (ksl_tup (K := K)) (pv 2) (po_some (pv 3)) po_none)) (pa_cons (pe_op (kop_catA (K := K)) (pe_op (kop_catA (K := K)) (pe_slice (ksl_tup (K := K)) (pv 2) po_none (po_some (pv 3))) (pe_tup (pa_cons (pv 6) pa_nil))) (pe_slice (ksl_tup (K := K)) (pv 2) (po_some (pe_op op_add (pv 3) pe_int)) po_none)) (pa_cons (pe_op (kop_catA (K := K)) (pe_slice (ksl_tup (K := K)) (pv 2) po_none (po_some (pv 3))) (pe_slice (ksl_tup (K := K)) (pv 2) (po_some (pe_op op_add (pv 3) pe_int)) po_none)) (pa_cons (pe_op (kop_catA (K := K)) (pv 2) (pv 2)) pa_nil))))))
    (pss_one (ps_ret (pe_def G_law_any (hr.mono (by decide)) (pa_cons (pv 0) (pa_cons (pe_op op_cat (pv 7) (pe_lst (pa_cons (kpe_revT (K := K) (pv 2)) (pa_cons pe_non (pa_cons pe_int (pa_cons pe_dnewK (pa_cons (pv 2) (pa_cons (pe_def G_law_nested (hr.mono (by decide)) (pa_cons (pv 0) pa_nil)) (pa_cons (pe_op op_cat (pe_callTy (kc_list (K := K)) (by rfl) T.n_list boot_list (pa_cons (pe_slice (ksl_tup (K := K)) (pv 2) po_none (po_some (pv 3))) pa_nil)) (pe_lst (pa_cons (pv 6) pa_nil))) (pa_cons (pe_tup (pa_cons (pv 2) pa_nil)) pa_nil)))))))))) pa_nil)))))))))), ?_⟩
  have two : ∀ {H2 : Hp} {σ : L2.St} {ta tb : TE} {d1 d2 : D}, ED K ta σ H2 d1 → ED K tb σ H2 d2 → sca d1 = true → sca d2 = true → EP K (tTup (tCons ta (tCons tb tNil))) σ H2 ThP := fun {H2 σ ta tb d1 d2} a b h1 h2 => ep_th (ed_tup (ds := [d1, d2]) (ea_cons a (ea_cons b ea_nil)) (by show 2 ≤ 100000; decide)) (th_scs (fun d hd => by
    simp only [List.mem_cons, List.not_mem_nil, or_false] at hd
    rcases hd with rfl | rfl
    · exact h1
    · exact h2) (by show 2 ≤ 50000; decide))
  have scT : ∀ {H2 : Hp} {σ : L2.St} {ta : TE} {d : D}, ED K ta σ H2 d → sca d = true → EP K ta σ H2 ThP := fun h s => ep_th h fun H => .sc s
  have rlen : ∀ {H2 : Hp} {σ : L2.St}, Le H H2 → σ[2]? = some (some v3) → ED K (tCB (fun xs H Q => ∃ p ys, xs = [.ref p] ∧ (SqL K H p ys ∨ SqT K H p ys) ∧ Q (.int ys.length) H) (tCons (tVar 2) tNil)) σ H2 (.int (row.length : Int)) := fun e s => ed_eq (ed_lenT (ed_var s (r3.le e))) (by rw [List.length_map])
  have mlen : ∀ {H2 : Hp} {σ : L2.St}, Le H H2 → σ[1]? = some (some v2) → ED K (tCB (fun xs H Q => ∃ p ys, xs = [.ref p] ∧ (SqL K H p ys ∨ SqT K H p ys) ∧ Q (.int ys.length) H) (tCons (tOp (rIxT K) (tVar 1) (tC (.int 0))) tNil)) σ H2 (.int (ms.length : Int)) := fun e s => ed_eq (ed_lenT (ed_ixT (ds := [.tup (ms.map .int), .tup (ties.map eP)]) (ed_var s (r2.le e)) ed_int (by decide) rfl)) (by rw [List.length_map])
  refine q_par2 (K := K) (PA := fun ds _ => ∃ a r : Int, ds = [.int a, .int r] ∧ 0 ≤ a) (EA_weak (ep_cons (ep_draw hh (ea_cons (ed_var rfl (.obj _)) (ea_cons (ed_I0 (f := fun i j => i + j) (rlen (Le.refl _) rfl) ed_int) ea_nil)) (by omega)) (ep_cons (ep_draw hh (ea_cons (ed_var rfl (.obj _)) (ea_cons (mlen (Le.refl _) rfl) ea_nil)) (by omega)) ea_nil)) ?_) ?_ fun v4 v5 d4 d5 H1 e1 p r4 r5 => ?_
  · rintro ds H2 ⟨d1, t1, _, rfl, _, ⟨a, rfl, a0, _⟩, d2, t2, _, rfl, _, ⟨t, rfl, _⟩, rfl⟩
    exact ⟨a, t, rfl, a0⟩
  · rintro ds H2 ⟨a, t, rfl, _⟩
    rfl
  obtain ⟨a, rm, ee, a0⟩ := p
  injection ee with ea ee
  injection ee with eb _
  subst ea eb
  have ev4 := rp_int r4
  have ev5 := rp_int r5
  subst ev4 ev5
  have iR : ∀ {σ : L2.St} {H' : Hp}, σ[4]? = some (some (.int rm)) → ED K (tVar 4) σ H' (.int rm) := fun s => ed_var s (.int _)
  refine q_asg (K := K) (P := AllL ThP 6) (ep_allL th_mono (ea_allC th_mono (two ed_str (iR rfl) rfl rfl) (ea_allC th_mono (two ed_str (iR rfl) rfl rfl) (ea_allC th_mono (two ed_str (mlen e1 rfl) rfl rfl) (ea_allC th_mono (two ed_str ed_bl rfl rfl) (ea_allC th_mono (two ed_str (iR rfl) rfl rfl)
    (ea_allC th_mono (ep_th (ed_tup (ds := [.str "back"]) (ea_cons ed_str ea_nil) (by show 1 ≤ 100000; decide)) (th_scs (fun d hd => by rw [List.mem_singleton.mp hd]; rfl) (by show 1 ≤ 50000; decide))) ea_all0)))))) (by decide) (by decide)) fun v6 d6 H2 e2 p6 r6 => ?_
  have e12 := e1.trans e2
  refine q_asg (K := K) (P := ThP) (ep_anyH (n := 6) th_mono (hh.le e12) (ed_var rfl (.obj _)) (ep_var (allL_mono th_mono) rfl r6 p6) (by decide) (by decide)) fun v7 d7 H3 e3 p7 r7 => ?_
  have e13 := e12.trans e3
  refine q_asg (K := K) (P := ThP) (ep_anyH (n := 11) th_mono (hh.le e13) (ed_var rfl (.obj _)) (ep_allL th_mono (ea_allC th_mono (ep_var th_mono rfl r7 p7) (ea_allC th_mono (ep_var th_mono rfl r7 p7) (ea_allC th_mono (ep_var th_mono rfl r7 p7)
    (ea_allC th_mono (ep_th (ed_tup (ds := [.str "give", .int rm, .int 0]) (ea_cons ed_str (ea_cons (iR rfl) (ea_cons ed_int ea_nil))) (by show 3 ≤ 100000; decide)) (th_scs (fun d hd => by simp only [List.mem_cons, List.not_mem_nil, or_false] at hd; rcases hd with rfl | rfl | rfl <;> rfl) (by show 3 ≤ 50000; decide)))
    (ea_allC th_mono (ep_obT (ep_lstO (P := fun ds _ => ds.length = 2) (EA_weak (ea_cons ed_str (ea_cons (iR rfl) ea_nil)) fun ds H p => by rw [show ds = [.str "give", .int rm] from p]; rfl) (fun ds H p => by rw [p]; decide))) (ea_allC th_mono (scT ed_non rfl) (ea_allC th_mono (scT ed_int rfl) (ea_allC th_mono (scT ed_str rfl)
    (ea_allC th_mono (ep_th (ed_tup (ds := []) ea_nil (by decide)) (th_scs (fun d hd => nomatch hd) (by decide))) (ea_allC th_mono (two ed_str (ed_neg ed_int) rfl rfl) (ea_allC th_mono (two ed_int ed_int rfl rfl) ea_all0))))))))))) (by decide) (by decide)) (by decide) (by decide)) fun v8 d8 H4 e4 p8 r8 => ?_
  have e14 := e13.trans e4
  have ev : ∀ {H5 : Hp} {σ : L2.St}, Le H4 H5 → σ[2]? = some (some v3) → ED K (tVar 2) σ H5 (.tup (row.map eK)) := fun e s => ed_var s (r3.le (e14.trans e))
  have iA : ∀ {σ : L2.St} {H' : Hp}, σ[3]? = some (some (.int a)) → ED K (tVar 3) σ H' (.int a) := fun s => ed_var s (.int _)
  have hd1 : ∀ {H5 : Hp} {σ : L2.St}, Le H4 H5 → σ[2]? = some (some v3) → σ[3]? = some (some (.int a)) → ED K (tSl (rSlA K) (tVar 2) tNoPart (tPart (tVar 3))) σ H5 (.tup ((row.take a.toNat).map eK)) := fun e s2 s3 => ed_eq (ed_slT (lo := none) (hi := some a) (ev e s2) eo_none (eo_some (iA s3))) (by rw [cutG_hi _ _ a0, List.map_take])
  have tl1 : ∀ {H5 : Hp} {σ : L2.St}, Le H4 H5 → σ[2]? = some (some v3) → σ[3]? = some (some (.int a)) → ED K (tSl (rSlA K) (tVar 2) (tPart (tVar 3)) tNoPart) σ H5 (.tup ((row.drop a.toNat).map eK)) := fun e s2 s3 => ed_eq (ed_slT (lo := some a) (hi := none) (ev e s2) (eo_some (iA s3)) eo_none) (by rw [cutG_lo _ _ a0, List.map_drop])
  have tl2 : ∀ {H5 : Hp} {σ : L2.St}, Le H4 H5 → σ[2]? = some (some v3) → σ[3]? = some (some (.int a)) → ED K (tSl (rSlA K) (tVar 2) (tPart (tOp (rI0 fun i j => .int (i + j)) (tVar 3) (tC (.int 1)))) tNoPart) σ H5 (.tup ((row.drop (a + 1).toNat).map eK)) := fun e s2 s3 => ed_eq (ed_slT (lo := some (a + 1)) (hi := none) (ev e s2) (eo_some (ed_I0 (f := fun i j => i + j) (iA s3) ed_int)) eo_none) (by rw [cutG_lo _ _ (by omega), List.map_drop])
  have q8 : ∀ {H5 : Hp} {σ : L2.St}, Le H4 H5 → σ[6]? = some (some v8) → ED K (tTup (tCons (tVar 6) tNil)) σ H5 (.tup [d8]) := fun e s => ed_tup (ds := [d8]) (ea_cons (ed_var s (r8.le e)) ea_nil) (by show 1 ≤ 100000; decide)
  have l1 : (row.take a.toNat).length ≤ 200 := Nat.le_trans (List.length_take_le' _ _) hrl
  have l2 : (row.drop a.toNat).length ≤ 200 := by rw [List.length_drop]; omega
  have l3 : (row.drop (a + 1).toNat).length ≤ 200 := by rw [List.length_drop]; omega
  have mK : ∀ {xs : List Ask} {H5 : Hp}, ∀ x ∈ xs.map eK, Th H5 x := fun {xs H5} x hx => by
    obtain ⟨ak, _, rfl⟩ := List.mem_map.mp hx
    exact th_eK ak H5
  have rw1 : ∀ {xs : List Ask}, xs.length ≤ 1000 → ∀ H5, Rw H5 (.tup (xs.map eK)) := fun hx H5 => .tup (by rw [List.length_map]; omega) mK
  have rw2 : ∀ {xs ys : List Ask} {H5 : Hp}, xs.length ≤ 200 → ys.length ≤ 200 → Le H4 H5 → Rw H5 (.tup ((xs.map eK ++ [d8]) ++ ys.map eK)) := fun {xs ys H5} h1 h2 e => .tup (by rw [List.length_append, List.length_append, List.length_map, List.length_map]; show _ + 1 + _ ≤ 5000; omega) fun x hx => by
    rcases List.mem_append.mp hx with hx | hx
    · rcases List.mem_append.mp hx with hx | hx
      · exact mK x hx
      · rw [List.mem_singleton.mp hx]
        exact p8.le e
    · exact mK x hx
  have c2 : ∀ {H5 : Hp} {σ : L2.St}, Le H4 H5 → σ[2]? = some (some v3) → σ[3]? = some (some (.int a)) → σ[6]? = some (some v8) → ED K (tOp (rCatA K) (tSl (rSlA K) (tVar 2) tNoPart (tPart (tVar 3))) (tTup (tCons (tVar 6) tNil))) σ H5 (.tup ((row.take a.toNat).map eK ++ [d8])) := fun e s2 s3 s6 => ed_catA (ds := (row.take a.toNat).map eK) (es := [d8]) (hd1 e s2 s3) (q8 e s6) (by rw [List.length_map]; show _ + 1 ≤ 100000; omega)
  refine q_asg (K := K) (P := AllL RwP 4) (ep_allL rw_mono (ea_allC rw_mono (ep_rw (ed_catA (ds := (row.take a.toNat).map eK ++ [d8]) (es := (row.drop a.toNat).map eK) (c2 (Le.refl _) rfl rfl rfl) (tl1 (Le.refl _) rfl rfl) (by rw [List.length_append, List.length_map, List.length_map]; show _ + 1 + _ ≤ 100000; omega)) fun H5 e => rw2 l1 l2 e)
    (ea_allC rw_mono (ep_rw (ed_catA (ds := (row.take a.toNat).map eK ++ [d8]) (es := (row.drop (a + 1).toNat).map eK) (c2 (Le.refl _) rfl rfl rfl) (tl2 (Le.refl _) rfl rfl) (by rw [List.length_append, List.length_map, List.length_map]; show _ + 1 + _ ≤ 100000; omega)) fun H5 e => rw2 l1 l3 e)
    (ea_allC rw_mono (ep_rw (ed_eq (ed_catA (ds := (row.take a.toNat).map eK) (es := (row.drop (a + 1).toNat).map eK) (hd1 (Le.refl _) rfl rfl) (tl2 (Le.refl _) rfl rfl) (by rw [List.length_map, List.length_map]; omega)) (by rw [← List.map_append])) fun H5 e => rw1 (by rw [List.length_append]; omega) H5)
    (ea_allC rw_mono (ep_rw (ed_eq (ed_catA (ds := row.map eK) (es := row.map eK) (ev (Le.refl _) rfl) (ev (Le.refl _) rfl) (by rw [List.length_map]; omega)) (by rw [← List.map_append])) fun H5 e => rw1 (by rw [List.length_append]; omega) H5) ea_all0)))) (by decide) (by decide)) fun v9 d9 H5 e5 p9 r9 => ?_
  have e15 := e14.trans e5
  refine s_ret (K := K) (P := RwP) (ep_anyH (n := 12) rw_mono (hh.le e15) (ed_var rfl (.obj _)) (ep_allCat (n := 4) (m := 8) rw_mono (ep_var (allL_mono rw_mono) rfl r9 p9) (ep_allL rw_mono (ea_allC rw_mono (ep_rw (ed_eq (ed_revT (ev e5 rfl)) (by rw [← List.map_reverse])) fun H6 e => rw1 (by rw [List.length_reverse]; omega) H6) (ea_allC rw_mono (ep_rw ed_non fun H6 e => .sc rfl) (ea_allC rw_mono (ep_rw ed_int fun H6 e => .sc rfl)
    (ea_allC rw_mono (fun H6 e Q q d nd => q _ (.obj (.ref d)) _ (Le.new nd) (.dict upd_same) (.obj _)) (ea_allC rw_mono (ep_rw (ev e5 rfl) fun H6 e => rw1 (by omega) H6)
    (ea_allC rw_mono (EP.weak (ed_call (P := fun d H2 => ∃ x, d = .tup [x] ∧ Th H2 x) (ea_cons (ed_var rfl (.obj (.ref h))) ea_nil) fun H6 e6 => ⟨h, rfl, hh.le (e15.trans e6), rfl⟩) fun d H6 _ ⟨x, ex, hx⟩ => by
      subst ex
      exact .tup (by show 1 ≤ 5000; decide) fun y hy => by
        rw [List.mem_singleton.mp hy]
        exact hx)
    (ea_allC rw_mono (ep_rw (ep_rowAdd (row := row.take a.toNat) (d := d8) (ed_lstOfT (hd1 e5 rfl rfl) (.inr fun d hd => ?_)) (ed_lst1 (r8.le e5) rfl) (by omega)) fun H6 e => .lst (by rw [List.length_append, List.length_map]; show _ + 1 ≤ 5000; omega) fun x hx => ?_)
    (ea_allC rw_mono (ep_rw (ed_tup (ds := [.tup (row.map eK)]) (ea_cons (ev e5 rfl) ea_nil) (by show 1 ≤ 100000; decide)) fun H6 e => .tup (by show 1 ≤ 5000; decide) fun y hy => by
      rw [List.mem_singleton.mp hy]
      exact .tup (by rw [List.length_map]; omega) mK) ea_all0)))))))) (by decide) (by decide)) (by decide) (by decide)) (by decide) (by decide)) fun v d H6 e6 p r => q v d H6 (e15.trans e6) p r
  · obtain ⟨ak, _, rfl⟩ := List.mem_map.mp hd
    cases ak <;> exact ⟨fun i e => (by cases e), fun v e => (by cases e)⟩
  · rcases List.mem_append.mp hx with hx | hx
    · exact mK x hx
    · rw [List.mem_singleton.mp hx]
      exact p8.le (e5.trans e)
end
end W1

set_option maxRecDepth 100000
set_option maxHeartbeats 4000000
/-! a try whose first handler catches, whatever handlers stand behind it -/
namespace L2
open PySem PySem.Spec PyProof.Rows
/-- what the first handler, of the class c, must take -/
def wFirst (K : PySem.W.Frag) (c : Value) (i : Nat) (ts : Addr → Value → Option Addr → TS) (D : Ends) : WX := fun cls d σ H => PySem.W.exmOne K cls c = some true ∧
  ∀ a, H a = none → ts a cls d { D with nx := fun σ2 H2 => D.nx (σ2.set i none) H2, bk := fun σ2 H2 => D.bk (σ2.set i none) H2, ct := fun σ2 H2 => D.ct (σ2.set i none) H2 } (σ.set i (some (.ref a))) H
section
variable {X : Cx} {x n : Str} {c : Value} {i : Nat} {body suite : List Stmt} {s0 : Stmt} {more : List ExceptHandler} {np pos pos' : Pos} {tb : WX → TS} {ts : Addr → Value → Option Addr → TS}
theorem ps_try_first (hst : X.stack = X.env :: X.outer) (hfr0 : X.env.frame = some X.env.locals) (hnd : X.N.Nodup) (hat : X.N[i]? = some n) (hkd : X.env.kindOf n = some .local) (hnm : Names X x c)
    (inner : ∀ (W : WX) (pn : List (Addr × Obj)) (xe : Value → Shared → Prop), Takes (X.tr pn xe) W → PassesOwn (model X.prog X.w) X.A X.env xe → PSs (X.tr pn xe) body (tb W))
    (held : ∀ (a : Addr) (oe : Obj) (cls : Value) (d : Option Addr) (pn : List (Addr × Obj)), Zc cls d oe → (∃ vs, oe.data = .fields vs) → PSs (X.suite a ((a, oe) :: pn)) (s0 :: suite) (ts a cls d)) :
    PS X (.Try body (.ExceptHandler (some (.Name x np)) (some n) (s0 :: suite) pos' :: more) [] [] pos) (fun D σ H => tb (wFirst X.K c i ts D) D σ H) := by
  refine ⟨fun pins s σ H D I0 ask => ?_⟩
  have fine := I0.ok
  have frs0 : X.A.frames = some (X.env :: X.outer) := fine.frames.trans (congrArg some hst)
  refine wpAny_Try_except ?_
  refine wpAny_mono ((inner (wFirst X.K c i ts D) (X.pn ++ pins) (fun e t1 => wpAny (model X.prog X.w) X.A (noteFrame e X.env) (fun _ t2 => wpAny (model X.prog X.w) X.A (setFlight e none) (fun _ t3 =>
      wpAny (model X.prog X.w) X.A (handleBy e X.env (.ExceptHandler (some (.Name x np)) (some n) (s0 :: suite) pos' :: more)) (SP X pins D) X.xe t3) X.xe t2) X.xe t1) (fun u t air => ?_) PassesOwn.looking).run [] s σ H D (I0.toTry _) ask) (fun fl t1 got => ?_) (fun _ _ z => z)
  · obtain ⟨a, G, si, ps2, σ2, H2, cls, d, rfl, Ja, nb, up, sky, na, os, ag, hyes, go⟩ := air
    have J : Inv X pins σ2 H2 si := Ja.ofTry fine
    rw [hst] at sky
    show wpAny (model X.prog X.w) X.A (noteFrame (.ref a) X.env) _ _ _
    refine Sky.land Zc.steady frs0 hfr0 sky fun g3 f3 u3 => ?_
    obtain ⟨o3, w3, at3, z3, dt3⟩ := f3.there
    have out : a ∉ frs (X.env :: X.outer) := fun hm => by
      obtain ⟨_, o', e', hnf⟩ := f3.2.2.1.mem hm
      rw [at3] at e'
      cases e'
      exact hnf _ dt3
    have offL : a ≠ X.env.locals := fun z => out (List.mem_filterMap.mpr ⟨X.env, List.mem_cons_self, hfr0.trans (congrArg some z.symm)⟩)
    have offF : a ∉ X.fs := fun hm => by
      obtain ⟨ev, he, q⟩ := List.mem_filterMap.mp hm
      exact out (List.mem_filterMap.mpr ⟨ev, List.mem_cons_of_mem _ he, q⟩)
    have J3 : Inv X pins σ2 H2 { t with heap := g3 } := J.landed nb f3.1 (up.trans u3) os ag
    have T3 := J3.suite at3 dt3 na offL offF
    refine wpAny_handleBy_cons (codeAny_handlers_test ?_) (by intro q; cases q)
    have lookT : PySem.W.Looks (model X.prog X.w) g3 (typeOf (.ref a)) cls := fun A Q E s k q => wpAny_typeOf_ref (k _ _ at3) (z3.1.symm ▸ q)
    have one := (PySem.W.exm_one (M := model X.prog X.w) J3.kIn lookT hyes)
    have name : ∀ {Q E : Value → Shared → Prop}, Q c { t with heap := g3 } → wpAny (model X.prog X.w) (X.A.mark (some (.ref a))) (eval (.Name x np) X.env) Q E { t with heap := g3 } := fun {Q E} q => by
      rcases hnm with ⟨hg, hdbg, hm | ⟨hm, hv, hnn⟩⟩
      · exact ld_glob (X := X.suite a ((a, o3) :: (X.pn ++ pins))) T3 hg hm q hdbg
      · exact ld_blt (X := X.suite a ((a, o3) :: (X.pn ++ pins))) T3 hg hm hv q hnn hdbg
    refine name (one.here (codeAny_handlers_suite_as (HandSPX.lands_againZ f3 fun g4 f4 u4 => ?_)))
    obtain ⟨o4, w4, at4, z4, dt4⟩ := f4.there
    have J4 : Inv X pins σ2 H2 { t with heap := g4 } := J.landed nb f4.1 ((up.trans u3).trans u4) os ag
    refine store_ok (X := X.suite a ((a, o4) :: (X.pn ++ pins))) (v := .ref a) (J4.suite at4 dt4 na offL offF) hnd hat (.inl hkd) rfl (fun t5 S5 => ?_) (.inr hkd)
    refine wpAny_mono ((held a o4 cls d (X.pn ++ pins) z4 ⟨_, dt4⟩).run [] t5 _ H2 _ S5 (go a na)) (fun fl t6 got => ?_) (fun _ _ z => z.elim)
    have close : ∀ {σ6 : St} {H6 : Hp} {Q : Shared → Prop}, Inv (X.suite a ((a, o4) :: (X.pn ++ pins))) [] σ6 H6 t6 → (∀ t7, Inv X pins (σ6.set i none) H6 t7 → Q t7) →
        wpAny (model X.prog X.w) X.A (do bindName X.env n .none; unbindBehindTheSuite X.env n pos') (fun _ t7 => Q t7) X.xe t6 := fun S6 q => gone_ok (S6.unsuite fine) hnd hat hkd q
    cases fl with
    | ret u =>
      obtain ⟨v6, σ6, H6, S6, r6, q6⟩ := got
      exact close S6 fun t7 J7 => ⟨_, _, _, J7, r6, q6⟩
    | next =>
      obtain ⟨σ6, H6, S6, q6⟩ := got
      exact close S6 fun t7 J7 => ⟨_, _, J7, q6⟩
    | brk =>
      obtain ⟨σ6, H6, S6, q6⟩ := got
      exact close S6 fun t7 J7 => ⟨_, _, J7, q6⟩
    | cont =>
      obtain ⟨σ6, H6, S6, q6⟩ := got
      exact close S6 fun t7 J7 => ⟨_, _, J7, q6⟩
  · cases fl with
    | ret u =>
      obtain ⟨v, σ2, H2, J2, r, q⟩ := got
      exact ⟨v, σ2, H2, J2.ofTry fine, r, q⟩
    | next =>
      obtain ⟨σ2, H2, J2, q⟩ := got
      exact wpAny_execs_nil ⟨σ2, H2, J2.ofTry fine, q⟩
    | brk =>
      obtain ⟨σ2, H2, J2, q⟩ := got
      exact ⟨σ2, H2, J2.ofTry fine, q⟩
    | cont =>
      obtain ⟨σ2, H2, J2, q⟩ := got
      exact ⟨σ2, H2, J2.ofTry fine, q⟩
end
end L2

set_option maxRecDepth 100000
set_option maxHeartbeats 4000000
/-! making in a try; isinstance of the error that a suite holds, with or without a dict -/
namespace L2
open PySem PySem.Spec PyProof.Rows
section
variable {X : Cx} {CX : CXT} {k : Nat} {f C : Addr} {fd : FuncData} {ps : List Str} {sp : Sp} {E : St → XK} {x : Str} {p pos : Pos} {e : Expr} {es : List Expr} {t : TA}
theorem run_makeS {pins : List (Addr × Obj)} {σ : St} {H : Hp} {s : Shared} {Q : VK} {us : List Value} {vs : List V} (M : Mk X.K C f) (F : FnOk X.prog X.w X.K X.mg X.base CX k f fd ps sp) (hr : Room (k + 1) X.A) (hb : Binds X.K fd ps [])
    (hx : PassesAt CX X σ (E σ)) (I : Inv X pins σ H s) (r : Vals vs us)
    (h : ∀ x dx, H x = none → H dx = none → dx ≠ x → sp (.ref x :: (vs ++ [])) (upd (upd H dx (.own x)) x (.ins C dx [])) (fun v H2 => v = .non ∧ Q (.ref x) H2) (E σ)) :
    wpAny (model X.prog X.w) X.A (call (.ref C) us) (EP X pins σ Q) X.xe s := by
  have hq := h (s.heap.objs.size + 1) s.heap.objs.size (I.hok.fresh (Nat.le_succ _)) (I.hok.fresh (Nat.le_refl _)) (Nat.ne_of_lt (Nat.lt_succ_self _))
  have I2 := Inv.made (C := C) I
  have r2 : Vals (V.ref (s.heap.objs.size + 1) :: (vs ++ [])) (Value.ref (s.heap.objs.size + 1) :: (us ++ [])) := .cons rfl (r.append .nil)
  have hl : (Value.ref (s.heap.objs.size + 1) :: us ++ []).length = ps.length := by
    have e := r2.length
    rw [F.len _ _ _ _ hq] at e
    exact e.symm
  refine wpAny_call (make_map (f := f) I.kIn M.makes M.init (beq_iff_eq.mp M.fn) (codeAny_mono (F.run _ X.stack _ _ ⟨Value.ref (s.heap.objs.size + 1) :: us, []⟩ (Value.ref (s.heap.objs.size + 1) :: (us ++ [])) _ _ (E σ) (hr.make C us [])
    (I2.env0.make C us []) (by have := hb _ (Value.ref (s.heap.objs.size + 1) :: us) I2.kIn hl; simpa using this) r2 hq) fun r s' hq' => ?_))
  cases r with
  | error e => exact hx pins _ _ e s' I2 hq'
  | ok fl =>
    cases fl with
    | ret u =>
      obtain ⟨v, H', I3, rv, ev, q3⟩ := I2.after hq'
      subst ev
      exact ⟨rv, ⟨V.ref (s.heap.objs.size + 1), H', I3, rfl, q3⟩⟩
    | next => exact False.elim hq'
    | brk => exact False.elim hq'
    | cont => exact False.elim hq'
def tMakeS (C : Addr) (sp : Sp) (E : St → XK) (t : TA) : TE := fun σ H Q => tMake C sp [] (E σ) t σ H Q
theorem pe_makeS (M : Mk X.K C f) (F : FnOk X.prog X.w X.K X.mg X.base CX k f fd ps sp) (hr : Room (k + 1) X.A) (hg : Gl X x) (hm : X.mg x = some (.ref C)) (hb : Binds X.K fd ps []) (hx : ∀ σ, PassesAt CX X σ (E σ))
    (ha : PA X (e :: es) t) (hdb : (x == ("__debug__" : Str)) = false := by decide) (he : starEach (e :: es) X.env = (false, eval e X.env) :: starEach es X.env := by rfl) (hpl : (backTo pos (starEach es X.env)).any (·.1) = false := by rfl) :
    PE X (.Call (.Name x p) (e :: es) [] pos) (tMakeS C sp E t) := by
  refine ⟨fun pins s σ H Q I h => ?_⟩
  refine wpAny_Call_Name_kw (ld_glob I hg hm ?_ hdb)
  refine PySem.W.callWith_K (h₀ := X.base) I.ok.mod.kin M.kp (thn (ha.run pos pins s σ H _ I h) fun us s1 ⟨vs, H1, I1, r, q⟩ => ⟨I1.kIn, ?_⟩) he hpl
  exact run_makeS M F hr hb (hx σ) I1 r q
end
def rIsE3 (K : PySem.W.Frag) (a : Addr) (cls : Value) (d : Option Addr) : List V → Hp → VK → Prop := fun xs H Q => ∃ (D : Addr) (c : V) (cv : Value) (b : Bool), cls = .ref D ∧ ExcC K D ∧ (d = none ∨ ∃ dd fs, d = some dd ∧ H dd = some (.xd fs)) ∧
  xs = [.ref a, c] ∧ (∀ u, RelV c u → u = cv) ∧ PySem.W.kitOne K (.ref D) cv = some b ∧ Q (.bl b) H
theorem call_isE3 {X : Cx} {K : PySem.W.Frag} {a : Addr} {oe : Obj} {pn : List (Addr × Obj)} {cls : Value} {d : Option Addr} (hz : Zc cls d oe) (hf : ∃ vs, oe.data = .fields vs) (hK : X.K = K := by rfl) : CallR (X.suite a ((a, oe) :: pn)) (.builtin "isinstance") (rIsE3 K a cls d) := by
  subst hK
  intro pins s σ H xs us Q I r h
  obtain ⟨D, c, cv, b, rfl, T, hd, rfl, hcv, e, q⟩ := h
  cases r with
  | cons rx rr =>
    cases rr with
    | cons rt rr =>
      cases rr
      cases rx
      have ec := hcv _ rt
      subst ec
      obtain ⟨hget, _⟩ := I.pin (a, oe) (List.mem_append.mpr (.inl List.mem_cons_self))
      obtain ⟨vs, hv⟩ := hf
      have J : ∃ od, PySem.W.InstAt s.heap a oe D od := by
        rcases hd with rfl | ⟨dd, fs, rfl, hx⟩
        · refine ⟨none, hget, hz.1, by unfold PySem.W.notCls; rw [hv] <;> rfl, ?_⟩
          rw [hz.2]
          trivial
        · obtain ⟨mA, hns, hr⟩ : ObjOk X.prog X.w H s.heap dd (.xd fs) := I.hok dd _ hx
          obtain ⟨od, ho, hl⟩ := lookIn_ns hns
          exact ⟨some od, hget, hz.1, by unfold PySem.W.notCls; rw [hv] <;> rfl, by rw [hz.2]; exact ho⟩
      obtain ⟨od, J⟩ := J
      have hcl : (PySem.W.clsIn X.K D).isSome = true := by
        obtain ⟨cd, hc, _⟩ := PySem.W.any_some T.hd
        rw [hc]
        rfl
      exact PySem.W.kia_one (PySem.W.kitx_exc hcl T.hg T.hk T.hs T.ha T.hn T.ht T.hm) I.kIn J e (fun z => nomatch z) fun tk => ⟨.bl b, H, I.kept (t' := tk) fun _ _ z => z, rfl, q⟩
end L2

set_option maxRecDepth 100000
set_option maxHeartbeats 4000000
/-! the word for a row refused -/
namespace W1
open PySem PyProof.Rows L2
local macro_rules | `(tactic| walk_at "rp") => `(tactic| first | assumption | exact Rp.int _ | exact Rp.bl _ | exact Rp.str _ | exact Rp.non | exact Rp.obj _ | (refine Rp.le (by assumption) ?_; walk_at "rp"))
local macro_rules | `(tactic| walk_at "ed") => `(tactic| first
  | exact ed_int | exact ed_str | exact ed_bl | exact ed_non
  | (refine ed_var rfl ?_; walk_at "rp")
  | (refine ed_ixT (ds := [_, _]) ?_ ed_int (by decide) rfl; walk_at "ed")
  | (refine ed_I0 ?_ ?_ <;> walk_at "ed")
  | (refine ed_B0 ?_ ?_ <;> walk_at "ed")
  | (refine ed_eqS ?_ ?_ rfl rfl rfl <;> walk_at "ed")
  | assumption)
local macro_rules | `(tactic| walk_at "ea") => `(tactic| first | exact ea_nil | (refine ea_cons ?_ ?_; walk_at "ed"; walk_at "ea"))

abbrev s__law_led_word : Stmt := topS 64
abbrev N__law_led_word : List Str := ["_law_keeper_here", "_law_web", "_law_k", "_law_row_here", "_law_told", "e"]
theorem sc__law_led_word : FnScope N__law_led_word ["_law_keeper_here", "_law_web", "_law_k", "_law_row_here"] (defScope s__law_led_word) := ⟨rfl, rfl, rfl, by decide +kernel, rfl, by decide +kernel, by decide +kernel⟩
theorem takes_len {X : Cx} {W : WX} {n : Nat} (t : Takes X W) (hn : X.N.length = n) : Takes X (fun c d σ H => σ.length = n → W c d σ H) := fun u s' ⟨a, B, sI, pins, σ, H, cls, d, e, I, nb, up, sky, na, os, ag, w⟩ =>
  t u s' ⟨a, B, sI, pins, σ, H, cls, d, e, I, nb, up, sky, na, os, ag, w (I.len.trans hn)⟩
section
variable {P : Program} {w : World} {K : PySem.W.Frag} {mg : Str → Option Value} {base : Heap} {C CR CG : Addr}
def R_lledw (K : PySem.W.Frag) (C : Addr) : List D → Hp → Pd → Prop := fun ds H P1 => ∃ a ms ties k f d, ds = [.obj (.ref f), .obj (.ref a), .int k, d] ∧ WebAt K C H a ms ties ∧ PartsOk ms ties ∧ ms.length ≤ 8 ∧ 1 ≤ k ∧ k ≤ 200 ∧ Rw H d ∧ rowB ms.length d = false ∧ P1 = is (.tup [.str "row", rowD ms.length d])
theorem ok_lledw (T : HTxt mg) (c_NoRow : FC P w K mg base "NoRow" "index" CR) (ec : ExcC K CR) (hmR : mg "NoRow" = some (.ref CR)) (hmG : mg "TagError" = some (.ref CG)) (xR : PySem.W.exmOne K (.ref CR) (.ref CR) = some true) (kG : PySem.W.kitOne K (.ref CR) (.ref CG) = some true)
    (g : GDef K mg "_law_led_word" s__law_led_word ["_law_keeper_here", "_law_web", "_law_k", "_law_row_here"]) (Gled : DefX P w K mg base 13 "led" ["keeper", "web", "k", "row"] (spX K (R_led P w K mg base C CR))) : Def P w K mg base 15 "_law_led_word" ["_law_keeper_here", "_law_web", "_law_k", "_law_row_here"] (spD K (R_lledw K C)) := by
  refine defD g sc__law_led_word (fun ds H Pd h => ?_) fun cdv A outer s f H vs ds Pd Q E hr r h q => ?_
  · obtain ⟨a, ms, ties, k, f, d, rfl, _⟩ := h
    rfl
  obtain ⟨a, ms, ties, k, fk, d, rfl, x, ok, h8, k1, k2, hd, hb, rfl⟩ := h
  obtain ⟨v1, v2, v3, v4, rfl, r1, r2, r3, r4⟩ : ∃ v1 v2 v3 v4, vs = [v1, v2, v3, v4] ∧ Rp K H v1 (.obj (.ref fk)) ∧ Rp K H v2 (.obj (.ref a)) ∧ Rp K H v3 (.int k) ∧ Rp K H v4 d := by
    cases r with
    | cons a r =>
      obtain ⟨v2, v3, v4, rfl, r2, r3, r4⟩ := rps3 r
      exact ⟨_, v2, v3, v4, rfl, a, r2, r3, r4⟩
  have ev1 := rp_obj r1
  have ev2 := rp_obj r2
  have ev3 := rp_int r3
  subst ev1 ev2 ev3
  refine ⟨_, pss_cons (ps_try_first (i := 5) (c := .ref CR) (tb := fun W => tAsg (tCall (spX K (R_led P w K mg base C CR)) [] (fun cls d H => ∀ σ, σ.length = 6 → W cls d σ H) (tCons (tVar 0) (tCons (tVar 1) (tCons (tVar 2) (tCons (tVar 3) tNil))))) (gName 4))
      (ts := fun a cls d => tAsg (tIf (tB (tCB (rIsE3 K a cls d) (tCons (tVar 5) (tCons (tC (.ref CG)) tNil)))) (tTup (tCons (tC (.str "row")) (tCons (tXf a cls d CR "index" (tVar 5)) tNil))) (tTup (tCons (tC (.str "other")) tNil))) (gName 4))
      rfl rfl sc__law_led_word.nd rfl rfl ⟨rfl, by decide, Or.inl hmR⟩
      (fun W pn xe tk _ => pss_one (ps_set (i := 4) sc__law_led_word.nd rfl (Or.inl rfl) (pe_defX Gled (hr.mono (by decide)) (passes_call (takes_len tk rfl) (fun cls d σ H e l => e σ l)) (pa_cons (pv 0) (pa_cons (pv 1) (pa_cons (pv 2) (pa_cons (pv 3) pa_nil)))))))
      (fun a oe cls d pn hz hf => pss_one (ps_set (i := 4) sc__law_led_word.nd rfl (Or.inl rfl) (pe_ifExp (pt_val (pe_callB (call_isE3 (K := K) hz hf) (by rfl) T.n_isinstance boot_isinstance (pa_cons (pv 5) (pa_cons (pe_gl ⟨_, hmG, rfl⟩) pa_nil)))) (pe_tup (pa_cons pe_str (pa_cons (pe_xf c_NoRow.xf c_NoRow.no hz hf (pv 5)) pa_nil))) (pe_tup (pa_cons pe_str pa_nil))))))
      (pss_one (ps_ret (pv 4))), ?_⟩
  delta tSeq tAsg
  dsimp only
  refine er_callX (K := K) (C := CR) (f := some ("index", rowD ms.length d)) (R := R_led P w K mg base C CR) (ds := [.obj (.ref fk), .obj (.ref a), .int k, d]) (A := tCons (tVar 0) (tCons (tVar 1) (tCons (tVar 2) (tCons (tVar 3) tNil)))) (σ := L2.start N__law_led_word [.ref fk, .ref a, .int k, v4]) (ea_cons (ed_var rfl (.obj _)) (ea_cons (ed_var rfl (.obj _)) (ea_cons (ed_var rfl (.int k)) (ea_cons (ed_var rfl r4) ea_nil)))) (fun H2 e2 => ⟨a, ms, ties, k, fk, d, rfl, x.le e2, ok, h8, k1, k2, hd.le e2, fun _ => rfl, fun h => ?_⟩) ?_ _
  · rw [hb] at h
    cases h
  intro dd v H2 e2 hdd rp σ' hl
  obtain ⟨a0, a1, a2, a3, a4, a5, rfl⟩ : ∃ a0 a1 a2 a3 a4 a5, σ' = [a0, a1, a2, a3, a4, a5] := by
    match σ', hl with
    | [a0, a1, a2, a3, a4, a5], _ => exact ⟨a0, a1, a2, a3, a4, a5, rfl⟩
  refine ⟨xR, fun b nb => ?_⟩
  have xd : ∀ {H3 : Hp}, Le H2 H3 → H3 dd = some (.xd [("index", v)]) := fun e => by
    rcases e dd _ hdd with h1 | ⟨_, _, _, _, _, _, _, _, _, z, _⟩
    · exact h1
    · cases z
  refine s_asgD (K := K) (d := .tup [.str "row", rowD ms.length d]) (ep_if (b := true) (et_B (K := K) fun H3 e3 Q q => ⟨.ref b, rfl, CR, .ref CG, .ref CG, true, rfl, ec, .inr ⟨dd, _, rfl, xd e3⟩, rfl, (fun u h => h), kG, q _ _ H3 (Le.refl _) rfl (.bl _)⟩) (fun _ => ed_tup (ds := [.str "row", rowD ms.length d]) (ea_cons ed_str (ea_cons (fun H3 e3 Q q => ⟨.ref b, rfl, rfl, rfl, dd, [("index", v)], v, rfl, xd e3, rfl, q _ _ H3 (Le.refl _) rfl (rp.le e3)⟩) ea_nil)) (by show 2 ≤ 100000; decide)) fun h => nomatch h) fun u H4 e4 r4' => ?_
  exact s_retD (K := K) (ed_var rfl r4') fun z H5 e5 r5 => q z _ H5 ((e2.trans e4).trans e5) rfl r5
end
end W1

set_option maxRecDepth 100000
set_option maxHeartbeats 4000000
/-! a keeper that raises, let through -/
namespace W1
open PySem PyProof.Rows L2
local macro_rules | `(tactic| walk_at "rp") => `(tactic| first | assumption | exact Rp.int _ | exact Rp.bl _ | exact Rp.str _ | exact Rp.non | exact Rp.obj _ | (refine Rp.le (by assumption) ?_; walk_at "rp"))
local macro_rules | `(tactic| walk_at "ed") => `(tactic| first
  | exact ed_int | exact ed_str | exact ed_bl | exact ed_non
  | (refine ed_var rfl ?_; walk_at "rp")
  | (refine ed_ixT (ds := [_, _]) ?_ ed_int (by decide) rfl; walk_at "ed")
  | (refine ed_I0 ?_ ?_ <;> walk_at "ed")
  | (refine ed_B0 ?_ ?_ <;> walk_at "ed")
  | (refine ed_eqS ?_ ?_ rfl rfl rfl <;> walk_at "ed")
  | assumption)
local macro_rules | `(tactic| walk_at "ea") => `(tactic| first | exact ea_nil | (refine ea_cons ?_ ?_; walk_at "ed"; walk_at "ea"))

abbrev s__law_raising : Stmt := topS 65
abbrev N__law_raising : List Str := ["_law_web", "_law_k", "_law_past", "_law_room"]
theorem sc__law_raising : FnScope N__law_raising ["_law_web", "_law_k", "_law_past", "_law_room"] (defScope s__law_raising) := ⟨rfl, rfl, rfl, by decide +kernel, rfl, by decide +kernel, by decide +kernel⟩
def spKE : Sp := fun vs H Q E => vs.length = 4 ∧ ∀ d, E (.type "KeyError") d H
section
variable {P : Program} {w : World} {K : PySem.W.Frag} {mg : Str → Option Value} {base : Heap} {C CR fr : Addr}
theorem ok_raising (hm : mg "KeyError" = none) (g : GDef K mg "_law_raising" s__law_raising ["_law_web", "_law_k", "_law_past", "_law_room"]) : DefX P w K mg base 1 "_law_raising" ["_law_web", "_law_k", "_law_past", "_law_room"] spKE := by
  obtain ⟨f, fd, hmf, F, hb⟩ := g
  refine ⟨f, fd, hmf, F.kp, hb, F.okX sc__law_raising (fun vs H Q E h => h.1) fun cdv A outer s H vs Q E hr h => ?_⟩
  refine ⟨_, pss_one (ps_raise rfl (takes_of rfl rfl rfl rfl) (pmk_exc excClass_KeyError ty_KeyError (by rfl) hm boot_KeyError (pa_cons pe_str pa_nil))), ?_⟩
  exact ⟨by show 1 ≤ sizeLine; exact Evl.sz_of (by decide), fun d => h.2 d⟩
/-- what stands at fr raises -/
structure Raiser (P : Program) (w : World) (K : PySem.W.Frag) (mg : Str → Option Value) (base : Heap) (fr : Addr) : Prop where
  kp : PySem.W.keepIn K (.ref fr) = true
  fn : FnR P w K mg base (L2.CX P w) 1 fr spKE
theorem raiser_of (D : DefX P w K mg base 1 "_law_raising" ["_law_web", "_law_k", "_law_past", "_law_room"] spKE) : ∃ fr, mg "_law_raising" = some (.ref fr) ∧ Raiser P w K mg base fr := by
  obtain ⟨f, fd, hm, hk, hb, F⟩ := D
  exact ⟨f, hm, hk, (F.raw hb .nil).imp fun vs H Q E h => by rw [List.append_nil]; exact h⟩
def spLR (K : PySem.W.Frag) (fr : Addr) : Sp := fun vs H Q E => ∃ a k past st r, Rps K H vs [.obj (.ref fr), .obj (.ref a), .int k, past, st, eG r] ∧ ∀ d H2, Le H H2 → E (.type "KeyError") d H2
theorem ok_ledonR (T : HTxt mg) (Rz : Raiser P w K mg base fr) (g : GDef K mg "led_on" s_led_on ["keeper", "web", "k", "past", "standing", "ask"]) (Gdeed_of : Def P w K mg base 8 "deed_of" ["web", "k", "standing", "ask", "tag"] (spD K (R_deed K C))) (Gwith_deed : Def P w K mg base 2 "with_deed" ["web", "standing", "deed"] (spD K (R_wdX K C))) :
    DefX P w K mg base 12 "led_on" ["keeper", "web", "k", "past", "standing", "ask"] (spLR K fr) := by
  obtain ⟨f, fd, hmf, F, hb⟩ := g
  refine ⟨f, fd, hmf, F.kp, hb, F.okX sc_led_on (fun vs H Q E ⟨a, k, past, st, r, h, _⟩ => h.len) fun cdv A outer s H vs Q E hr h => ?_⟩
  obtain ⟨a, k, past, st, r, rr, l⟩ := h
  obtain ⟨v1, v2, v3, v4, v5, v6, rfl, r1, r2, r3, r4, r5, r6⟩ : ∃ v1 v2 v3 v4 v5 v6, vs = [v1, v2, v3, v4, v5, v6] ∧ Rp K H v1 (.obj (.ref fr)) ∧ Rp K H v2 (.obj (.ref a)) ∧ Rp K H v3 (.int k) ∧ Rp K H v4 past ∧ Rp K H v5 st ∧ Rp K H v6 (eG r) := by
    cases rr with
    | cons a r =>
      cases r with
      | cons b r =>
        cases r with
        | cons c r =>
          obtain ⟨v4, v5, v6, rfl, r4, r5, r6⟩ := rps3 r
          exact ⟨_, _, _, v4, v5, v6, rfl, a, b, c, r4, r5, r6⟩
  have ev1 := rp_obj r1
  subst ev1
  refine ⟨_, (pss_cons (ps_par (i := 6) (j := 7) (by rfl) sc_led_on.nd rfl rfl (by decide) rfl rfl (pa_cons (pv 5) (pa_cons pe_str pa_nil)) (by rfl))
    (pss_cons (ps_if (pt_cmpR op_eq (pe_ix (kix_tup (K := K)) (pv 5) pe_int (fun _ _ => rfl)) pe_str (nomark _))
      (pss_one (ps_asg (pe_def Gdeed_of (hr.mono (by decide)) (pa_cons (pv 1) (pa_cons (pv 2) (pa_cons (pv 4) (pa_cons (pv 5) (pa_cons (ItX.pe_callV (i := 0) (f := fr) Rz.fn (hr.mono (by decide)) Rz.kp passUp rfl (Or.inl rfl) (pa_cons (pv 1) (pa_cons (pv 2) (pa_cons (pv 3) (pa_cons (pe_ix (kix_tup (K := K)) (pv 5) pe_int (fun _ _ => rfl)) pa_nil))))) pa_nil)))))) (kpg_tup (K := K) (n := 2) rfl (pgs_cons (pg_name (i := 6) sc_led_on.nd rfl (Or.inl rfl)) (pgs_cons (pg_name (i := 7) sc_led_on.nd rfl (Or.inl rfl)) pgs_nil)))))
      pss_nil)
    (pss_cons (ps_if (pt_cmpR op_isN (pv 6) pe_non (nomark _))
      (pss_one (ps_ret (pe_tup (pa_cons (pv 3) (pa_cons (pv 4) (pa_cons (pv 7) pa_nil))))))
      pss_nil)
    (pss_one (ps_ret (pe_tup (pa_cons (pe_op (kop_catA (K := K)) (pv 3) (pe_tup (pa_cons (pv 6) pa_nil))) (pa_cons (pe_def Gwith_deed (hr.mono (by decide)) (pa_cons (pv 1) (pa_cons (pv 4) (pa_cons (pv 6) pa_nil)))) (pa_cons (pv 7) pa_nil))))))))), ?_⟩
  refine q_par2 (K := K) (PA := fun ds _ => ds = [eG r, .str "kept"]) (ea_cons (ed_var rfl r6) (ea_cons ed_str ea_nil)) (fun ds H1 p => by rw [p]; rfl) fun v7 v8 d7 d8 H1 e1 p r7 r8 => ?_
  refine q_ifB (b := true) (eb_eq (et_test (K := K) (ed_eqS (d1 := .str "give") (d2 := .str "give") (ed_ixT (ds := [_, _]) (ed_var rfl (r6.le e1)) ed_int (by decide) rfl) ed_str rfl rfl rfl)) vs_gg) (fun _ H2 e2 => ?_) fun h => nomatch h
  have e12 := e1.trans e2
  refine ⟨v2, rfl, v3, rfl, v5, rfl, v6, rfl, rfl, ?_⟩
  refine (ea_cons (ed_var rfl (r2.le e12)) (ea_cons (ed_var rfl (r3.le e12)) (ea_cons (ed_var rfl (r4.le e12)) (ea_cons (ed_ixT (K := K) (ds := [.str "give", .int r]) (d := .int r) (ed_var rfl (r6.le e12)) ed_int (by decide) rfl) ea_nil)))) H2 (Le.refl _) _ fun vs ds H3 e3 p rr => ?_
  refine ⟨?_, fun d => l d H3 (e12.trans e3)⟩
  rw [rr.len, show ds = [.obj (.ref a), .int k, past, .int r] from p]
  rfl
end
end W1

set_option maxRecDepth 100000
set_option maxHeartbeats 4000000
/-! a row led by what raises -/
namespace W1
open PySem PyProof.Rows L2
local macro_rules | `(tactic| walk_at "rp") => `(tactic| first | assumption | exact Rp.int _ | exact Rp.bl _ | exact Rp.str _ | exact Rp.non | exact Rp.obj _ | (refine Rp.le (by assumption) ?_; walk_at "rp"))
local macro_rules | `(tactic| walk_at "ed") => `(tactic| first
  | exact ed_int | exact ed_str | exact ed_bl | exact ed_non
  | (refine ed_var rfl ?_; walk_at "rp")
  | (refine ed_ixT (ds := [_, _]) ?_ ed_int (by decide) rfl; walk_at "ed")
  | (refine ed_I0 ?_ ?_ <;> walk_at "ed")
  | (refine ed_B0 ?_ ?_ <;> walk_at "ed")
  | (refine ed_eqS ?_ ?_ rfl rfl rfl <;> walk_at "ed")
  | assumption)
local macro_rules | `(tactic| walk_at "ea") => `(tactic| first | exact ea_nil | (refine ea_cons ?_ ?_; walk_at "ed"; walk_at "ea"))

abbrev s__law_goes_on : Stmt := topS 66
abbrev N__law_goes_on : List Str := ["_law_web", "_law_told"]
theorem sc__law_goes_on : FnScope N__law_goes_on ["_law_web"] (defScope s__law_goes_on) := ⟨rfl, rfl, rfl, by decide +kernel, rfl, by decide +kernel, by decide +kernel⟩
theorem q_callE {sp : Sp} {A : TA} {g : TG} {E : XK} {tz : TS} {D1 : Ends} {σ : L2.St} {H : Hp} (h : ∀ Q : VK, A σ H fun vs H1 => sp (vs ++ []) H1 Q E) : tSeq (tAsg (tCall sp [] E A) g) tz D1 σ H := h _
theorem row0 {n : Nat} (h : 1 ≤ n) : rowB n (.tup [eG 0]) = true := by
  have a : askD (List.replicate n (false, [])) (eG 0) = true := askB_iff.mpr ⟨by omega, by rw [List.length_replicate]; omega, by
    have e : stAt (List.replicate n (false, ([] : List Int))) 0 = (false, []) := st_at_rep _ _
    rw [e]
    rfl⟩
  show isNon (fb 0 (List.replicate n (false, [])) [eG 0]) = true
  unfold fb
  rw [if_pos a]
  rfl
section
variable {P : Program} {w : World} {K : PySem.W.Frag} {mg : Str → Option Value} {base : Heap} {C CR fr : Addr}
def spLedR (K : PySem.W.Frag) (C fr : Addr) : Sp := fun vs H Q E => ∃ a ms ties k, Rps K H vs [.obj (.ref fr), .obj (.ref a), .int k, .tup [eG 0]] ∧ WebAt K C H a ms ties ∧ 1 ≤ ms.length ∧ ms.length ≤ 60 ∧ 1 ≤ k ∧ k ≤ 200 ∧ ∀ d H2, Le H H2 → E (.type "KeyError") d H2
theorem ok_ledR (T : HTxt mg) (g : GDef K mg "led" s_led ["keeper", "web", "k", "row"]) (Gcheck_tags : Def P w K mg base 3 "check_tags" ["k"] (spD K R_ctags)) (Gcheck_row : DefX P w K mg base 9 "check_row" ["web", "row"] (spX K (R_crow K C CR))) (Gbegun : Def P w K mg base 1 "begun" ["web"] (spD K (R_begun K C)))
    (Gled_on : DefX P w K mg base 12 "led_on" ["keeper", "web", "k", "past", "standing", "ask"] (spLR K fr)) : DefX P w K mg base 13 "led" ["keeper", "web", "k", "row"] (spLedR K C fr) := by
  obtain ⟨f, fd, hmf, F, hb⟩ := g
  refine ⟨f, fd, hmf, F.kp, hb, F.okX sc_led (fun vs H Q E ⟨a, ms, ties, k, h, _⟩ => h.len) fun cdv A outer s H vs Q E hr h => ?_⟩
  obtain ⟨a, ms, ties, k, r, x, some1, few, k1, k2, l⟩ := h
  obtain ⟨v1, v2, v3, v4, rfl, r1, r2, r3, r4⟩ : ∃ v1 v2 v3 v4, vs = [v1, v2, v3, v4] ∧ Rp K H v1 (.obj (.ref fr)) ∧ Rp K H v2 (.obj (.ref a)) ∧ Rp K H v3 (.int k) ∧ Rp K H v4 (.tup [eG 0]) := by
    cases r with
    | cons a r =>
      obtain ⟨v2, v3, v4, rfl, r2, r3, r4⟩ := rps3 r
      exact ⟨_, v2, v3, v4, rfl, a, r2, r3, r4⟩
  have ev1 := rp_obj r1
  have ev2 := rp_obj r2
  have ev3 := rp_int r3
  subst ev1 ev2 ev3
  have tg : ∀ H, Th H (eG 0) := fun H => .tup (by show 2 ≤ 50000; decide) fun d hd => by
    simp only [List.mem_cons, List.not_mem_nil, or_false] at hd
    rcases hd with rfl | rfl
    · exact .sc rfl
    · exact .sc rfl
  have rw0 : ∀ H, Rw H (.tup [eG 0]) := fun H => .tup (by show 1 ≤ 5000; decide) fun y hy => by
    rw [List.mem_singleton.mp hy]
    exact tg H
  refine ⟨_, (pss_cons (ps_expr (pe_def Gcheck_tags (hr.mono (by decide)) (pa_cons (pv 2) pa_nil)))
    (pss_cons (ps_expr (pe_defX Gcheck_row (hr.mono (by decide)) passUp (pa_cons (pv 1) (pa_cons (pv 3) pa_nil))))
    (pss_cons (ps_set (i := 4) sc_led.nd rfl (Or.inl rfl) (pe_tup pa_nil))
    (pss_cons (ps_set (i := 5) sc_led.nd rfl (Or.inl rfl) (pe_def Gbegun (hr.mono (by decide)) (pa_cons (pv 1) pa_nil)))
    (pss_cons (ps_for (passes_of rfl) rfl (kpi_tup (K := K) (pe_callTy (kc_tuple (K := K)) (by rfl) T.n_tuple boot_tuple (pa_cons (pv 3) pa_nil))) (pg_name (i := 6) sc_led.nd rfl (Or.inl rfl))
      (pss_cons (ps_asg (pe_defX Gled_on (hr.mono (by decide)) passUp (pa_cons (pv 0) (pa_cons (pv 1) (pa_cons (pv 2) (pa_cons (pv 4) (pa_cons (pv 5) (pa_cons (pv 6) pa_nil))))))) (kpg_tup (K := K) (n := 3) rfl (pgs_cons (pg_name (i := 4) sc_led.nd rfl (Or.inl rfl)) (pgs_cons (pg_name (i := 5) sc_led.nd rfl (Or.inl rfl)) (pgs_cons (pg_name (i := 7) sc_led.nd rfl (Or.inl rfl)) pgs_nil)))))
    (pss_one (ps_if (pt_cmpR op_ne (pv 7) pe_str (nomark _))
      (pss_one (ps_ret (pe_tup (pa_cons (pv 4) (pa_cons (pv 7) pa_nil)))))
      pss_nil))))
    (pss_one (ps_ret (pe_tup (pa_cons (pv 4) (pa_cons pe_str pa_nil)))))))))), ?_⟩
  refine q_drop (K := K) (P := is .non) (ed_call (ea_cons (ed_var rfl (.int k)) ea_nil) fun H1 _ => ⟨k, rfl, k1, k2, rfl⟩) fun H1 e1 => ?_
  refine q_drop (K := K) (P := is .non) (ep_callX (ea_cons (ed_var rfl (.obj (.ref a))) (ea_cons (ed_var rfl (r4.le e1)) ea_nil)) fun H3 e3 => ⟨a, ms, ties, .tup [eG 0], rfl, x.le (e1.trans e3), some1, few, rw0 _, by rw [row0 some1]; rfl⟩) fun H2 e2 => ?_
  have e12 := e1.trans e2
  refine q_asgD (K := K) (d := .tup []) (ed_tup (ds := []) ea_nil (by decide)) fun v5 H3 e3 r5 => ?_
  have e13 := e12.trans e3
  refine q_asgD (K := K) (d := eT (List.replicate ms.length (false, []))) (ed_call (ea_cons (ed_var rfl (.obj (.ref a))) ea_nil) fun H4 e4 => ⟨a, ms, ties, rfl, x.le (e13.trans e4), some1, few, rfl⟩) fun v6 H4 e4 r6 => ?_
  have e14 := e13.trans e4
  refine q_forT (K := K) (ds := [eG 0]) (ed_tupOfE (.inl rfl) (ed_var rfl (r4.le e14))) (fun d hd => by rw [List.mem_singleton.mp hd]; exact (tg H).noL) fun H5 e5 => ?_
  refine ⟨fun i σ H' => i = 0 ∧ H' = H5 ∧ σ = [some (.ref fr), some (.ref a), some (.int k), some v4, some v5, some v6, none, none], ⟨rfl, rfl, rfl⟩, ?_, ?_, ?_⟩
  · rintro i σ H' _ ⟨_, rfl, _⟩
    exact LeT.refl _
  · rintro i d v σ H' hd rv ⟨rfl, rfl, rfl⟩
    obtain rfl : eG 0 = d := Option.some.inj hd
    refine q_callE (σ := [some (.ref fr), some (.ref a), some (.int k), some v4, some v5, some v6, some v, none]) fun Q2 => (ea_cons (K := K) (σ := [some (.ref fr), some (.ref a), some (.int k), some v4, some v5, some v6, some v, none]) (ed_var (i := 0) (d := .obj (.ref fr)) rfl (.obj _)) (ea_cons (ed_var (i := 1) (d := .obj (.ref a)) rfl (.obj _)) (ea_cons (ed_var (i := 2) rfl (.int k)) (ea_cons (ed_var (i := 4) rfl (r5.le (e4.trans e5))) (ea_cons (ed_var (i := 5) rfl (r6.le e5)) (ea_cons (ed_var (i := 6) rfl rv) ea_nil)))))) H' (Le.refl _) _ fun vs ds H6 e6 p rr => ?_
    have p' : ds = [.obj (.ref fr), .obj (.ref a), .int k, .tup [], eT (List.replicate ms.length (false, [])), eG 0] := p
    subst p'
    exact ⟨a, k, _, _, 0, by rw [List.append_nil]; exact rr, fun d H7 e7 => l d H7 (((e14.trans e5).trans e6).trans e7)⟩
  · rintro σ H' ⟨h, _⟩
    cases h
theorem takes00 {X : Cx} : Takes X (fun _ _ _ _ => False) := fun u s' ⟨_, _, _, _, _, _, _, _, _, _, _, _, _, _, _, _, z⟩ => z.elim
def R_goes (K : PySem.W.Frag) (C : Addr) : List D → Hp → Pd → Prop := fun ds H P1 => ∃ a ms ties, ds = [.obj (.ref a)] ∧ WebAt K C H a ms ties ∧ 1 ≤ ms.length ∧ ms.length ≤ 60 ∧ P1 = is (.bl true)
theorem ok_goes (T : HTxt mg) (mKE : mg "KeyError" = none) (hmR : mg "_law_raising" = some (.ref fr)) (g : GDef K mg "_law_goes_on" s__law_goes_on ["_law_web"]) (Gled : DefX P w K mg base 13 "led" ["keeper", "web", "k", "row"] (spLedR K C fr)) : Def P w K mg base 15 "_law_goes_on" ["_law_web"] (spD K (R_goes K C)) := by
  refine defD g sc__law_goes_on (fun ds H Pd h => ?_) fun cdv A outer s f H vs ds Pd Q E hr r h q => ?_
  · obtain ⟨a, ms, ties, rfl, _⟩ := h
    rfl
  obtain ⟨a, ms, ties, rfl, x, s1, few, rfl⟩ := h
  obtain ⟨v1, rfl, r1⟩ := rps1 r
  have ev := rp_obj r1
  subst ev
  refine ⟨_, pss_cons (ps_set (i := 1) sc__law_goes_on.nd rfl (Or.inl rfl) pe_bl) (pss_cons (ps_try_only (c := .type "KeyError") (Wout := fun _ _ _ _ => False)
      (tb := fun W => tDrop (tCall (spLedR K C fr) [] (fun cls d H => ∀ σ, σ.length = 2 → W cls d σ H) (tCons (tC (.ref fr)) (tCons (tVar 0) (tCons (tC (.int 3)) (tCons (tTup (tCons (tTup (tCons (tC (.str "give")) (tCons (tC (.int 0)) tNil))) tNil)) tNil))))))
      (ts := fun a cls d => tAsg (tC (.bl true)) (gName 1)) rfl rfl (names_blt (by rfl) mKE boot_KeyError) takes00
      (fun W pn xe tk _ => pss_one (ps_expr (pe_defX Gled (hr.mono (by decide)) (passes_call (takes_len tk rfl) (fun cls d σ H e l => e σ l)) (pa_cons (pe_gl ⟨_, hmR, rfl⟩) (pa_cons (pv 0) (pa_cons pe_int (pa_cons (pe_tup (pa_cons (pe_tup (pa_cons pe_str (pa_cons pe_int pa_nil))) pa_nil)) pa_nil)))))))
      (fun a oe cls d pn _ _ => pss_one (ps_set (i := 1) sc__law_goes_on.nd rfl (Or.inl rfl) pe_bl)))
      (pss_one (ps_ret (pv 1)))), ?_⟩
  refine q_asgD (K := K) (d := .bl false) ed_bl fun v2 H1 e1 r2 => ?_
  delta tSeq tDrop
  dsimp only
  refine (ea_cons (K := K) (ed_obj (v := .ref fr)) (ea_cons (ed_var (i := 0) (d := .obj (.ref a)) rfl (.obj _)) (ea_cons (ed_int (i := 3)) (ea_cons (ed_tup (ds := [eG 0]) (ea_cons (ed_tup (ds := [.str "give", .int 0]) (ea_cons ed_str (ea_cons ed_int ea_nil)) (by show 2 ≤ 100000; decide)) ea_nil) (by show 1 ≤ 100000; decide)) ea_nil)))) H1 (Le.refl _) _ fun vs ds H2 e2 p rr => ?_
  have p' : ds = [.obj (.ref fr), .obj (.ref a), .int 3, .tup [eG 0]] := p
  subst p'
  refine ⟨a, ms, ties, 3, by rw [List.append_nil]; exact rr, x.le (e1.trans e2), s1, few, by decide, by decide, fun d H3 e3 σ' hl => ?_⟩
  obtain ⟨a0, a1, rfl⟩ : ∃ a0 a1, σ' = [a0, a1] := by
    match σ', hl with
    | [a0, a1], _ => exact ⟨a0, a1, rfl⟩
  refine ⟨true, exm_KE, fun _ b nb => ?_, fun h => nomatch h⟩
  refine s_asgD (K := K) (d := .bl true) ed_bl fun u H4 e4 r4 => ?_
  exact s_retD (K := K) (ed_var rfl r4) fun z H5 e5 r5 => q z _ H5 ((((e1.trans e2).trans e3).trans e4).trans e5) rfl r5
end
end W1

set_option maxRecDepth 100000
set_option maxHeartbeats 4000000
/-! the maker: def x(..): def y(..): .. ; return y -/
namespace L2
open PySem PySem.Spec PyProof.Rows NdefX LamX
theorem cellsFrom_ge {n0 : Nat} : ∀ (names : List (Str × NameKind)) (n : Nat) (acc : List (Str × Addr)), (∀ y c, (y, c) ∈ acc → n0 ≤ c) → n0 ≤ n → ∀ y c, (y, c) ∈ cellsFrom n names acc → n0 ≤ c
  | [], _, _, h, _, y, c, hm => h y c hm
  | (x, k) :: r, n, acc, h, hn, y, c, hm => by
    unfold cellsFrom at hm
    split at hm
    · refine cellsFrom_ge r (n + 1) _ (fun y c hc => ?_) (by omega) y c hm
      rcases List.mem_cons.mp hc with e | hc
      · cases e
        exact hn
      · exact h y c hc
    · exact cellsFrom_ge r n acc h hn y c hm
open Classical in
/-- the cells, tracked too -/
noncomputable def addC (F : NF) (fr : List Str) (ws : List V) (H : Hp) : Hp := fun b =>
  if h : ∃ (i : Nat) (y : Str) (v : V), F.cl.lookup y = some b ∧ fr[i]? = some y ∧ ws[i]? = some v then some (CelO b (Classical.choose (Classical.choose_spec (Classical.choose_spec h)))) else H b
section
variable {F : NF} {fr : List Str} {ws : List V} {H : Hp}
theorem addC_in (inj : ∀ x y c, F.cl.lookup x = some c → F.cl.lookup y = some c → x = y) (nd : fr.Nodup) {i : Nat} {y : Str} {v : V} {b : Addr} (h1 : F.cl.lookup y = some b) (h2 : fr[i]? = some y) (h3 : ws[i]? = some v) : addC F fr ws H b = some (CelO b v) := by
  have h : ∃ (i : Nat) (y : Str) (v : V), F.cl.lookup y = some b ∧ fr[i]? = some y ∧ ws[i]? = some v := ⟨i, y, v, h1, h2, h3⟩
  unfold addC
  rw [dif_pos h]
  have sp := Classical.choose_spec (Classical.choose_spec (Classical.choose_spec h))
  generalize Classical.choose (Classical.choose_spec (Classical.choose_spec h)) = v' at sp ⊢
  generalize Classical.choose (Classical.choose_spec h) = y' at sp
  generalize Classical.choose h = i' at sp
  obtain ⟨s1, s2, s3⟩ := sp
  have ey := inj _ _ _ s1 h1
  subst ey
  have ei : i' = i := by
    obtain ⟨l1, e1⟩ := List.getElem?_eq_some_iff.mp s2
    obtain ⟨l2, e2⟩ := List.getElem?_eq_some_iff.mp h2
    exact (List.getElem_inj nd).mp (e1.trans e2.symm)
  subst ei
  rw [Option.some.inj (s3.symm.trans h3)]
theorem addC_out {b : Addr} (h : ¬ InC F b) : addC F fr ws H b = H b := by
  unfold addC
  rw [dif_neg fun ⟨_, y, _, h1, _⟩ => h ⟨y, h1⟩]
end
/-- what the def statement must leave -/
def MakerEnd (X : Cx) (i : Nat) (fr : List Str) (js : List Nat) (ws : List V) (Q : VK) (σ' : L2.St) (H' : Hp) : Prop :=
  ∃ (g : Addr) (F : NF), σ'[i]? = some (some (.ref g)) ∧ H' g = some (FnO g F) ∧ H' F.c = some (CodeO F.c F.qual) ∧ (∀ y c, F.cl.lookup y = some c → y ∈ fr) ∧ (X.Ok → Caps X F.cl fr js) ∧ js.map (NdefX.slotAt σ') = ws.map some ∧
    ∀ H2 : Hp, (∀ b, ¬ InC F b → H2 b = H' b) → (∀ b, InC F b → H' b = none) → Clo H2 g F fr ws → Q (.ref g) H2
section
variable {P : Program} {w : World} {K : PySem.W.Frag} {mg : Str → Option Value} {base : Heap}
theorem maker_of {k i : Nat} {f : Addr} {name qual : Str} {params : Arguments} {scope : Scope} {dV kV doc pm cdv ct oc : Value} {an od : Option Addr} {osl : Array (Option Value)} {N ps fr : List Str} {js : List Nat} {st : Stmt} {x : Str} {p2 pos : Pos} {sp : Sp}
    (lk : K.lookup f = some ⟨oc, od, .func (PySem.W.fnOf name qual params [st, .Return (some (.Name x p2)) pos] scope dV kV doc pm an cdv ct), osl⟩) (hcd : PySem.W.codeIn K cdv qual = true) (S : FnScope N ps scope) (len : ∀ vs H Q E, sp vs H Q E → vs.length = ps.length)
    (hNi : N[i]? = some x) (hvis : Vis scope x) (hd : (x == ("__debug__" : Str)) = false) (hcl : (x == ("__classdict__" : Str)) = false) (nd : fr.Nodup)
    (hbody : ∀ (A : Around) (outer : List Env) (s : Shared) (H : Hp) (vs : List V) (Q : VK) (E : XK), Room k (A.deeper (envOfC qual scope s.heap.objs.size f cdv)) → sp vs H Q E →
      ∃ (t : TS) (ws : List V), PS (cxOf CX0 P w K mg base N qual scope f cdv A outer s H E) st t ∧ ws.length = fr.length ∧ t { nx := MakerEnd (cxOf CX0 P w K mg base N qual scope f cdv A outer s H E) i fr js ws Q, rt := fun _ _ => False } (start N vs) H) :
    FnOk P w K mg base CX0 (k + 1) f (PySem.W.fnOf name qual params [st, .Return (some (.Name x p2)) pos] scope dV kV doc pm an cdv ct) ps sp := by
  refine ⟨len, fun A outer s H args us vs Q E hr e0 hb r hsp => ?_⟩
  have hl := len _ _ _ _ hsp
  have KX : K.In s.heap := e0.mod.kin.keeps fun b o e => (e0.bs b o e).1
  have lim : s.heap.NoLimit := e0.mod.nolimit.keeps fun b o e => (e0.bs b o e).1
  have hkind : ∀ y ∈ ps.zip us, scope.names.lookup y.1 = some .local ∨ (scope.names.lookup y.1 = some .cell ∧ ((cellsFrom (s.heap.objs.size + 1) scope.names []).lookup y.1).isSome = true) := fun ⟨n, v⟩ hy => by
    rcases S.par n (List.of_mem_zip hy).1 with q | q
    · exact .inl q
    · exact .inr ⟨q, PySem.W.cellsFrom_some _ _ _ (.inl q)⟩
  refine codeAny_call_function hr.depth (KX _ _ lk) rfl S.co S.gen rfl (PySem.W.codeRec_of KX hcd) (hb _ _ _ _ ?_)
  refine wpAny_newFunctionEnv_cells S.kind hkind fun env he s1 x1 => ?_
  subst he
  refine ⟨lim.keeps x1.toInCall.keep, codeAny_func ?_⟩
  obtain ⟨t, ws, ht, wl, hq⟩ := hbody A outer s H vs Q E (hr.deeper _) hsp
  have I : Inv (cxOf CX0 P w K mg base N qual scope f cdv A outer s H E) [] (start N vs) H s1 := inv_start S hr.hd e0 hl r x1
  refine wpAny_execs_cons (thn (ht.run [] s1 (start N vs) H _ I hq) fun fl s2 hs => ?_)
  cases fl with
  | ret u =>
    obtain ⟨_, _, _, _, _, q⟩ := hs
    exact False.elim q
  | brk =>
    obtain ⟨_, _, _, q⟩ := hs
    exact False.elim q
  | cont =>
    obtain ⟨_, _, _, q⟩ := hs
    exact False.elim q
  | next =>
    obtain ⟨σ', H', I2, g, F, hg, hf, hc, honly, caps, hws, q⟩ := hs
    refine wpAny_execs_cons (wpAny_Return_some (thn ((pe_var (pos := p2) hNi hvis hd hcl).run [] s2 σ' H' (fun v H3 => v = .ref g ∧ H3 = H') I2 ⟨.ref g, hg, rfl, rfl⟩) fun u s3 ⟨v, H3, I3, rv, ev, eH⟩ => ?_))
    subst ev eH
    have caps := caps I3.ok
    have cells := cells_of I3 caps
    have inNone : ∀ b, InC F b → H3 b = none := fun b ⟨y, hy⟩ => (cells.all y b hy).1
    have ge : ∀ b, InC F b → s.heap.objs.size < b := fun b ⟨y, hy⟩ => by
      have h1 := caps.sub y b hy
      have h2 : (y, b) ∈ cellsFrom (s.heap.objs.size + 1) scope.names [] := PySem.mem_of_lookup h1
      have := cellsFrom_ge (n0 := s.heap.objs.size + 1) scope.names _ [] (fun y c h => nomatch h) (Nat.le_refl _) y b h2
      omega
    have outS : ∀ b o, H3 b = some o → ¬ InC F b := fun b o hb hc => by
      rw [inNone b hc] at hb
      cases hb
    have wsat : ∀ i v, ws[i]? = some v → (js.map (NdefX.slotAt σ'))[i]? = some (some v) := fun i v h => by
      rw [hws, List.getElem?_map, h]
      rfl
    have held : ∀ (i : Nat) y v, fr[i]? = some y → ws[i]? = some v → ∃ c, F.cl.lookup y = some c ∧ ∃ u, RelV v u ∧ s3.heap.IsCell c (some u) := fun i y v h1 h2 => by
      obtain ⟨c, hc, hv⟩ := cells.has i y h1
      exact ⟨c, hc, hv v (wsat i v h2)⟩
    have place : ∀ b, InC F b → ∃ (i : Nat) (y : Str) (v : V), F.cl.lookup y = some b ∧ fr[i]? = some y ∧ ws[i]? = some v := fun b ⟨y, hy⟩ => by
      obtain ⟨i, hi⟩ := List.mem_iff_getElem?.mp (honly y b hy)
      have hil := (List.getElem?_eq_some_iff.mp hi).1
      rw [← wl] at hil
      exact ⟨i, y, ws[i], hy, hi, List.getElem?_eq_getElem hil⟩
    have C : Clo (addC F fr ws H3) g F fr ws := by
      refine ⟨by rw [addC_out (outS g _ hf)]; exact hf, by rw [addC_out (outS _ _ hc)]; exact hc, wl, cells.inj, fun y c h => ?_, fun i y v h1 h2 => ?_, fun c hin => ⟨fun e => outS g _ hf (e ▸ hin), fun e => outS _ _ hc (e ▸ hin)⟩, honly⟩
      · obtain ⟨i, y', v, h1, h2, h3⟩ := place c ⟨y, h⟩
        exact ⟨v, addC_in cells.inj nd h1 h2 h3⟩
      · obtain ⟨c, hc', _⟩ := held i y v h1 h2
        exact ⟨c, hc', addC_in cells.inj nd hc' h1 h2⟩
    have B := I3.base
    refine ⟨.ref g, addC F fr ws H3, I3.os, I3.bare, ⟨fun b o hb hn hx => B.keep b o hb hn hx, fun b o hb hn hx => B.slot b o hb hn hx, fun b o hb hn hx => ?_, B.there, fun b xs hb => ?_, fun b o u hb => ?_, fun b ps hb => ?_⟩, fun a o e => ?_, rv, q _ (fun b h => addC_out h) inNone C⟩
    · have hlt : b < s.heap.objs.size := Heap.lt_size hb
      rw [addC_out fun hin => Nat.lt_asymm hlt (ge b hin)]
      exact B.free b o hb hn hx
    · have h1 := B.tups b xs hb
      rw [addC_out (outS b _ h1)]
      exact h1
    · have h1 := B.frzs b o u hb
      rw [addC_out (outS b _ h1)]
      exact h1
    · obtain ⟨more, h1⟩ := B.tbls b ps hb
      exact ⟨more, by rw [addC_out (outS b _ h1)]; exact h1⟩
    · by_cases hin : InC F a
      · obtain ⟨i, y, v, h1, h2, h3⟩ := place a hin
        rw [addC_in cells.inj nd h1 h2 h3] at e
        cases e
        obtain ⟨c, hc', u', ru, hcell⟩ := held i y v h2 h3
        rw [h1] at hc'
        cases hc'
        refine ⟨⟨u', ru, hcell⟩, (let ⟨o, ho, _⟩ := hcell; ⟨o, ho⟩), fun h1 h2 ⟨u2, r2, o2, ho2, hd2⟩ k2 => ⟨u2, r2, o2, k2 o2 ho2, hd2⟩⟩
      · rw [addC_out hin] at e
        exact (I3.hok a o e).stay (fun b u _ q => q) (fun b q => by rw [addC_out (outS b _ q)]; exact q) fun b xs q => by
          rw [addC_out (outS b _ q)]
          exact q
end
end L2

set_option maxRecDepth 100000
set_option maxHeartbeats 4000000
/-! what stands though tables of code objects grow -/
namespace W1
open PySem PySem.Spec PyProof.Rows L2 NdefX LamX
/-- H without its tables -/
def noT (H : Hp) : Hp := fun b => match H b with
  | some (.tbl _) => none
  | o => o
def LeN (H H' : Hp) : Prop := Le (noT H) H'
section
variable {K : PySem.W.Frag} {H H1 H' : Hp}
theorem noT_some {a : Addr} {o : HO} (h : noT H a = some o) : H a = some o ∧ ∀ ps, o ≠ .tbl ps := by
  unfold noT at h
  split at h
  · cases h
  · rename_i x hx
    refine ⟨h, fun ps e => ?_⟩
    rw [e] at h
    exact hx ps h
theorem noT_of {a : Addr} {o : HO} (h : H a = some o) (n : ∀ ps, o ≠ .tbl ps) : noT H a = some o := by
  unfold noT
  rw [h]
  cases o with
  | tbl ps => exact absurd rfl (n ps)
  | _ => rfl
theorem noT_none {a : Addr} (h : H a = none) : noT H a = none := by
  unfold noT
  rw [h]
theorem LeN.of (e : Le H H') : LeN H H' := fun a o h => e a o (noT_some h).1
theorem LeN.refl (H : Hp) : LeN H H := LeN.of (Le.refl H)
theorem LeN.extN (e : ExtN H H') : LeN H H' := fun a o h => .inl (e a o (noT_some h).1 (noT_some h).2)
theorem LeN.noT (e : LeN H H') : Le (noT H) (W1.noT H') := fun a o h => by
  rcases e a o h with h1 | h1
  · exact .inl (noT_of h1 (noT_some h).2)
  · obtain ⟨c, p, x, s, n, p', x', s', n', e1, e2, u, v⟩ := h1
    exact .inr ⟨c, p, x, s, n, p', x', s', n', e1, noT_of e2 (fun ps z => HO.noConfusion z), u, v⟩
theorem LeN.trans (a : LeN H H1) (b : LeN H1 H') : LeN H H' := Le.trans (LeN.noT a) b
theorem sqt_noT {a : Addr} {xs : List V} (h : SqT K H a xs) : SqT K (W1.noT H) a xs := by
  rcases h with (h | ⟨o, h⟩) | h
  · exact .inl (.inl (noT_of h fun ps z => HO.noConfusion z))
  · exact .inl (.inr ⟨o, noT_of h fun ps z => HO.noConfusion z⟩)
  · exact .inr h
mutual
theorem Rp.noT {v : V} {d : D} : Rp K H v d → Rp K (W1.noT H) v d
  | .non => .non
  | .bl b => .bl b
  | .int i => .int i
  | .str x => .str x
  | .obj v => .obj v
  | .tup h r => .tup (sqt_noT h) (Rps.noT r)
  | .lst h n r => .lst (noT_of h fun ps z => HO.noConfusion z) n (Rps.noT r)
theorem Rps.noT {vs : List V} {ds : List D} : Rps K H vs ds → Rps K (W1.noT H) vs ds
  | .nil => .nil
  | .cons h r => .cons (Rp.noT h) (Rps.noT r)
end
theorem Rp.leN (e : LeN H H') {v : V} {d : D} (r : Rp K H v d) : Rp K H' v d := Rp.le e (Rp.noT r)
theorem Rps.leN (e : LeN H H') {vs : List V} {ds : List D} (r : Rps K H vs ds) : Rps K H' vs ds := Rps.le e (Rps.noT r)
theorem LeN.ins (e : LeN H H') {a C dx : Addr} {fs : List (Str × V)} (h : H a = some (.ins C dx fs)) : H' a = some (.ins C dx fs) := Le.ins e (noT_of h fun ps z => HO.noConfusion z)
theorem LeN.ext (e : LeN H H') {a : Addr} {φ : Heap → Prop} (h : H a = some (.ext φ)) : H' a = some (.ext φ) := Le.ext e (noT_of h fun ps z => HO.noConfusion z)
theorem LeN.lst (e : LeN H H') {a : Addr} {xs : List V} (h : H a = some (.lst xs)) (n : NotH xs) : H' a = some (.lst xs) := Le.lst e (noT_of h fun ps z => HO.noConfusion z) n
theorem LeN.sqt (e : LeN H H') {a : Addr} {xs : List V} (h : SqT K H a xs) : SqT K H' a xs := Le.sqt e (sqt_noT h)
theorem hand_leN (e : LeN H H') {h : Addr} (a : Hand H h) : Hand H' h := by
  refine Hand.le e ?_
  obtain ⟨c, cells, p, x, s, n, a⟩ := a
  exact ⟨c, cells, p, x, s, n, noT_of a.hand fun ps z => HO.noConfusion z, noT_of a.cell fun ps z => HO.noConfusion z, a.p0, a.x0, a.pos⟩
theorem clo_leN (e : LeN H H') {f : Addr} {F : NF} {fr : List Str} {ws : List V} (C : Clo H f F fr ws) : Clo H' f F fr ws :=
  ⟨e.ext C.fn, e.ext C.code, C.len, C.inj, fun y c h => (C.cel y c h).imp fun v hv => e.ext hv, fun i y v h1 h2 => (C.has i y v h1 h2).imp fun c h => ⟨h.1, e.ext h.2⟩, C.nf, C.only⟩
end
end W1

set_option maxRecDepth 100000
set_option maxHeartbeats 4000000
/-! the maker's promise: a new function, its cells holding what the maker got -/
namespace W1
open PySem PySem.Spec PyProof.Rows L2 NdefX LamX
theorem tabs_add {T : List NTab} {F : NF} {H1 H2 : Hp} (h1 : ∀ b, ¬ InC F b → H2 b = H1 b) (h2 : ∀ b, InC F b → H1 b = none) (t : TabsN T H1) : TabsN T H2 := fun p hp => by
  obtain ⟨ps, t1, t2, t3⟩ := t p hp
  have same : ∀ b o, H1 b = some o → H2 b = some o := fun b o hb => by
    rw [h1 b fun hc => by rw [h2 b hc] at hb; cases hb]
    exact hb
  refine ⟨ps, same _ _ t1, t2, fun pos cv hc => ?_⟩
  obtain ⟨c, e1, e2⟩ := t3 pos cv hc
  exact ⟨c, e1, same _ _ e2⟩
def spMk (T : List NTab) (n : Nat) (st : Stmt) (y q : Str) (fr : List Str) (W : List V → List V) : Sp := fun vs H Q _ => vs.length = n ∧ TabsN T H ∧
  ∀ (g : Addr) (F : NF) (H2 : Hp), F = NF.of st y q F.cl F.c → LeN H H2 → TabsN T H2 → H g = none → (∀ b, InC F b → H b = none) → Clo H2 g F fr (W vs) → Q (.ref g) H2
section
variable {P : Program} {w : World} {K : PySem.W.Frag} {mg : Str → Option Value} {base : Heap}
theorem mk_ok {k i : Nat} {f c PT : Addr} {name qual : Str} {params : Arguments} {scope : Scope} {dV kV doc pm ct oc : Value} {an od : Option Addr} {osl : Array (Option Value)} {N ps fr : List Str} {js : List Nat} {st : Stmt} {y : Str} {p2 pos2 pos : Pos} {T : List NTab} {nm : Nat → Nat → Str} {W : List V → List V}
    (lk : K.lookup f = some ⟨oc, od, .func (PySem.W.fnOf name qual params [st, .Return (some (.Name y p2)) pos2] scope dV kV doc pm an (.ref c) ct), osl⟩) (hcd : PySem.W.codeIn K (.ref c) qual = true) (S : FnScope N ps scope)
    (hst : st = .FunctionDef y (C8.fnArgs st) (C8.fnBody st) [] none [] (C8.fnScope st) none y pos) (TB : TabB base mg c PT) (hm : (PT, nm) ∈ T) (hn : ∀ L, nm pos.line pos.col = (envOfC qual scope L f (.ref c)).qual ++ y) (hu : ∀ p ∈ T, p.1 = PT → p.2 = nm)
    (hfr : ndefB scope (C8.fnScope st) fr = true) (hfr2 : ∀ z ∈ (C8.fnScope st).names, z.2 = .free → z.1 ∈ fr) (hd0 : (C8.fnArgs st).defaults = []) (hk0 : (C8.fnArgs st).kw_defaults = []) (ha : ∀ L, annTrees (C8.fnArgs st) none (envOfC qual scope L f (.ref c)) = [])
    (hNd : N.Nodup) (hNi : N[i]? = some y) (hloc : scope.names.lookup y = some .local) (hd : (y == ("__debug__" : Str)) = false) (hcl : (y == ("__classdict__" : Str)) = false) (nd : fr.Nodup) (hjs : js.map (fun j => N[j]?) = fr.map some)
    (hW : ∀ vs g, vs.length = ps.length → js.map (NdefX.slotAt ((L2.start N vs).set i (some (.ref g)))) = (W vs).map some) (hWl : ∀ vs, vs.length = ps.length → (W vs).length = fr.length) :
    FnOk P w K mg base CX0 (k + 1) f (PySem.W.fnOf name qual params [st, .Return (some (.Name y p2)) pos2] scope dV kV doc pm an (.ref c) ct) ps (spMk T ps.length st y ((envOfC qual scope 0 f (.ref c)).qual ++ y) fr W) := by
  have hiN : i < N.length := (List.getElem?_eq_some_iff.mp hNi).1
  refine maker_of (i := i) (js := js) lk hcd S (fun vs H Q E h => h.1) hNi (.inl hloc) hd hcl nd fun A outer s H vs Q E hr h => ?_
  obtain ⟨hl, hT, q⟩ := h
  refine ⟨_, W vs, ps_ndefMS (X := cxOf CX0 P w K mg base N qual scope f (.ref c) A outer s H E) (T := T) (nm := nm) (i := i) hst TB rfl hm (hn _) hu (ndef_free hfr) hd0 hk0 (ha _) hNd hNi (.inl hloc) (.inl rfl), hWl vs hl, hT, fun g c' H1 eN lost T1 g0 g1 c1 => ?_⟩
  refine ⟨g, NF.of st y ((envOfC qual scope 0 f (.ref c)).qual ++ y) _ c', ?_, g1, c1, fun z a e => ?_, fun ok => Caps.made ok (ndef_free hfr) (ndef_fr hfr) hjs, hW vs g hl, fun H2 h1 h2 C => q g _ H2 rfl (fun a o h => ?_) (tabs_add h1 h2 T1) g0 (fun b hb => lost b (h2 b hb)) C⟩
  · rw [List.getElem?_set_self]
    unfold L2.start
    rw [List.length_append, List.length_map, List.length_replicate]
    omega
  · rcases cloFrom_mem (PySem.mem_of_lookup e) with hm' | ⟨h1, _⟩
    · cases hm'
    · exact hfr2 _ h1 rfl
  · have h3 := eN a o (noT_some h).1 (noT_some h).2
    refine .inl ?_
    rw [h1 a fun hc => by rw [h2 a hc] at h3; cases h3]
    exact h3
end
end W1

set_option maxRecDepth 100000
set_option maxHeartbeats 4000000
/-! slots told in data: what a def's names hold, its own lists among them -/
namespace W1
open PySem PyProof.Rows L2
inductive SD where
  | d (x : D)
  | own (ds : List D)
abbrev DS := List (Option SD)
def Nh (ds : List D) : Prop := ∀ (K : PySem.W.Frag) (H : Hp) (vs : List V), Rps K H vs ds → NotH vs
theorem Uni.nh {ds : List D} (h : Uni ds) : Nh ds := fun _ _ _ r => h.notH r
theorem nh_calm {ds : List D} (h : calmL ds = true) : Nh ds := fun _ _ _ r => calm_notH h r
theorem nh_len {ds : List D} (h : ds.length ≠ 5) : Nh ds := fun _ _ _ r => notH_len (by rw [r.len]; exact h)
def SlV (K : PySem.W.Frag) (G H : Hp) (v : Option V) : Option SD → Prop
  | none => True
  | some (.d x) => ∃ u, v = some u ∧ Rp K G u x
  | some (.own ds) => ∃ a vs, v = some (.ref a) ∧ G a = none ∧ H a = some (.lst vs) ∧ NotH vs ∧ Rps K G vs ds
structure SlG (K : PySem.W.Frag) (G H : Hp) (σ : L2.St) (δ : DS) : Prop where
  len : σ.length = δ.length
  val : ∀ (i : Nat) v s, σ[i]? = some v → δ[i]? = some s → SlV K G H v s
  inj : ∀ (i j : Nat) (a : Addr) ds es, δ[i]? = some (some (.own ds)) → δ[j]? = some (some (.own es)) → σ[i]? = some (some (.ref a)) → σ[j]? = some (some (.ref a)) → i = j
/-- what stands at σ is told by δ; B stands since -/
def Sl (K : PySem.W.Frag) (B H : Hp) (σ : L2.St) (δ : DS) : Prop := ∃ G, Le B G ∧ Le G H ∧ SlG K G H σ δ
/-- and v stands for x, whatever becomes of one's own lists -/
def SlX (K : PySem.W.Frag) (B H : Hp) (σ : L2.St) (δ : DS) (vs : List V) (xs : List D) : Prop := ∃ G, Le B G ∧ Le G H ∧ SlG K G H σ δ ∧ Rps K G vs xs
def noOwn : DS → Bool
  | [] => true
  | some (.own _) :: _ => false
  | _ :: r => noOwn r
section
variable {K : PySem.W.Frag} {B B0 G G' H H' : Hp} {σ : L2.St} {δ : DS}
theorem no_own : ∀ {δ : DS}, noOwn δ = true → ∀ (i : Nat) ds, δ[i]? ≠ some (some (.own ds))
  | [], _, i, ds, e => by simp at e
  | none :: r, h, 0, ds, e => by simp at e
  | none :: r, h, i + 1, ds, e => no_own (δ := r) h i ds (by simpa using e)
  | some (.d x) :: r, h, 0, ds, e => by simp at e
  | some (.d x) :: r, h, i + 1, ds, e => no_own (δ := r) h i ds (by simpa using e)
  | some (.own _) :: r, h, _, _, _ => nomatch h
theorem SlG.slot (S : SlG K G H σ δ) {i : Nat} {s : Option SD} (h : δ[i]? = some s) : ∃ v, σ[i]? = some v ∧ SlV K G H v s := by
  have hi : i < σ.length := by
    rw [S.len]
    exact (List.getElem?_eq_some_iff.mp h).1
  exact ⟨σ[i], List.getElem?_eq_getElem hi, S.val i _ s (List.getElem?_eq_getElem hi) h⟩
theorem SlG.le (e : Le H H') (S : SlG K G H σ δ) : SlG K G H' σ δ := ⟨S.len, fun i v s h1 h2 => by
  have h := S.val i v s h1 h2
  cases s with
  | none => trivial
  | some s =>
    cases s with
    | d x => exact h
    | own ds =>
      obtain ⟨a, vs, h1, h2, h3, h4, h5⟩ := h
      exact ⟨a, vs, h1, h2, e.lst h3 h4, h4, h5⟩, S.inj⟩
theorem Sl.le (e : Le H H') (S : Sl K B H σ δ) : Sl K B H' σ δ := by
  obtain ⟨G, b, g, s⟩ := S
  exact ⟨G, b, g.trans e, s.le e⟩
theorem Sl.bh (S : Sl K B H σ δ) : Le B H := by
  obtain ⟨G, b, g, s⟩ := S
  exact b.trans g
theorem Sl.base (e : Le B0 B) (S : Sl K B H σ δ) : Sl K B0 H σ δ := by
  obtain ⟨G, b, g, s⟩ := S
  exact ⟨G, e.trans b, g, s⟩
theorem SlG.up (g : Le G G') (hn : ∀ (i : Nat) (a : Addr) (ds : List D), δ[i]? = some (some (.own ds)) → σ[i]? = some (some (.ref a)) → G' a = none) (S : SlG K G H σ δ) : SlG K G' H σ δ := ⟨S.len, fun i v s h1 h2 => by
  have h := S.val i v s h1 h2
  cases s with
  | none => trivial
  | some s =>
    cases s with
    | d x =>
      obtain ⟨u, h1, h2⟩ := h
      exact ⟨u, h1, h2.le g⟩
    | own ds =>
      obtain ⟨a, vs, h3, h4, h5, h6, h7⟩ := h
      exact ⟨a, vs, h3, hn i a ds h2 (by rw [h1, h3]), h5, h6, h7.le g⟩, S.inj⟩
theorem SlG.setD {i : Nat} {u : V} {x : D} (r : Rp K G u x) (S : SlG K G H σ δ) : SlG K G H (σ.set i (.some u)) (δ.set i (.some (.d x))) := by
  refine ⟨by rw [List.length_set, List.length_set, S.len], fun j v s h1 h2 => ?_, fun j l a ds es h1 h2 h3 h4 => ?_⟩
  · rw [List.getElem?_set] at h1 h2
    split at h1
    · split at h1
      · rename_i hij hl
        rw [if_pos hij, if_pos (by rw [← S.len]; exact hl)] at h2
        cases h1
        cases h2
        exact ⟨u, rfl, r⟩
      · cases h1
    · rename_i hij
      rw [if_neg hij] at h2
      exact S.val j v s h1 h2
  · rw [List.getElem?_set] at h1 h2 h3 h4
    split at h1
    · split at h1 <;> cases h1
    · rename_i hij
      rw [if_neg hij] at h3
      split at h2
      · split at h2 <;> cases h2
      · rename_i hil
        rw [if_neg hil] at h4
        exact S.inj j l a ds es h1 h2 h3 h4
theorem SlG.setN {i : Nat} {u : Option V} (S : SlG K G H σ δ) : SlG K G H (σ.set i u) (δ.set i none) := by
  refine ⟨by rw [List.length_set, List.length_set, S.len], fun j v s h1 h2 => ?_, fun j l a ds es h1 h2 h3 h4 => ?_⟩
  · rw [List.getElem?_set] at h1 h2
    split at h1
    · split at h1
      · rename_i hij hl
        rw [if_pos hij, if_pos (by rw [← S.len]; exact hl)] at h2
        cases h2
        trivial
      · cases h1
    · rename_i hij
      rw [if_neg hij] at h2
      exact S.val j v s h1 h2
  · rw [List.getElem?_set] at h1 h2 h3 h4
    split at h1
    · split at h1 <;> cases h1
    · rename_i hij
      rw [if_neg hij] at h3
      split at h2
      · split at h2 <;> cases h2
      · rename_i hil
        rw [if_neg hil] at h4
        exact S.inj j l a ds es h1 h2 h3 h4
theorem SlG.setO {i : Nat} {a : Addr} {vs : List V} {ds : List D} (g : G a = none) (h : H a = some (.lst vs)) (nh : NotH vs) (r : Rps K G vs ds) (hf : ∀ (j : Nat) (es : List D), j ≠ i → δ[j]? = some (some (.own es)) → σ[j]? ≠ some (some (.ref a)))
    (S : SlG K G H σ δ) : SlG K G H (σ.set i (.some (.ref a))) (δ.set i (.some (.own ds))) := by
  refine ⟨by rw [List.length_set, List.length_set, S.len], fun j v s h1 h2 => ?_, fun j l b ds' es h1 h2 h3 h4 => ?_⟩
  · rw [List.getElem?_set] at h1 h2
    split at h1
    · split at h1
      · rename_i hij hl
        rw [if_pos hij, if_pos (by rw [← S.len]; exact hl)] at h2
        cases h1
        cases h2
        exact ⟨a, vs, rfl, g, h, nh, r⟩
      · cases h1
    · rename_i hij
      rw [if_neg hij] at h2
      exact S.val j v s h1 h2
  · rw [List.getElem?_set] at h1 h2 h3 h4
    by_cases hj : i = j
    · by_cases hl : i = l
      · rw [← hj, ← hl]
      · rw [if_neg hl] at h2 h4
        rw [if_pos hj] at h3
        split at h3
        · cases h3
          exact absurd h4 (hf l es (fun e => hl e.symm) h2)
        · cases h3
    · rw [if_neg hj] at h1 h3
      by_cases hl : i = l
      · rw [if_pos hl] at h4
        split at h4
        · cases h4
          exact absurd h3 (hf j ds' (fun e => hj e.symm) h1)
        · cases h4
      · rw [if_neg hl] at h2 h4
        exact S.inj j l b ds' es h1 h2 h3 h4
/-- what H has of tuples, and of what G knows -/
def mixH (G H : Hp) : Hp := fun b => match G b with
  | some _ => H b
  | none => match H b with
    | some (.tup xs) => some (.tup xs)
    | some (.frz o u) => some (.frz o u)
    | _ => none
theorem mix_le (g : Le G H) : Le G (mixH G H) := fun a o h => by
  unfold mixH
  rw [h]
  exact g a o h
theorem le_mix : Le (mixH G H) H := fun a o h => by
  unfold mixH at h
  cases hg : G a with
  | some x =>
    rw [hg] at h
    exact .inl h
  | none =>
    rw [hg] at h
    dsimp only at h
    cases hh : H a with
    | none =>
      rw [hh] at h
      cases h
    | some u =>
      rw [hh] at h
      cases u <;> first | (cases h; exact .inl rfl) | cases h
theorem mix_none {a : Addr} {vs : List V} (g : G a = none) (h : H a = some (.lst vs)) : mixH G H a = none := by
  unfold mixH
  rw [g, h]
theorem sqt_mix {a : Addr} {xs : List V} (h : SqT K H a xs) : SqT K (mixH G H) a xs := by
  rcases h with (h | ⟨ob, h⟩) | h
  · refine .inl (.inl ?_)
    unfold mixH
    cases G a with
    | none => rw [h]
    | some u => exact h
  · refine .inl (.inr ⟨ob, ?_⟩)
    unfold mixH
    cases G a with
    | none => rw [h]
    | some u => exact h
  · exact .inr h
mutual
theorem Rp.mix {v : V} {d : D} (n : NoL d) : Rp K H v d → Rp K (mixH G H) v d
  | .non => .non
  | .bl b => .bl b
  | .int i => .int i
  | .str x => .str x
  | .obj v => .obj v
  | .tup h r => .tup (sqt_mix h) (Rps.mix (by cases n with | tup n => exact n) r)
  | .lst h _ r => nomatch n
theorem Rps.mix {vs : List V} {ds : List D} (n : ∀ d ∈ ds, NoL d) : Rps K H vs ds → Rps K (mixH G H) vs ds
  | .nil => .nil
  | .cons h r => .cons (Rp.mix (n _ (List.mem_cons_self ..)) h) (Rps.mix (fun d hd => n d (List.mem_cons_of_mem _ hd)) r)
end
theorem SlG.ownAt (S : SlG K G H σ δ) {i : Nat} {a : Addr} {ds : List D} (h : δ[i]? = some (some (.own ds))) (hs : σ[i]? = some (some (.ref a))) : G a = none ∧ ∃ vs, H a = some (.lst vs) ∧ NotH vs ∧ Rps K G vs ds := by
  obtain ⟨b, vs, h1, h2, h3, h4, h5⟩ := S.val i _ _ hs h
  cases h1
  exact ⟨h2, vs, h3, h4, h5⟩
theorem SlG.upMix (g : Le G H) (S : SlG K G H σ δ) : SlG K (mixH G H) H σ δ := S.up (mix_le g) fun i a ds h hs => by
  obtain ⟨h1, vs, h2, _⟩ := S.ownAt h hs
  exact mix_none h1 h2
theorem SlG.upNo (g : Le G H) (S : SlG K G H σ δ) (h : noOwn δ = true) : SlG K H H σ δ := S.up g fun i a ds hd hs => absurd hd (no_own h i ds)
theorem slx_ok {vs : List V} {xs : List D} (S : Sl K B H σ δ) (r : Rps K H vs xs) (ok : noOwn δ = true ∨ ∀ x ∈ xs, NoL x) : SlX K B H σ δ vs xs := by
  obtain ⟨G, b, g, s⟩ := S
  rcases ok with ok | ok
  · exact ⟨H, b.trans g, Le.refl _, s.upNo g ok, r⟩
  · exact ⟨mixH G H, b.trans (mix_le g), le_mix, s.upMix g, r.mix ok⟩
/-- a new list -/
theorem slx_new {p : Addr} {us : List V} {es : List D} (S : Sl K B H σ δ) (e : Le H H') (hp : H p = none) (h : H' p = some (.lst us)) (nh : NotH us) (r : Rps K H' us es) (ok : noOwn δ = true ∨ ∀ x ∈ es, NoL x) : SlX K B H' σ δ [.ref p] [.lst es] := by
  rcases ok with ok | ok
  · exact slx_ok (S.le e) (.cons (.lst h nh r) .nil) (.inl ok)
  · obtain ⟨G, b, g, s⟩ := S
    have gp := g.fresh hp
    have g' := g.trans e
    have s' := s.le e
    have mp := mix_none (G := G) gp h
    have hne : ∀ {i : Nat} {a : Addr} {ds : List D}, δ[i]? = some (some (.own ds)) → σ[i]? = some (some (.ref a)) → a ≠ p := fun {i a ds} hd hs ea => by
      obtain ⟨_, vs, h2, _⟩ := s.ownAt hd hs
      rw [ea, hp] at h2
      cases h2
    refine ⟨upd (mixH G H') p (.lst us), (b.trans (mix_le g')).trans (Le.new mp), fun a o ha => ?_, (s'.upMix g').up (Le.new mp) fun i a ds hd hs => ?_, .cons (.lst upd_same nh ((r.mix ok).le (Le.new mp))) .nil⟩
    · by_cases hap : a = p
      · subst hap
        rw [upd_same] at ha
        rw [h]
        exact .inl ha
      · rw [upd_ne hap] at ha
        exact le_mix a o ha
    · rw [upd_ne (hne hd hs)]
      obtain ⟨h1, vs, h2, _⟩ := s'.ownAt hd hs
      exact mix_none h1 h2
theorem sl_own {p : Addr} {us : List V} {es : List D} {i : Nat} (S : Sl K B H σ δ) (e : Le H H') (hp : H p = none) (h : H' p = some (.lst us)) (nh : NotH us) (r : Rps K H' us es) (ok : ∀ x ∈ es, NoL x) : Sl K B H' (σ.set i (some (.ref p))) (δ.set i (some (.own es))) := by
  obtain ⟨G, b, g, s⟩ := S
  have gp := g.fresh hp
  have g' := g.trans e
  have s' := s.le e
  have mp := mix_none (G := G) gp h
  refine ⟨mixH G H', b.trans (mix_le g'), le_mix, (s'.upMix g').setO mp h nh (r.mix ok) fun j ds _ hd hs => ?_⟩
  obtain ⟨_, vs, h2, _⟩ := s.ownAt hd hs
  rw [hp] at h2
  cases h2
/-- a list of one's own becomes data -/
theorem Sl.freeze {i : Nat} {ds : List D} (S : Sl K B H σ δ) (h : δ[i]? = some (some (.own ds))) : Sl K B H σ (δ.set i (some (.d (.lst ds)))) := by
  obtain ⟨G, b, g, s⟩ := S
  obtain ⟨v, hs, a, vs, rfl, h1, h2, h3, h4⟩ := s.slot h
  have gn : Le G (upd G a (.lst vs)) := Le.new h1
  refine ⟨upd G a (.lst vs), b.trans gn, fun x o hx => ?_, s.len.trans (by rw [List.length_set]), fun j v s2 q1 q2 => ?_, fun j l x ds' es q1 q2 q3 q4 => ?_⟩
  · by_cases hxa : x = a
    · subst hxa
      rw [upd_same] at hx
      rw [h2]
      exact .inl hx
    · rw [upd_ne hxa] at hx
      exact g x o hx
  · rw [List.getElem?_set] at q2
    by_cases hij : i = j
    · subst hij
      rw [if_pos rfl] at q2
      split at q2
      · cases q2
        rw [hs] at q1
        cases q1
        exact ⟨.ref a, rfl, .lst upd_same h3 (h4.le gn)⟩
      · cases q2
    · rw [if_neg hij] at q2
      have q := s.val j v s2 q1 q2
      cases s2 with
      | none => trivial
      | some s2 =>
        cases s2 with
        | d x =>
          obtain ⟨u, e1, e2⟩ := q
          exact ⟨u, e1, e2.le gn⟩
        | own es =>
          obtain ⟨c, ws, e1, e2, e3, e4, e5⟩ := q
          refine ⟨c, ws, e1, ?_, e3, e4, e5.le gn⟩
          rw [upd_ne fun hc => hij (s.inj i j a ds es h q2 hs (by rw [q1, e1, hc]))]
          exact e2
  · rw [List.getElem?_set] at q1 q2
    split at q1
    · split at q1 <;> cases q1
    · split at q2
      · split at q2 <;> cases q2
      · exact s.inj j l x ds' es q1 q2 q3 q4
/-- a list of one's own changes -/
theorem Sl.mut {i : Nat} {a : Addr} {ds es : List D} {ws : List V} (S : Sl K B H σ δ) (h : δ[i]? = some (some (.own ds))) (hs : σ[i]? = some (some (.ref a))) (nh : NotH ws) (r : Rps K H ws es) (ok : ∀ x ∈ es, NoL x) :
    Sl K B (upd H a (.lst ws)) σ (δ.set i (some (.own es))) := by
  obtain ⟨G, b, g, s⟩ := S
  obtain ⟨h1, vs, h2, h3, h4⟩ := s.ownAt h hs
  have mp := mix_none (G := G) h1 h2
  have sm := s.upMix g
  refine ⟨mixH G H, b.trans (mix_le g), le_mix.mut mp, sm.len.trans (by rw [List.length_set]), fun j v s2 q1 q2 => ?_, fun j l x ds' es' q1 q2 q3 q4 => ?_⟩
  · rw [List.getElem?_set] at q2
    by_cases hij : i = j
    · subst hij
      rw [if_pos rfl] at q2
      split at q2
      · cases q2
        rw [hs] at q1
        cases q1
        exact ⟨a, ws, rfl, mp, upd_same, nh, r.mix ok⟩
      · cases q2
    · rw [if_neg hij] at q2
      have q := sm.val j v s2 q1 q2
      cases s2 with
      | none => trivial
      | some s2 =>
        cases s2 with
        | d x => exact q
        | own es2 =>
          obtain ⟨c, ws2, e1, e2, e3, e4, e5⟩ := q
          refine ⟨c, ws2, e1, e2, ?_, e4, e5⟩
          rw [upd_ne fun hc => hij (s.inj i j a ds es2 h q2 hs (by rw [q1, e1, hc]))]
          exact e3
  · have own_at : ∀ {j : Nat} {ds' : List D}, (δ.set i (some (.own es)))[j]? = some (some (.own ds')) → ∃ ds2, δ[j]? = some (some (.own ds2)) := fun {j ds'} q => by
      rw [List.getElem?_set] at q
      by_cases hij : i = j
      · exact ⟨ds, by rw [← hij]; exact h⟩
      · rw [if_neg hij] at q
        exact ⟨ds', q⟩
    obtain ⟨d1, p1⟩ := own_at q1
    obtain ⟨d2, p2⟩ := own_at q2
    exact s.inj j l x d1 d2 p1 p2 q3 q4
end
end W1

set_option maxRecDepth 100000
set_option maxHeartbeats 4000000
/-! judgements over slots in data -/
namespace W1
open PySem PyProof.Rows L2
section
variable (K : PySem.W.Frag) (B0 : Hp)
def WP (te : TE) (δ : DS) (P : D → Prop) : Prop := ∀ B σ H, Le B0 B → Sl K B H σ δ → EP K te σ H (fun d _ => P d)
abbrev WE (te : TE) (δ : DS) (d : D) : Prop := WP K B0 te δ fun x => x = d
def WA (ta : TA) (δ : DS) (P : List D → Prop) : Prop := ∀ B σ H, Le B0 B → Sl K B H σ δ → EA K ta σ H (fun ds _ => P ds)
abbrev WL (ta : TA) (δ : DS) (ds : List D) : Prop := WA K B0 ta δ fun x => x = ds
def WT (tt : TT) (δ : DS) (P : Bool → Prop) : Prop := ∀ B σ H, Le B0 B → Sl K B H σ δ → ET tt σ H P
abbrev WB (tt : TT) (δ : DS) (b : Bool) : Prop := WT K B0 tt δ fun x => x = b
def WO (to : TO) (δ : DS) (o : Option Int) : Prop := ∀ B σ H, Le B0 B → Sl K B H σ δ → EO to σ H o
def WF (te : TE) (δ : DS) (P : List D → Prop) : Prop := ∀ B σ H, Le B0 B → Sl K B H σ δ → EF K te σ H P
abbrev WFD (te : TE) (δ : DS) (ds : List D) : Prop := WF K B0 te δ fun x => x = ds
/-- something that a name can keep -/
def WV (te : TE) (δ : DS) (P : D → Prop) : Prop := ∀ B σ H, Le B0 B → Sl K B H σ δ → ∀ H1, Le H H1 → ∀ Q : VK, (∀ v x H2, Le H1 H2 → P x → SlX K B H2 σ δ [v] [x] → Q v H2) → te σ H1 Q
structure DK where
  nx : DS → Prop
  rt : D → Prop
  rf : List D → Prop
  ct : DS → Prop := fun _ => False
  bk : DS → Prop := fun _ => False
structure Refs (B : Hp) (k : DK) (D1 : Ends) : Prop where
  nx : ∀ σ H δ, Sl K B H σ δ → k.nx δ → D1.nx σ H
  ct : ∀ σ H δ, Sl K B H σ δ → k.ct δ → D1.ct σ H
  bk : ∀ σ H δ, Sl K B H σ δ → k.bk δ → D1.bk σ H
  rt : ∀ v d H, Le B H → k.rt d → Rp K H v d → D1.rt v H
  rf : ∀ p us es H, B p = none → Le B H → H p = some (.lst us) → NotH us → Rps K H us es → k.rf es → D1.rt (.ref p) H
def WS (ts : TS) (δ : DS) (k : DK) : Prop := ∀ B, Le B0 B → ∀ D1 σ H, Refs K B k D1 → Sl K B H σ δ → ts D1 σ H
def WG (g : TG) (x : D) (δ : DS) (N : DS → Prop) : Prop := ∀ B σ H v, Le B0 B → SlX K B H σ δ [v] [x] → ∀ Q : L2.St → Hp → Prop, (∀ σ' H' δ', Sl K B H' σ' δ' → N δ' → Q σ' H') → g v σ H Q
def WGs (g : TGs) (xs : List D) (δ : DS) (N : DS → Prop) : Prop := ∀ B σ H vs, Le B0 B → SlX K B H σ δ vs xs → ∀ Q : L2.St → Hp → Prop, (∀ σ' H' δ', Sl K B H' σ' δ' → N δ' → Q σ' H') → g vs σ H Q
end
section
variable {K : PySem.W.Frag} {B0 B B' : Hp} {δ : DS} {k : DK} {D1 : Ends} {te ta tb tc : TE} {tt t u : TT} {A : TA} {P P1 P2 : D → Prop} {d d1 d2 : D} {i j : Nat} {tu tw tz : TS} {g g1 g2 : TG} {N : DS → Prop}
theorem Refs.up (e : Le B B') (R : Refs K B k D1) : Refs K B' k D1 := ⟨fun σ H δ S => R.nx σ H δ (S.base e), fun σ H δ S => R.ct σ H δ (S.base e), fun σ H δ S => R.bk σ H δ (S.base e), fun v d H l => R.rt v d H (e.trans l), fun p us es H hp l => R.rf p us es H (e.fresh hp) (e.trans l)⟩
theorem WP.weak (h : WP K B0 te δ P) (w : ∀ d, P d → P1 d) : WP K B0 te δ P1 := fun B σ H e S => (h B σ H e S).weak fun d _ _ p => w d p
theorem WA.weak {P P1 : List D → Prop} (h : WA K B0 A δ P) (w : ∀ d, P d → P1 d) : WA K B0 A δ P1 := fun B σ H e S => EA_weak (h B σ H e S) fun d _ p => w d p
theorem WT.weak {P P1 : Bool → Prop} (h : WT K B0 tt δ P) (w : ∀ d, P d → P1 d) : WT K B0 tt δ P1 := fun B σ H e S => et_weak (h B σ H e S) fun d p => w d p
theorem WP.base (e : Le B0 B) (h : WP K B0 te δ P) : WP K B te δ P := fun B' σ H e' S => h B' σ H (e.trans e') S
theorem w_eq (h : WE K B0 te δ d) (e : d = d1) : WE K B0 te δ d1 := e ▸ h
theorem wb_eq {a b : Bool} (h : WB K B0 tt δ a) (e : a = b) : WB K B0 tt δ b := e ▸ h
/-! statements -/
theorem w_seq (h : WS K B0 tu δ { k with nx := fun δ' => WS K B0 tz δ' k }) : WS K B0 (tSeq tu tz) δ k := fun B e D1 σ H R S => h B e { D1 with nx := tz D1 } σ H ⟨fun σ' H' δ' S' w => w B e D1 σ' H' R S', R.ct, R.bk, R.rt, R.rf⟩ S
theorem WS.nx {M : DS → Prop} (h : WS K B0 tu δ { k with nx := M }) (w : ∀ δ', M δ' → k.nx δ') : WS K B0 tu δ k := fun B e D1 σ H R S => h B e D1 σ H ⟨fun σ' H' δ' S' m => R.nx σ' H' δ' S' (w δ' m), R.ct, R.bk, R.rt, R.rf⟩ S
theorem wq_cut (M : DS → Prop) (h : WS K B0 tu δ { k with nx := M }) (w : ∀ δ', M δ' → WS K B0 tz δ' k) : WS K B0 (tSeq tu tz) δ k := w_seq (WS.nx (k := { k with nx := fun δ' => WS K B0 tz δ' k }) (M := M) h w)
theorem wq_cutC (M : DS → Prop) (h : WS K B0 tu δ { k with nx := M }) (w : ∀ δ', M δ' → WS K B0 tz δ' k) : WS K B0 (Evl.tCut tu tz) δ k := fun B e D1 σ H R S => ⟨fun σ' H' => ∃ δ', M δ' ∧ Sl K B H' σ' δ', h B e _ σ H ⟨fun σ' H' δ' S' m => ⟨δ', m, S'⟩, R.ct, R.bk, R.rt, R.rf⟩ S, fun σ' H' ⟨δ', m, S'⟩ => w δ' m B e D1 σ' H' R S'⟩
theorem w_freeze {ds : List D} (i : Nat) (h : δ[i]? = some (some (.own ds))) (w : WS K B0 tu (δ.set i (some (.d (.lst ds)))) k) : WS K B0 tu δ k := fun B e D1 σ H R S => w B e D1 σ H R (S.freeze h)
theorem w_asg (h : WV K B0 te δ P) (n : ∀ x, P x → k.nx (δ.set i (some (.d x)))) : WS K B0 (tAsg te (gName i)) δ k := fun B e D1 σ H R S => h B σ H e S H (Le.refl _) _ fun v x H2 e2 p sx => by
  obtain ⟨G, b, g, s, r⟩ := sx
  cases r with
  | cons r _ => exact R.nx _ _ _ ⟨G, b, g, s.setD r⟩ (n x p)
theorem wq_asg (h : WV K B0 te δ P) (n : ∀ x, P x → WS K B0 tz (δ.set i (some (.d x))) k) : WS K B0 (tSeq (tAsg te (gName i)) tz) δ k := w_seq (w_asg h n)
theorem w_asgE (h : WV K B0 te δ fun x => x = d) (n : k.nx (δ.set i (some (.d d)))) : WS K B0 (tAsg te (gName i)) δ k := w_asg h fun x e => by rw [e]; exact n
theorem wq_asgE (h : WV K B0 te δ fun x => x = d) (n : WS K B0 tz (δ.set i (some (.d d))) k) : WS K B0 (tSeq (tAsg te (gName i)) tz) δ k := w_seq (w_asgE h n)
theorem w_asgO {PL : List D → Prop} (h : WF K B0 te δ PL) (ok : ∀ xs, PL xs → ∀ x ∈ xs, NoL x) (n : ∀ xs, PL xs → k.nx (δ.set i (some (.own xs)))) : WS K B0 (tAsg te (gName i)) δ k := fun B e D1 σ H R S => h B σ H e S H (Le.refl _) _ fun p us es H2 hp e2 h2 nh r pl => R.nx _ _ _ (sl_own S e2 hp h2 nh r (ok es pl)) (n es pl)
theorem wq_asgO {PL : List D → Prop} (h : WF K B0 te δ PL) (ok : ∀ xs, PL xs → ∀ x ∈ xs, NoL x) (n : ∀ xs, PL xs → WS K B0 tz (δ.set i (some (.own xs))) k) : WS K B0 (tSeq (tAsg te (gName i)) tz) δ k := w_seq (w_asgO h ok n)
theorem w_asgOE {ds : List D} (h : WFD K B0 te δ ds) (ok : ∀ x ∈ ds, NoL x) (n : k.nx (δ.set i (some (.own ds)))) : WS K B0 (tAsg te (gName i)) δ k := w_asgO h (fun xs e => by rw [e]; exact ok) fun xs e => by rw [e]; exact n
theorem wq_asgOE {ds : List D} (h : WFD K B0 te δ ds) (ok : ∀ x ∈ ds, NoL x) (n : WS K B0 tz (δ.set i (some (.own ds))) k) : WS K B0 (tSeq (tAsg te (gName i)) tz) δ k := w_seq (w_asgOE h ok n)
theorem w_nil : NoL (.non) := .non
/-! what names can keep -/
theorem wv_ok (h : WP K B0 te δ P) (ok : noOwn δ = true ∨ ∀ x, P x → NoL x) : WV K B0 te δ P := fun B σ H e S H1 e1 Q q => h B σ H e S H1 e1 Q fun v x H2 e2 p r => q v x H2 e2 p (slx_ok (S.le (e1.trans e2)) (.cons r .nil) (ok.imp id fun ok y hy => by rw [List.mem_singleton.mp hy]; exact ok x p))
theorem wv_var {x : D} (h : δ[i]? = some (some (.d x)) := by rfl) : WV K B0 (tVar i) δ fun y => y = x := fun B σ H e S H1 e1 Q q => by
  obtain ⟨G, b, g, s⟩ := S
  obtain ⟨v, hs, u, rfl, r⟩ := s.slot h
  exact ⟨u, hs, q u x H1 (Le.refl _) rfl ⟨G, b, g.trans e1, s.le e1, .cons r .nil⟩⟩
theorem wv_f {PL : List D → Prop} (h : WF K B0 te δ PL) (ok : noOwn δ = true ∨ ∀ xs, PL xs → ∀ x ∈ xs, NoL x) : WV K B0 te δ fun x => ∃ xs, x = .lst xs ∧ PL xs := fun B σ H e S H1 e1 Q q => h B σ H e S H1 e1 Q fun p us es H2 hp e2 h2 nh r pl => q _ _ H2 e2 ⟨es, rfl, pl⟩ (slx_new (S.le e1) e2 hp h2 nh r (ok.imp id fun ok => ok es pl))
theorem WV.weak (h : WV K B0 te δ P) (w : ∀ x, P x → P1 x) : WV K B0 te δ P1 := fun B σ H e S H1 e1 Q q => h B σ H e S H1 e1 Q fun v x H2 e2 p s => q v x H2 e2 (w x p) s
theorem wv_fE {ds : List D} (h : WFD K B0 te δ ds) (ok : noOwn δ = true ∨ ∀ x ∈ ds, NoL x) : WV K B0 te δ fun x => x = .lst ds := (wv_f h (ok.imp id fun ok xs e => by rw [e]; exact ok)).weak fun x ⟨xs, e, pl⟩ => by rw [e, pl]
theorem WF.wp {PL : List D → Prop} (h : WF K B0 te δ PL) : WP K B0 te δ fun x => ∃ xs, x = .lst xs ∧ PL xs := fun B σ H e S => (h B σ H e S).ep
theorem WFD.we {ds : List D} (h : WFD K B0 te δ ds) : WE K B0 te δ (.lst ds) := fun B σ H e S => EFD.ed (h B σ H e S)
/-! if, return, ends -/
theorem w_if {P : Bool → Prop} (h : WT K B0 t δ P) (h1 : P true → WS K B0 tu δ k) (h2 : P false → WS K B0 tw δ k) : WS K B0 (tIfS t tu tw) δ k := fun B e D1 σ H R S => s_if (h B σ H e S) (fun p H1 e1 => h1 p B e D1 σ H1 R (S.le e1)) fun p H1 e1 => h2 p B e D1 σ H1 R (S.le e1)
theorem w_ifB {b : Bool} (h : WB K B0 t δ b) (h1 : b = true → WS K B0 tu δ k) (h2 : b = false → WS K B0 tw δ k) : WS K B0 (tIfS t tu tw) δ k := w_if h (fun p => h1 p.symm) fun p => h2 p.symm
theorem wq_ifB {b : Bool} (h : WB K B0 t δ b) (h1 : b = true → WS K B0 tu δ { k with nx := fun δ' => WS K B0 tz δ' k }) (h2 : b = false → WS K B0 tw δ { k with nx := fun δ' => WS K B0 tz δ' k }) : WS K B0 (tSeq (tIfS t tu tw) tz) δ k := w_seq (w_ifB h h1 h2)
theorem wq_if {P : Bool → Prop} (h : WT K B0 t δ P) (h1 : P true → WS K B0 tu δ { k with nx := fun δ' => WS K B0 tz δ' k }) (h2 : P false → WS K B0 tw δ { k with nx := fun δ' => WS K B0 tz δ' k }) : WS K B0 (tSeq (tIfS t tu tw) tz) δ k := w_seq (w_if h h1 h2)
theorem w_next (n : k.nx δ) : WS K B0 tNext δ k := fun B e D1 σ H R S => R.nx σ H δ S n
theorem w_ct (n : k.ct δ) : WS K B0 tCont δ k := fun B e D1 σ H R S => R.ct σ H δ S n
theorem w_bk (n : k.bk δ) : WS K B0 tBreak δ k := fun B e D1 σ H R S => R.bk σ H δ S n
theorem wq_whenB {b : Bool} (h : WB K B0 t δ b) (h1 : b = true → WS K B0 tu δ { k with nx := fun δ' => WS K B0 tz δ' k }) (h2 : b = false → WS K B0 tz δ k) : WS K B0 (tSeq (tIfS t tu tNext) tz) δ k := wq_ifB h h1 fun e => w_next (h2 e)
theorem wq_when {P : Bool → Prop} (h : WT K B0 t δ P) (h1 : P true → WS K B0 tu δ { k with nx := fun δ' => WS K B0 tz δ' k }) (h2 : P false → WS K B0 tz δ k) : WS K B0 (tSeq (tIfS t tu tNext) tz) δ k := wq_if h h1 fun e => w_next (h2 e)
theorem w_ret (h : WP K B0 te δ P) (n : ∀ x, P x → k.rt x) : WS K B0 (tRet te) δ k := fun B e D1 σ H R S => s_ret (h B σ H e S) fun v d H1 e1 p r => R.rt v d H1 (S.bh.trans e1) (n d p) r
theorem w_retE (h : WE K B0 te δ d) (n : k.rt d) : WS K B0 (tRet te) δ k := w_ret h fun x e => by rw [e]; exact n
theorem w_retF {PL : List D → Prop} (h : WF K B0 te δ PL) (n : ∀ xs, PL xs → k.rf xs) : WS K B0 (tRet te) δ k := fun B e D1 σ H R S => s_retF (h B σ H e S) fun p us ds H1 hp e1 h1 nh r pl => R.rf p us ds H1 (S.bh.fresh hp) (S.bh.trans e1) h1 nh r (n ds pl)
theorem w_retFE {ds : List D} (h : WFD K B0 te δ ds) (n : k.rf ds) : WS K B0 (tRet te) δ k := w_retF h fun x e => by rw [e]; exact n
theorem w_retO {ds : List D} (h : δ[i]? = some (some (.own ds))) (n : k.rf ds) : WS K B0 (tRet (tVar i)) δ k := fun B e D1 σ H R S => by
  obtain ⟨G, b, g, s⟩ := S
  obtain ⟨v, hs, a, vs, rfl, h1, h2, h3, h4⟩ := s.slot h
  exact ⟨.ref a, hs, R.rf a vs ds H (b.fresh h1) (b.trans g) h2 h3 (h4.le g) n⟩
theorem w_retN (n : k.rt .non) : WS K B0 tRetN δ k := fun B e D1 σ H R S => R.rt .non .non H S.bh n .non
theorem w_drop (h : WP K B0 te δ P) (n : k.nx δ) : WS K B0 (tDrop te) δ k := fun B e D1 σ H R S => s_drop (h B σ H e S) fun H1 e1 => R.nx σ H1 δ (S.le e1) n
/-! targets -/
theorem wg_name {x : D} (n : N (δ.set i (some (.d x)))) : WG K B0 (gName i) x δ N := fun B σ H v e sx Q q => by
  obtain ⟨G, b, g, s, r⟩ := sx
  cases r with
  | cons r _ => exact q _ _ _ ⟨G, b, g, s.setD r⟩ n
theorem wgs_nil (n : N δ) : WGs K B0 gNil [] δ N := fun B σ H vs e sx Q q => by
  obtain ⟨G, b, g, s, r⟩ := sx
  cases r
  exact ⟨rfl, q _ _ _ ⟨G, b, g, s⟩ n⟩
theorem wgs_cons {gs : TGs} {x : D} {xs : List D} (h : WG K B0 g x δ fun δ1 => WGs K B0 gs xs δ1 N) : WGs K B0 (gCons g gs) (x :: xs) δ N := fun B σ H vs e sx Q q => by
  obtain ⟨G, b, gh, s, r⟩ := sx
  cases r with
  | @cons v vs _ _ r rr =>
    refine ⟨v, vs, rfl, h G σ H v (e.trans b) ⟨G, Le.refl _, gh, s, .cons r .nil⟩ _ fun σ' H' δ' S' w => ?_⟩
    obtain ⟨G2, b2, g2, s2⟩ := S'
    exact w G σ' H' vs (e.trans b) ⟨G2, b2, g2, s2, rr.le b2⟩ Q fun σ2 H2 δ2 S2 n => q σ2 H2 δ2 (S2.base b) n
theorem wg_tup {n : Nat} {gs : TGs} {xs : List D} (hn : xs.length = n) (h : WGs K B0 gs xs δ N) : WG K B0 (gTup K n gs) (.tup xs) δ N := fun B σ H v e sx Q q => by
  obtain ⟨G, b, gh, s, r⟩ := sx
  cases r with
  | cons r _ =>
    obtain ⟨a, us, rfl, st, rr⟩ := rp_tup r
    exact ⟨a, us, rfl, gh.sqt st, by rw [rr.len, hn], h B σ H us e ⟨G, b, gh, s, rr⟩ Q q⟩
theorem wg_2 {x y : D} (n : N ((δ.set i (some (.d x))).set j (some (.d y)))) : WG K B0 (gTup K 2 (gCons (gName i) (gCons (gName j) gNil))) (.tup [x, y]) δ N := wg_tup rfl (wgs_cons (wg_name (wgs_cons (wg_name (wgs_nil n)))))
theorem wg_3 {l : Nat} {x y z : D} (n : N (((δ.set i (some (.d x))).set j (some (.d y))).set l (some (.d z)))) : WG K B0 (gTup K 3 (gCons (gName i) (gCons (gName j) (gCons (gName l) gNil)))) (.tup [x, y, z]) δ N := wg_tup rfl (wgs_cons (wg_name (wgs_cons (wg_name (wgs_cons (wg_name (wgs_nil n)))))))
theorem w_asgG (h : WV K B0 te δ P) (n : ∀ x, P x → WG K B0 g x δ k.nx) : WS K B0 (tAsg te g) δ k := fun B e D1 σ H R S => h B σ H e S H (Le.refl _) _ fun v x H2 e2 p sx => n x p B σ H2 v e sx _ fun σ' H' δ' S' w => R.nx σ' H' δ' S' w
theorem wq_asgG (h : WV K B0 te δ P) (n : ∀ x, P x → WG K B0 g x δ fun δ' => WS K B0 tz δ' k) : WS K B0 (tSeq (tAsg te g) tz) δ k := w_seq (w_asgG h n)
theorem w_par {PA : List D → Prop} (h : WA K B0 A δ PA) (ok : noOwn δ = true ∨ ∀ xs, PA xs → ∀ x ∈ xs, NoL x) (n : ∀ ds, PA ds → ∃ x y, ds = [x, y] ∧ k.nx ((δ.set i (some (.d x))).set j (some (.d y)))) : WS K B0 (tPar i j A) δ k := fun B e D1 σ H R S => h B σ H e S H (Le.refl _) _ fun vs ds H1 e1 p r => by
  obtain ⟨x, y, rfl, n⟩ := n ds p
  obtain ⟨G, b, g, s, r⟩ := slx_ok (S.le e1) r (ok.imp id fun ok => ok _ p)
  cases r with
  | cons r1 r =>
    cases r with
    | cons r2 r =>
      cases r
      exact ⟨_, _, rfl, R.nx _ _ _ ⟨G, b, g, (s.setD r1).setD r2⟩ n⟩
theorem wq_par {PA : List D → Prop} (h : WA K B0 A δ PA) (ok : noOwn δ = true ∨ ∀ xs, PA xs → ∀ x ∈ xs, NoL x) (n : ∀ ds, PA ds → ∃ x y, ds = [x, y] ∧ WS K B0 tz ((δ.set i (some (.d x))).set j (some (.d y))) k) : WS K B0 (tSeq (tPar i j A) tz) δ k := w_seq (w_par h ok n)
/-! loops -/
abbrev DK.loop (k : DK) (I : DS → Prop) : DK := { k with nx := I, ct := I, bk := k.nx }
theorem refs_loop {G : Hp} {I : Nat → DS → Prop} {m : Nat} (b : Le B G) (R : Refs K B k D1) : Refs K G (k.loop (I m)) { D1 with nx := fun σ' H' => ∃ δ', I m δ' ∧ Sl K G H' σ' δ', ct := fun σ' H' => ∃ δ', I m δ' ∧ Sl K G H' σ' δ', bk := D1.nx } :=
  ⟨fun σ H δ S w => ⟨δ, w, S⟩, fun σ H δ S w => ⟨δ, w, S⟩, fun σ H δ S w => R.nx σ H δ (S.base b) w, fun v d H l => R.rt v d H (b.trans l), fun p us es H hp l => R.rf p us es H (b.fresh hp) (b.trans l)⟩
theorem w_forT {xs : List D} (h : WV K B0 te δ fun d => d = .tup xs) (I : Nat → DS → Prop) (h0 : I 0 δ) (hs : ∀ i x δ', xs[i]? = some x → I i δ' → WG K B0 g x δ' fun δ2 => WS K B0 tu δ2 (k.loop (I (i + 1)))) (hd : ∀ δ', I xs.length δ' → k.nx δ') :
    WS K B0 (tFor (iTup K te) g tu) δ k := fun B e D1 σ H R S => h B σ H e S H (Le.refl _) _ fun v x H1 e1 p sx => by
  have p' : x = .tup xs := p
  subst p'
  obtain ⟨G, b, gh, s, r⟩ := sx
  cases r with
  | cons r _ =>
    obtain ⟨a, us, rfl, st, rr⟩ := rp_tup r
    refine ⟨a, rfl, ⟨us, gh.sqt st⟩, for_it (walk_tup (xs := us)) (fun i σ' H' => ∃ δ', I i δ' ∧ Sl K G H' σ' δ') ⟨δ, h0, G, Le.refl _, gh, s⟩ (fun i σ' H' hi ⟨δ', _, S'⟩ => S'.bh.sqt st) ?_ (fun σ' H' ⟨δ', hI, S'⟩ => R.nx σ' H' δ' (S'.base b) (hd δ' (by rw [← rr.len]; exact hI)))⟩
    rintro i x σ' H' _ hi ⟨δ', hI, G2, b2, g2, s2⟩ ⟨rfl, hx⟩
    obtain ⟨d, h1, h2⟩ := rr.at' hx
    exact hs i d δ' h1 hI G σ' _ x (e.trans b) ⟨G2, b2, g2, s2, .cons (h2.le b2) .nil⟩ _ fun σ2 H2 δ2 S2 w => w G (e.trans b) _ σ2 H2 (refs_loop b R) S2
theorem w_forL {xs : List D} (h : WV K B0 te δ fun d => d = .lst xs) (I : Nat → DS → Prop) (h0 : I 0 δ) (hs : ∀ i x δ', xs[i]? = some x → I i δ' → WG K B0 g x δ' fun δ2 => WS K B0 tu δ2 (k.loop (I (i + 1)))) (hd : ∀ δ', I xs.length δ' → k.nx δ') :
    WS K B0 (tFor (iList K te) g tu) δ k := fun B e D1 σ H R S => h B σ H e S H (Le.refl _) _ fun v x H1 e1 p sx => by
  have p' : x = .lst xs := p
  subst p'
  obtain ⟨G, b, gh, s, r⟩ := sx
  cases r with
  | cons r _ =>
    obtain ⟨a, us, rfl, st, nh, rr⟩ := rp_lst r
    refine ⟨a, rfl, ⟨us, SqL.of (gh.lst st nh)⟩, for_it (walk_list (xs := us)) (fun i σ' H' => ∃ δ', I i δ' ∧ Sl K G H' σ' δ') ⟨δ, h0, G, Le.refl _, gh, s⟩ (fun i σ' H' hi ⟨δ', _, S'⟩ => SqL.of (S'.bh.lst st nh)) ?_ (fun σ' H' ⟨δ', hI, S'⟩ => R.nx σ' H' δ' (S'.base b) (hd δ' (by rw [← rr.len]; exact hI)))⟩
    rintro i x σ' H' _ hi ⟨δ', hI, G2, b2, g2, s2⟩ ⟨rfl, hx⟩
    obtain ⟨d, h1, h2⟩ := rr.at' hx
    exact hs i d δ' h1 hI G σ' _ x (e.trans b) ⟨G2, b2, g2, s2, .cons (h2.le b2) .nil⟩ _ fun σ2 H2 δ2 S2 w => w G (e.trans b) _ σ2 H2 (refs_loop b R) S2
/-- of a list that is known by what holds of it -/
theorem w_forLP {PL : List D → Prop} (h : WV K B0 te δ fun d => ∃ xs, d = .lst xs ∧ PL xs) (n : ∀ xs, PL xs → ∃ I : Nat → DS → Prop, I 0 δ ∧ (∀ i x δ', xs[i]? = some x → I i δ' → WG K B0 g x δ' fun δ2 => WS K B0 tu δ2 (k.loop (I (i + 1)))) ∧ ∀ δ', I xs.length δ' → k.nx δ') :
    WS K B0 (tFor (iList K te) g tu) δ k := fun B e D1 σ H R S => h B σ H e S H (Le.refl _) _ fun v x H1 e1 p sx => by
  obtain ⟨xs, rfl, pl⟩ := p
  obtain ⟨I, h0, hs, hd⟩ := n xs pl
  obtain ⟨G, b, gh, s, r⟩ := sx
  cases r with
  | cons r _ =>
    obtain ⟨a, us, rfl, st, nh, rr⟩ := rp_lst r
    refine ⟨a, rfl, ⟨us, SqL.of (gh.lst st nh)⟩, for_it (walk_list (xs := us)) (fun i σ' H' => ∃ δ', I i δ' ∧ Sl K G H' σ' δ') ⟨δ, h0, G, Le.refl _, gh, s⟩ (fun i σ' H' hi ⟨δ', _, S'⟩ => SqL.of (S'.bh.lst st nh)) ?_ (fun σ' H' ⟨δ', hI, S'⟩ => R.nx σ' H' δ' (S'.base b) (hd δ' (by rw [← rr.len]; exact hI)))⟩
    rintro i x σ' H' _ hi ⟨δ', hI, G2, b2, g2, s2⟩ ⟨rfl, hx⟩
    obtain ⟨d, h1, h2⟩ := rr.at' hx
    exact hs i d δ' h1 hI G σ' _ x (e.trans b) ⟨G2, b2, g2, s2, .cons (h2.le b2) .nil⟩ _ fun σ2 H2 δ2 S2 w => w G (e.trans b) _ σ2 H2 (refs_loop b R) S2
theorem w_forR {n : Int} (h : WL K B0 A δ [.int n]) (hn : -100000 ≤ n ∧ n ≤ 100000) (I : Nat → DS → Prop) (h0 : I 0 δ) (hs : ∀ (i : Nat) δ', (i : Int) < n → I i δ' → WG K B0 g (.int (i : Int)) δ' fun δ2 => WS K B0 tu δ2 (k.loop (I (i + 1)))) (hd : ∀ δ', I n.toNat δ' → k.nx δ') :
    WS K B0 (tFor (iRng1 A) g tu) δ k := fun B e D1 σ H R S => s_forR1 (K := K) (h B σ H e S) hn fun H1 e1 => ⟨fun i σ' H' => ∃ δ', I i δ' ∧ Sl K B H' σ' δ', ⟨δ, h0, S.le e1⟩, fun i σ' H' hi ⟨δ', hI, G2, b2, g2, s2⟩ => hs i δ' hi hI B σ' H' _ e ⟨G2, b2, g2, s2, .cons (.int _) .nil⟩ _ fun σ2 H2 δ2 S2 w => w B e _ σ2 H2 (refs_loop (Le.refl _) R) S2, fun σ' H' ⟨δ', hI, S'⟩ => R.nx σ' H' δ' S' (hd δ' hI)⟩
theorem w_forR2 {lo n : Int} (h : WL K B0 A δ [.int lo, .int n]) (hn : -100000 ≤ lo ∧ lo ≤ 100000 ∧ -100000 ≤ n ∧ n ≤ 100000) (I : Nat → DS → Prop) (h0 : I 0 δ) (hs : ∀ (i : Nat) δ', lo + (i : Int) < n → I i δ' → WG K B0 g (.int (lo + (i : Int))) δ' fun δ2 => WS K B0 tu δ2 (k.loop (I (i + 1)))) (hd : ∀ δ', I (n - lo).toNat δ' → k.nx δ') :
    WS K B0 (tFor (iRng2 A) g tu) δ k := fun B e D1 σ H R S => s_forR2 (K := K) (h B σ H e S) hn fun H1 e1 => ⟨fun i σ' H' => ∃ δ', I i δ' ∧ Sl K B H' σ' δ', ⟨δ, h0, S.le e1⟩, fun i σ' H' hi ⟨δ', hI, G2, b2, g2, s2⟩ => hs i δ' hi hI B σ' H' _ e ⟨G2, b2, g2, s2, .cons (.int _) .nil⟩ _ fun σ2 H2 δ2 S2 w => w B e _ σ2 H2 (refs_loop (Le.refl _) R) S2, fun σ' H' ⟨δ', hI, S'⟩ => R.nx σ' H' δ' S' (hd δ' hI)⟩
theorem w_while (I : Nat → DS → Prop) (m0 : Nat) (h0 : I m0 δ) (hs : ∀ m δ', I m δ' → ∃ b, WB K B0 t δ' b ∧ (b = true → WS K B0 tu δ' (k.loop fun δ2 => ∃ m', m' < m ∧ I m' δ2)) ∧ (b = false → k.nx δ')) : WS K B0 (tWhile t tu) δ k := fun B e D1 σ H R S =>
  ⟨fun m σ' H' => ∃ δ', I m δ' ∧ Sl K B H' σ' δ', ⟨m0, δ, h0, S⟩, fun m σ' H' ⟨δ', hI, S'⟩ => by
    obtain ⟨b, h1, h2, h3⟩ := hs m δ' hI
    refine h1 B σ' H' e S' H' (Le.refl _) _ fun x H2 e2 p => ?_
    subst p
    cases x with
    | true =>
      refine ⟨fun σ2 H3 => ∃ δ2, (∃ m', m' < m ∧ I m' δ2) ∧ Sl K B H3 σ2 δ2, fun σ2 H3 ⟨δ2, ⟨m', hm, hI2⟩, S2⟩ => ⟨m', hm, δ2, hI2, S2⟩, ?_⟩
      exact h2 rfl B e _ σ' H2 ⟨fun σ H δ S w => ⟨δ, w, S⟩, fun σ H δ S w => ⟨δ, w, S⟩, fun σ H δ S w => R.nx σ H δ S w, R.rt, R.rf⟩ (S'.le e2)
    | false => exact R.nx σ' H2 δ' (S'.le e2) (h3 rfl)⟩
/-! changes of one's own lists -/
theorem w_app {ds : List D} (h : δ[i]? = some (some (.own ds))) (he : WP K B0 te δ P) (ok : ∀ x, P x → NoL x) (ho : ∀ x ∈ ds, NoL x) (nh : ∀ x, P x → Nh (ds ++ [x])) (hz : ds.length < 100000) (n : ∀ x, P x → k.nx (δ.set i (some (.own (ds ++ [x]))))) :
    WS K B0 (tDrop (tBM K "list" rAppend (tVar i) (tCons te tNil))) δ k := fun B e D1 σ H R S => by
  have S0 := S
  obtain ⟨G, b, g, s⟩ := S
  obtain ⟨v, hs, a, vs, rfl, h1, h2, h3, h4⟩ := s.slot h
  refine s_app (K := K) h2 h3 (ed_var hs (.obj _)) (fun H1 e1 => he B σ H1 e (S0.le e1)) (by rw [h4.len]; exact hz) fun y d H1 e1 p r ha => ?_
  have rr : Rps K H1 (vs ++ [y]) (ds ++ [d]) := (h4.le (g.trans e1)).app (.cons r .nil)
  exact R.nx _ _ _ ((S0.le e1).mut h hs (nh d p K H1 _ rr) rr fun x hx => by
    rcases List.mem_append.mp hx with hx | hx
    · exact ho x hx
    · rw [List.mem_singleton.mp hx]
      exact ok d p) (n d p)
theorem w_ext {ds es : List D} (h : δ[i]? = some (some (.own ds))) (he : WE K B0 te δ (.lst es)) (ok : ∀ x ∈ es, NoL x) (ho : ∀ x ∈ ds, NoL x) (nh : Nh (ds ++ es)) (hz : ds.length + es.length ≤ 100000) (n : k.nx (δ.set i (some (.own (ds ++ es))))) :
    WS K B0 (tDrop (tBM K "list" rExtend (tVar i) (tCons te tNil))) δ k := fun B e D1 σ H R S => by
  have S0 := S
  obtain ⟨G, b, g, s⟩ := S
  obtain ⟨v, hs, a, vs, rfl, h1, h2, h3, h4⟩ := s.slot h
  refine s_ext (K := K) h2 h3 (ed_var hs (.obj _)) (fun H1 e1 => he B σ H1 e (S0.le e1)) (by rw [h4.len]; exact hz) fun ws H1 e1 r ha => ?_
  have rr : Rps K H1 (vs ++ ws) (ds ++ es) := (h4.le (g.trans e1)).app r
  exact R.nx _ _ _ ((S0.le e1).mut h hs (nh K H1 _ rr) rr fun x hx => by
    rcases List.mem_append.mp hx with hx | hx
    · exact ho x hx
    · exact ok x hx) n
theorem w_setL {ds : List D} {z : Int} (h : δ[i]? = some (some (.own ds))) (he : WP K B0 te δ P) (hi : WE K B0 tb δ (.int z)) (h0 : 0 ≤ z) (h1 : z < ds.length) (ok : ∀ x, P x → NoL x) (ho : ∀ x ∈ ds, NoL x) (nh : ∀ x, P x → Nh (ds.set z.toNat x))
    (n : ∀ x, P x → k.nx (δ.set i (some (.own (ds.set z.toNat x))))) : WS K B0 (tAsg te (gSub (tVar i) tb rSetL)) δ k := fun B e D1 σ H R S => by
  have S0 := S
  obtain ⟨G, b, g, s⟩ := S
  obtain ⟨v, hs, a, vs, rfl, q1, q2, q3, q4⟩ := s.slot h
  refine s_set (K := K) q2 q3 q4.len (he B σ H e S0) (fun H1 e1 => ed_var hs (.obj _)) (fun H1 e1 => hi B σ H1 e (S0.le e1)) h0 h1 fun y d H1 H3 e1 p e3 r ha => ?_
  have rr : Rps K H3 (vs.set z.toNat y) (ds.set z.toNat d) := (q4.le (g.trans (e1.trans e3))).set _ r
  refine R.nx _ _ _ ((S0.le (e1.trans e3)).mut h hs (nh d p K H3 _ rr) rr fun x hx => ?_) (n d p)
  rcases List.mem_or_eq_of_mem_set hx with hx | hx
  · exact ho x hx
  · rw [hx]
    exact ok d p
end
/-! defs -/
def startD : Nat → List D → DS
  | 0, _ => []
  | n + 1, [] => none :: startD n []
  | n + 1, d :: ds => some (.d d) :: startD n ds
theorem sl_start {K : PySem.W.Frag} {H : Hp} : ∀ {n : Nat} {vs : List V} {ds : List D}, Rps K H vs ds → vs.length ≤ n → SlG K H H (vs.map some ++ List.replicate (n - vs.length) none) (startD n ds) ∧ noOwn (startD n ds) = true
  | 0, [], _, .nil, _ => ⟨⟨rfl, fun i v s h => by simp at h, fun i j a ds es h => by simp [startD] at h⟩, rfl⟩
  | n + 1, [], _, .nil, _ => by
    have ih := sl_start (K := K) (H := H) (n := n) (vs := []) (ds := []) .nil (Nat.zero_le _)
    refine ⟨⟨?_, fun i v s h1 h2 => ?_, fun i j a ds es h1 => ?_⟩, ih.2⟩
    · have := ih.1.len
      simp [startD] at this ⊢
      exact this
    · cases i with
      | zero =>
        simp [startD] at h2
        subst h2
        trivial
      | succ i =>
        refine ih.1.val i v s ?_ ?_
        · simp [List.replicate_succ] at h1 ⊢
          exact h1
        · simpa [startD] using h2
    · exact absurd h1 (no_own (show noOwn (startD (n + 1) []) = true from ih.2) i ds)
  | n + 1, v :: vs, d :: ds, .cons r rr, h => by
    have ih := sl_start (K := K) (H := H) (n := n) rr (by simpa using h)
    refine ⟨⟨?_, fun i w s h1 h2 => ?_, fun i j a ds' es h1 => ?_⟩, ih.2⟩
    · have := ih.1.len
      simp [startD] at this ⊢
      exact this
    · cases i with
      | zero =>
        simp [startD] at h1 h2
        subst h1 h2
        exact ⟨v, rfl, r⟩
      | succ i =>
        refine ih.1.val i w s ?_ ?_
        · simpa using h1
        · simpa [startD] using h2
    · exact absurd h1 (no_own (show noOwn (startD (n + 1) (d :: ds)) = true from ih.2) i ds')
abbrev kD (H : Hp) (Pd : Pd) : DK := { nx := fun _ => ∀ H2, Le H H2 → Pd .non H2, rt := fun d => ∀ H2, Le H H2 → Pd d H2, rf := fun ds => ∀ H2, Le H H2 → Pd (.lst ds) H2 }
abbrev kF (PL : List D → Prop) : DK := { nx := fun _ => False, rt := fun _ => False, rf := PL }
section
variable {P : Program} {w : World} {K : PySem.W.Frag} {mg : Str → Option Value} {base : Heap}
theorem defW {x : Str} {st : Stmt} {N ps : List Str} {k : Nat} {R : List D → Hp → Pd → Prop} (g : GDef K mg x st ps) (S : FnScope N ps (defScope st)) (hl : ∀ ds H Pd, R ds H Pd → ds.length = ps.length) (hN : ps.length ≤ N.length)
    (body : ∀ (cdv : Value) (A : Around) (outer : List Env) (s : Shared) (f : Addr) (H : Hp) (ds : List D) (Pd : Pd) (E : XK), Room k (A.deeper (envOfC x (defScope st) s.heap.objs.size f cdv)) → R ds H Pd →
      ∃ t, PSs (cxOf CX0 P w K mg base N x (defScope st) f cdv A outer s H E).nox (defBody st) t ∧ WS K H t (startD N.length ds) (kD H Pd)) : Def P w K mg base (k + 1) x ps (spD K R) := by
  refine defD g S hl fun cdv A outer s f H vs ds Pd Q E hr r h q => ?_
  obtain ⟨t, h1, h2⟩ := body cdv A outer s f H ds Pd E hr h
  have hv : vs.length ≤ N.length := by
    rw [r.len, hl ds H Pd h]
    exact hN
  refine ⟨t, h1, h2 H (Le.refl _) _ _ H ⟨fun σ H' δ S w => q _ _ H' S.bh (w H' S.bh) .non, fun _ _ _ _ w => w.elim, fun _ _ _ _ w => w.elim, fun v d H' l w r => q v d H' l (w H' l) r, fun p us es H' _ l hp nh r w => q _ _ H' l (w H' l) (.lst hp nh r)⟩ ⟨H, Le.refl _, Le.refl _, (sl_start r hv).1⟩⟩
theorem defWF {x : Str} {st : Stmt} {N ps : List Str} {k : Nat} {R : List D → Hp → (List D → Prop) → Prop} (g : GDef K mg x st ps) (S : FnScope N ps (defScope st)) (hl : ∀ ds H Pd, R ds H Pd → ds.length = ps.length) (hN : ps.length ≤ N.length)
    (body : ∀ (cdv : Value) (A : Around) (outer : List Env) (s : Shared) (f : Addr) (H : Hp) (ds : List D) (PL : List D → Prop) (E : XK), Room k (A.deeper (envOfC x (defScope st) s.heap.objs.size f cdv)) → R ds H PL →
      ∃ t, PSs (cxOf CX0 P w K mg base N x (defScope st) f cdv A outer s H E).nox (defBody st) t ∧ WS K H t (startD N.length ds) (kF PL)) : Def P w K mg base (k + 1) x ps (spF K R) := by
  refine defF g S hl fun cdv A outer s f H vs ds PL Q E hr r h q => ?_
  obtain ⟨t, h1, h2⟩ := body cdv A outer s f H ds PL E hr h
  have hv : vs.length ≤ N.length := by
    rw [r.len, hl ds H PL h]
    exact hN
  refine ⟨t, h1, h2 H (Le.refl _) _ _ H ⟨fun _ _ _ _ w => w.elim, fun _ _ _ _ w => w.elim, fun _ _ _ _ w => w.elim, fun _ _ _ _ w _ => w.elim, fun p us es H' hp l h nh r w => q p us es H' hp l h nh r w⟩ ⟨H, Le.refl _, Le.refl _, (sl_start r hv).1⟩⟩
end
end W1

set_option maxRecDepth 100000
set_option maxHeartbeats 4000000
/-! expressions over slots in data -/
namespace W1
open PySem PyProof.Rows L2
section
variable {K : PySem.W.Frag} {B0 : Hp} {δ : DS} {te ta tb tc : TE} {tt t u : TT} {A : TA} {P P1 P2 : D → Prop} {d d1 d2 : D} {i j : Nat}
theorem w_int {i : Int} : WE K B0 (tC (.int i)) δ (.int i) := fun _ _ _ _ _ => ed_int
theorem w_bl {b : Bool} : WE K B0 (tC (.bl b)) δ (.bl b) := fun _ _ _ _ _ => ed_bl
theorem w_str {s : Str} : WE K B0 (tC (.str s)) δ (.str s) := fun _ _ _ _ _ => ed_str
theorem w_non : WE K B0 (tC .non) δ .non := fun _ _ _ _ _ => ed_non
theorem w_obj {v : V} : WE K B0 (tC v) δ (.obj v) := fun _ _ _ _ _ => ed_obj
theorem w_var {x : D} (h : δ[i]? = some (some (.d x)) := by rfl) : WE K B0 (tVar i) δ x := fun B σ H e S => by
  obtain ⟨G, b, g, s⟩ := S
  obtain ⟨v, hs, u, rfl, r⟩ := s.slot h
  exact ed_var hs (r.le g)
theorem w_varO {ds : List D} (h : δ[i]? = some (some (.own ds)) := by rfl) : WE K B0 (tVar i) δ (.lst ds) := fun B σ H e S => by
  obtain ⟨G, b, g, s⟩ := S
  obtain ⟨v, hs, a, vs, rfl, h1, h2, h3, h4⟩ := s.slot h
  exact ed_var hs (.lst h2 h3 (h4.le g))
theorem w_I0 {f : Int → Int → Int} {i j : Int} (ha : WE K B0 ta δ (.int i)) (hb : WE K B0 tb δ (.int j)) : WE K B0 (tOp (rI0 fun i j => .int (f i j)) ta tb) δ (.int (f i j)) := fun B σ H e S => ed_I0 (ha B σ H e S) (hb B σ H e S)
theorem w_B0 {f : Int → Int → Bool} {i j : Int} (ha : WE K B0 ta δ (.int i)) (hb : WE K B0 tb δ (.int j)) : WE K B0 (tOp (rI0 fun i j => .bl (f i j)) ta tb) δ (.bl (f i j)) := fun B σ H e S => ed_B0 (ha B σ H e S) (hb B σ H e S)
theorem w_I {C : Int → Int → Prop} {f : Int → Int → Int} {i j : Int} (ha : WE K B0 ta δ (.int i)) (hb : WE K B0 tb δ (.int j)) (c : C i j) : WE K B0 (tOp (rI C fun i j => .int (f i j)) ta tb) δ (.int (f i j)) := fun B σ H e S => ed_I (ha B σ H e S) (hb B σ H e S) c
/-- numbers of which something holds -/
abbrev isI0 (P : Int → Prop) : D → Prop := fun d => ∃ i, d = .int i ∧ P i
theorem wp_I0 {f : Int → Int → Int} {P1 P2 P3 : Int → Prop} (ha : WP K B0 ta δ (isI0 P1)) (hb : WP K B0 tb δ (isI0 P2)) (h : ∀ i j, P1 i → P2 j → P3 (f i j)) : WP K B0 (tOp (rI0 fun i j => .int (f i j)) ta tb) δ (isI0 P3) := fun B σ H e S =>
  ep_I0 (ha B σ H e S) (hb B σ H e S) fun d1 d2 H1 H2 _ _ ⟨i, e1, p1⟩ ⟨j, e2, p2⟩ => ⟨i, j, e1, e2, _, ⟨_, rfl, h i j p1 p2⟩, .int _⟩
theorem wp_I {C : Int → Int → Prop} {f : Int → Int → Int} {P1 P2 P3 : Int → Prop} (ha : WP K B0 ta δ (isI0 P1)) (hb : WP K B0 tb δ (isI0 P2)) (h : ∀ i j, P1 i → P2 j → C i j ∧ P3 (f i j)) : WP K B0 (tOp (rI C fun i j => .int (f i j)) ta tb) δ (isI0 P3) := fun B σ H e S =>
  ep_I (ha B σ H e S) (hb B σ H e S) fun d1 d2 H1 H2 _ _ ⟨i, e1, p1⟩ ⟨j, e2, p2⟩ => ⟨i, j, e1, e2, (h i j p1 p2).1, _, ⟨_, rfl, (h i j p1 p2).2⟩, .int _⟩
theorem WE.isI {i : Int} {P1 : Int → Prop} (h : WE K B0 ta δ (.int i)) (p : P1 i) : WP K B0 ta δ (isI0 P1) := h.weak fun d e => ⟨i, e, p⟩
theorem wt_cmp {g : Int → Int → Bool} {P1 P2 : Int → Prop} (ha : WP K B0 ta δ (isI0 P1)) (hb : WP K B0 tb δ (isI0 P2)) : WT K B0 (tTest (tOp (rI0 fun i j => .bl (g i j)) ta tb)) δ fun b => ∃ i j, P1 i ∧ P2 j ∧ b = g i j := fun B σ H e S =>
  fun H1 e1 Q q => ep_I0 (P := fun d _ => ∃ b, d = .bl b ∧ ∃ i j, P1 i ∧ P2 j ∧ b = g i j) (ha B σ H e S) (hb B σ H e S) (fun d1 d2 H1 H2 _ _ ⟨i, e1, p1⟩ ⟨j, e2, p2⟩ => ⟨i, j, e1, e2, _, ⟨_, rfl, i, j, p1, p2, rfl⟩, .bl _⟩) H1 e1 _ fun v d H2 e2 p r => by
    obtain ⟨b, rfl, p⟩ := p
    exact ⟨b, rp_bl r, q b H2 e2 p⟩
theorem wt_eqI {c : Int} {P1 : Int → Prop} (ha : WP K B0 ta δ (isI0 P1)) : WT K B0 (tTest (tOp rEq ta (tC (.int c)))) δ fun b => ∃ i, P1 i ∧ b = decide (i = c) := fun B σ H e S => fun H1 e1 Q q =>
  ha B σ H e S H1 e1 _ fun v d H2 e2 p r => by
    obtain ⟨i, rfl, p⟩ := p
    have ev := rp_int r
    subst ev
    exact ⟨rfl, _, rfl, q _ H2 e2 ⟨i, p, by
      by_cases h : i = c
      · subst h
        simp
      · simp [h]⟩⟩
theorem w_neg {i : Int} (ha : WE K B0 ta δ (.int i)) : WE K B0 (tUn (rU fun i => .int (-i)) ta) δ (.int (-i)) := fun B σ H e S => ed_neg (ha B σ H e S)
theorem w_eqS (ha : WE K B0 ta δ d1) (hb : WE K B0 tb δ d2) (f1 : flat d1 = true := by rfl) (f2 : flat d2 = true := by rfl) (hs : scal (vOf d1) (vOf d2) = true := by rfl) : WE K B0 (tOp rEq ta tb) δ (.bl (decide (vOf d1 = vOf d2))) := fun B σ H e S => ed_eqS (ha B σ H e S) (hb B σ H e S) f1 f2 hs
theorem w_neS (ha : WE K B0 ta δ d1) (hb : WE K B0 tb δ d2) (f1 : flat d1 = true := by rfl) (f2 : flat d2 = true := by rfl) (hs : scal (vOf d1) (vOf d2) = true := by rfl) : WE K B0 (tOp rNe ta tb) δ (.bl (!decide (vOf d1 = vOf d2))) := fun B σ H e S => ed_neS (ha B σ H e S) (hb B σ H e S) f1 f2 hs
theorem vs_i {i j : Int} : decide (vOf (.int i) = vOf (.int j)) = decide (i = j) := decide_eq_decide.mpr ⟨fun e => by injection e, fun e => by rw [e]⟩
theorem vs_s {i j : Str} : decide (vOf (.str i) = vOf (.str j)) = decide (i = j) := decide_eq_decide.mpr ⟨fun e => by injection e, fun e => by rw [e]⟩
theorem w_eqI {i j : Int} (ha : WE K B0 ta δ (.int i)) (hb : WE K B0 tb δ (.int j)) : WE K B0 (tOp rEq ta tb) δ (.bl (decide (i = j))) := w_eq (w_eqS ha hb) (by rw [vs_i])
theorem w_neI {i j : Int} (ha : WE K B0 ta δ (.int i)) (hb : WE K B0 tb δ (.int j)) : WE K B0 (tOp rNe ta tb) δ (.bl (!decide (i = j))) := w_eq (w_neS ha hb) (by rw [vs_i])
theorem w_eqStr {i j : Str} (ha : WE K B0 ta δ (.str i)) (hb : WE K B0 tb δ (.str j)) : WE K B0 (tOp rEq ta tb) δ (.bl (decide (i = j))) := w_eq (w_eqS ha hb) (by rw [vs_s])
theorem w_neStr {i j : Str} (ha : WE K B0 ta δ (.str i)) (hb : WE K B0 tb δ (.str j)) : WE K B0 (tOp rNe ta tb) δ (.bl (!decide (i = j))) := w_eq (w_neS ha hb) (by rw [vs_s])
def nonD : D → Bool
  | .non => true
  | _ => false
theorem w_isN (ha : WE K B0 ta δ d1) (n : noObj d1 = true) : WE K B0 (tOp (fun x y H Q => y = .non ∧ Q (.bl (decide (x = .non))) H) ta (tC .non)) δ (.bl (nonD d1)) := fun B σ H e S => ed_eq (ed_isN (ha B σ H e S) (noObj_ne n)) (by cases d1 <;> rfl)
theorem w_notN (ha : WE K B0 ta δ d1) (n : noObj d1 = true) : WE K B0 (tOp (fun x y H Q => y = .non ∧ Q (.bl (!decide (x = .non))) H) ta (tC .non)) δ (.bl (!nonD d1)) := fun B σ H e S => ed_eq (ed_notN (ha B σ H e S) (noObj_ne n)) (by cases d1 <;> rfl)
theorem w_ixT {ds : List D} {i : Int} (ha : WE K B0 ta δ (.tup ds)) (hb : WE K B0 tb δ (.int i)) (h : 0 ≤ i) (e : ds[i.toNat]? = some d) : WE K B0 (tOp (rIxT K) ta tb) δ d := fun B σ H e1 S => ed_ixT (ha B σ H e1 S) (hb B σ H e1 S) h e
theorem w_ixL {ds : List D} {i : Int} (ha : WE K B0 ta δ (.lst ds)) (hb : WE K B0 tb δ (.int i)) (h : 0 ≤ i) (e : ds[i.toNat]? = some d) : WE K B0 (tOp (rIxL K) ta tb) δ d := fun B σ H e1 S => ed_ixL (ha B σ H e1 S) (hb B σ H e1 S) h e
theorem wa_nil : WL K B0 tNil δ [] := fun _ _ _ _ _ => ea_nil
theorem wa_cons {ds : List D} (h : WE K B0 te δ d) (hr : WL K B0 A δ ds) : WL K B0 (tCons te A) δ (d :: ds) := fun B σ H e S => ea_cons (h B σ H e S) (hr B σ H e S)
theorem wa_consP {PA : List D → Prop} (h : WP K B0 te δ P) (hr : WA K B0 A δ PA) : WA K B0 (tCons te A) δ (fun ds => ∃ d r, ds = d :: r ∧ P d ∧ PA r) := fun B σ H e S => EA_weak (ep_cons (h B σ H e S) (hr B σ H e S)) fun ds H2 ⟨d, r, H1, e1, _, p, q⟩ => ⟨d, r, e1, p, q⟩
theorem w_tup {ds : List D} (h : WL K B0 A δ ds) (hl : ds.length ≤ 100000 := by exact Nat.le_of_ble_eq_true rfl) : WE K B0 (tTup A) δ (.tup ds) := fun B σ H e S => ed_tup (h B σ H e S) hl
theorem wp_tup {PA : List D → Prop} (h : WA K B0 A δ PA) (hl : ∀ ds, PA ds → ds.length ≤ 100000) : WP K B0 (tTup A) δ (fun d => ∃ ds, d = .tup ds ∧ PA ds) := fun B σ H e S => ep_tup (h B σ H e S) (fun ds _ p => hl ds p) fun ds _ p _ _ => ⟨ds, rfl, p⟩
theorem wf_lst {ds : List D} (h : WL K B0 A δ ds) (hl : ds.length ≤ 100000 := by exact Nat.le_of_ble_eq_true rfl) (hc : calmL ds = true := by rfl) : WFD K B0 (tLst A) δ ds := fun B σ H e S => ef_lst (h B σ H e S) hl hc
theorem w_lst {ds : List D} (h : WL K B0 A δ ds) (hl : ds.length ≤ 100000 := by exact Nat.le_of_ble_eq_true rfl) (hc : calmL ds = true := by rfl) : WE K B0 (tLst A) δ (.lst ds) := (wf_lst h hl hc).we
theorem w_lenT {ds : List D} (ha : WE K B0 ta δ (.tup ds)) : WE K B0 (tCB (fun xs H Q => ∃ p ys, xs = [.ref p] ∧ (SqL K H p ys ∨ SqT K H p ys) ∧ Q (.int ys.length) H) (tCons ta tNil)) δ (.int (ds.length : Int)) := fun B σ H e S => ed_lenT (ha B σ H e S)
theorem w_lenL {ds : List D} (ha : WE K B0 ta δ (.lst ds)) : WE K B0 (tCB (fun xs H Q => ∃ p ys, xs = [.ref p] ∧ (SqL K H p ys ∨ SqT K H p ys) ∧ Q (.int ys.length) H) (tCons ta tNil)) δ (.int (ds.length : Int)) := fun B σ H e S => ed_lenL (ha B σ H e S)
theorem wb_test {b : Bool} (h : WE K B0 te δ (.bl b)) : WB K B0 (tTest te) δ b := fun B σ H e S => et_test (h B σ H e S)
theorem wb_B {b : Bool} (h : WE K B0 te δ (.bl b)) : WB K B0 (tB te) δ b := fun B σ H e S => et_B (h B σ H e S)
theorem wt_test (h : WP K B0 te δ fun d => ∃ b, d = .bl b) : WT K B0 (tTest te) δ fun _ => True := fun B σ H e S => et_testp (h B σ H e S)
theorem wb_and {a b : Bool} (h1 : WB K B0 t δ a) (h2 : a = true → WB K B0 u δ b) : WB K B0 (tAnd t u) δ (a && b) := fun B σ H e S => eb_and (h1 B σ H e S) fun q => h2 q B σ H e S
theorem wb_or {a b : Bool} (h1 : WB K B0 t δ a) (h2 : a = false → WB K B0 u δ b) : WB K B0 (tOr t u) δ (a || b) := fun B σ H e S => eb_or (h1 B σ H e S) fun q => h2 q B σ H e S
theorem wb_not {a : Bool} (h1 : WB K B0 t δ a) : WB K B0 (tNot t) δ (!a) := fun B σ H e S => eb_not (h1 B σ H e S)
theorem wt_and {P1 P2 : Bool → Prop} (h1 : WT K B0 t δ P1) (h2 : P1 true → WT K B0 u δ P2) : WT K B0 (tAnd t u) δ (fun b => (b = true ∧ P1 true ∧ P2 true) ∨ (b = false ∧ (P1 false ∨ P1 true ∧ P2 false))) := fun B σ H e S => et_and (h1 B σ H e S) fun q => h2 q B σ H e S
theorem w_andV {a b : Bool} (h1 : WE K B0 ta δ (.bl a)) (h2 : a = true → WE K B0 tb δ (.bl b)) : WE K B0 (tAndV ta tb) δ (.bl (a && b)) := fun B σ H e S => ed_andV (h1 B σ H e S) fun q => h2 q B σ H e S
theorem w_orV {a b : Bool} (h1 : WE K B0 ta δ (.bl a)) (h2 : a = false → WE K B0 tb δ (.bl b)) : WE K B0 (tOrV ta tb) δ (.bl (a || b)) := fun B σ H e S => ed_orV (h1 B σ H e S) fun q => h2 q B σ H e S
theorem w_notV {a : Bool} (h1 : WE K B0 ta δ (.bl a)) : WE K B0 (tNotV ta) δ (.bl (!a)) := fun B σ H e S => ed_notV (h1 B σ H e S)
theorem wp_ifE {b : Bool} (h : WB K B0 t δ b) (h1 : b = true → WP K B0 ta δ P) (h2 : b = false → WP K B0 tb δ P) : WP K B0 (tIf t ta tb) δ P := fun B σ H e S => ep_if (h B σ H e S) (fun q => h1 q B σ H e S) fun q => h2 q B σ H e S
theorem w_ifE {b : Bool} (h : WB K B0 t δ b) (h1 : b = true → WE K B0 ta δ d1) (h2 : b = false → WE K B0 tb δ d2) : WE K B0 (tIf t ta tb) δ (if b = true then d1 else d2) := wp_ifE h (fun q => by rw [if_pos q]; exact h1 q) fun q => by rw [if_neg (by rw [q]; exact Bool.false_ne_true)]; exact h2 q
theorem wp_ifT {PB : Bool → Prop} (h : WT K B0 t δ PB) (h1 : PB true → WP K B0 ta δ P) (h2 : PB false → WP K B0 tb δ P) : WP K B0 (tIf t ta tb) δ P := fun B σ H e S => fun H1 e1 Q q => h B σ H e S H1 e1 _ fun x H2 e2 p => by
  cases x with
  | true =>
    show ta σ H2 Q
    exact h1 p B σ H e S H2 (e1.trans e2) Q fun v d H3 e3 p3 r3 => q v d H3 (e2.trans e3) p3 r3
  | false =>
    show tb σ H2 Q
    exact h2 p B σ H e S H2 (e1.trans e2) Q fun v d H3 e3 p3 r3 => q v d H3 (e2.trans e3) p3 r3
theorem w_chain {f g : Int → Int → Bool} {i j k : Int} (ha : WE K B0 ta δ (.int i)) (hb : WE K B0 tb δ (.int j)) (hc : WE K B0 tc δ (.int k)) : WE K B0 (tChain (rI0 fun i j => .bl (f i j)) (rI0 fun i j => .bl (g i j)) ta tb tc) δ (.bl (f i j && g j k)) := fun B σ H e S => ed_chain (ha B σ H e S) (hb B σ H e S) (hc B σ H e S)
/-! calls -/
theorem wp_call {R : List D → Hp → Pd → Prop} {E : XK} {PA : List D → Prop} (h : WA K B0 A δ PA) (hr : ∀ ds H2, Le B0 H2 → PA ds → ∃ P1 : Pd, R ds H2 P1 ∧ ∀ d H3, Le H2 H3 → P1 d H3 → P d) : WP K B0 (tCall (spD K R) [] E A) δ P := fun B σ H e S => ep_call (h B σ H e S) fun ds H2 e2 p => hr ds H2 ((e.trans S.bh).trans e2) p
theorem w_call {R : List D → Hp → Pd → Prop} {E : XK} {ds : List D} (h : WL K B0 A δ ds) (hr : ∀ H2, Le B0 H2 → R ds H2 (is d)) : WE K B0 (tCall (spD K R) [] E A) δ d := wp_call h fun ds' H2 e2 p => ⟨is d, by rw [p]; exact hr H2 e2, fun _ _ _ q => q⟩
theorem wp_callD {R : List D → Hp → Pd → Prop} {E : XK} {ds : List D} (h : WL K B0 A δ ds) (hr : ∀ H2, Le B0 H2 → R ds H2 (fun d _ => P d)) : WP K B0 (tCall (spD K R) [] E A) δ P := wp_call h fun ds' H2 e2 p => ⟨fun d _ => P d, by rw [p]; exact hr H2 e2, fun _ _ _ q => q⟩
theorem wf_call {R : List D → Hp → (List D → Prop) → Prop} {E : XK} {ds : List D} {PL : List D → Prop} (h : WL K B0 A δ ds) (hr : ∀ H2, Le B0 H2 → R ds H2 PL) : WF K B0 (tCall (spF K R) [] E A) δ PL := fun B σ H e S => ef_call (h B σ H e S) fun H2 e2 => hr H2 ((e.trans S.bh).trans e2)
/-! sequences -/
theorem w_rep1 {ds : List D} {k : Int} (ha : WE K B0 ta δ (.tup ds)) (hb : WE K B0 tb δ (.int k)) (hne : ds ≠ []) (h1 : 1 ≤ k ∧ k ≤ 1000) (hz : ds.length ≤ 1000) : WE K B0 (tOp (rRep1 K) ta tb) δ (.tup (List.replicate k.toNat ds).flatten) := fun B σ H e S => ed_rep1 (ha B σ H e S) (hb B σ H e S) hne h1 hz
theorem wf_rep {ds : List D} {k : Int} (ha : WE K B0 ta δ (.lst ds)) (hb : WE K B0 tb δ (.int k)) (h1 : 0 ≤ k ∧ k ≤ 1000) (hz : ds.length ≤ 1000) (hu : Uni (List.replicate k.toNat ds).flatten) : WFD K B0 (tOp rRep ta tb) δ (List.replicate k.toNat ds).flatten := fun B σ H e S => ef_rep (ha B σ H e S) (hb B σ H e S) h1 hz hu
theorem w_cat {ds es : List D} (ha : WE K B0 ta δ (.lst ds)) (hb : WE K B0 tb δ (.lst es)) (hz : ds.length + es.length ≤ 100000) (hu : Uni (ds ++ es)) : WE K B0 (tOp rCat ta tb) δ (.lst (ds ++ es)) := fun B σ H e S => ed_cat (ha B σ H e S) (hb B σ H e S) hz hu
theorem wf_cat {ds es : List D} (ha : WE K B0 ta δ (.lst ds)) (hb : WE K B0 tb δ (.lst es)) (hz : ds.length + es.length ≤ 100000) (hu : Nh (ds ++ es)) : WFD K B0 (tOp rCat ta tb) δ (ds ++ es) := fun B σ H e S H1 e1 Q q =>
  ha B σ H e S H1 e1 _ fun x d1 H2 e2 p1 r1 => hb B σ H e S H2 (e1.trans e2) _ fun y d2 H3 e3 p2 r2 => by
    have p1' : d1 = .lst ds := p1
    have p2' : d2 = .lst es := p2
    subst p1' p2'
    obtain ⟨a, xs, rfl, s, _, rr⟩ := rp_lst (r1.le e3)
    obtain ⟨b, ys, rfl, s2, _, rr2⟩ := rp_lst r2
    refine ⟨a, b, xs, ys, rfl, rfl, s, s2, Evl.sz_of (by rw [rr.len, rr2.len]; exact hz), fun p np => ?_⟩
    have le := Le.new (o := .lst (xs ++ ys)) np
    exact q p (xs ++ ys) _ _ ((e2.trans e3).fresh np) ((e2.trans e3).trans le) upd_same (hu K _ _ (rr.app rr2)) ((rr.app rr2).le le) rfl
theorem w_catA {ds es : List D} (ha : WE K B0 ta δ (.tup ds)) (hb : WE K B0 tb δ (.tup es)) (hz : ds.length + es.length ≤ 100000) : WE K B0 (tOp (rCatA K) ta tb) δ (.tup (ds ++ es)) := fun B σ H e S => ed_catA (ha B σ H e S) (hb B σ H e S) hz
theorem wo_none : WO tNoPart δ none (K := K) (B0 := B0) := fun _ _ _ _ _ => eo_none
theorem wo_some {i : Int} (h : WE K B0 te δ (.int i)) : WO K B0 (tPart te) δ (some i) := fun B σ H e S => eo_some (h B σ H e S)
theorem w_slT {tl th : TO} {ds : List D} {lo hi : Option Int} (h : WE K B0 ta δ (.tup ds)) (h1 : WO K B0 tl δ lo) (h2 : WO K B0 th δ hi) : WE K B0 (tSl (rSlA K) ta tl th) δ (.tup (cutG ds lo hi)) := fun B σ H e S => ed_slT (h B σ H e S) (h1 B σ H e S) (h2 B σ H e S)
theorem w_slL {tl th : TO} {ds : List D} {lo hi : Option Int} (h : WE K B0 ta δ (.lst ds)) (h1 : WO K B0 tl δ lo) (h2 : WO K B0 th δ hi) (hu : Uni (cutG ds lo hi)) : WE K B0 (tSl (rSlL K) ta tl th) δ (.lst (cutG ds lo hi)) := fun B σ H e S => ed_slL (h B σ H e S) (h1 B σ H e S) (h2 B σ H e S) hu
theorem w_revL {ds : List D} (h : WE K B0 ta δ (.lst ds)) (hu : Uni ds.reverse) : WE K B0 (tRevL K ta) δ (.lst ds.reverse) := fun B σ H e S => ed_revL (h B σ H e S) hu
theorem w_revT {ds : List D} (h : WE K B0 ta δ (.tup ds)) : WE K B0 (tRevT K ta) δ (.tup ds.reverse) := fun B σ H e S => ed_revT (h B σ H e S)
theorem w_abs {i : Int} (h : WE K B0 ta δ (.int i)) : WE K B0 (tCB rAbs (tCons ta tNil)) δ (.int (if i < 0 then -i else i)) := fun B σ H e S => ed_abs (h B σ H e S)
theorem w_int1 {i : Int} (h : WE K B0 ta δ (.int i)) : WE K B0 (tCB rInt1 (tCons ta tNil)) δ (.int i) := fun B σ H e S => ed_int1 (h B σ H e S)
theorem w_int1b {b : Bool} (h : WE K B0 ta δ (.bl b)) : WE K B0 (tCB rInt1 (tCons ta tNil)) δ (.int (if b then 1 else 0)) := fun B σ H e S => ed_cb (ea_cons (h B σ H e S) ea_nil) fun vs H2 _ r Q q => by
  obtain ⟨v, rfl, h⟩ := rps1 r
  exact .inr ⟨b, by rw [rp_bl h], q _ _ H2 (Le.refl _) rfl (.int _)⟩
theorem w_max2 {i j : Int} (h : WE K B0 ta δ (.int i)) (h2 : WE K B0 tb δ (.int j)) : WE K B0 (tCB rMax2 (tCons ta (tCons tb tNil))) δ (.int (if j > i then j else i)) := fun B σ H e S => ed_max2 (h B σ H e S) (h2 B σ H e S)
theorem w_min2 {i j : Int} (h : WE K B0 ta δ (.int i)) (h2 : WE K B0 tb δ (.int j)) : WE K B0 (tCB rMin2 (tCons ta (tCons tb tNil))) δ (.int (if j < i then j else i)) := fun B σ H e S => ed_min2 (h B σ H e S) (h2 B σ H e S)
theorem w_tupOf {ds : List D} (h : WE K B0 ta δ (.lst ds)) : WE K B0 (tCB (rTupOf K) (tCons ta tNil)) δ (.tup ds) := fun B σ H e S => ed_tupOf (h B σ H e S)
theorem wp_tupOf {PL : List D → Prop} (h : WP K B0 ta δ fun d => ∃ ds, d = .lst ds ∧ PL ds) : WP K B0 (tCB (rTupOf K) (tCons ta tNil)) δ (fun d => ∃ ds, d = .tup ds ∧ PL ds) := fun B σ H e S => ep_tupOf (h B σ H e S)
theorem w_tupOfT {ds : List D} (h : WE K B0 ta δ (.tup ds)) : WE K B0 (tCB (rTupOf K) (tCons ta tNil)) δ (.tup ds) := fun B σ H e S => ed_cb (ea_cons (h B σ H e S) ea_nil) fun vs H2 _ r Q q => by
  obtain ⟨v, rfl, h⟩ := rps1 r
  obtain ⟨a, xs, rfl, s, rr⟩ := rp_tup h
  exact ⟨a, xs, rfl, .inr ⟨s, q _ _ H2 (Le.refl _) rfl (.tup s rr)⟩⟩
theorem wf_lstOfT {ds : List D} (h : WE K B0 ta δ (.tup ds)) (hu : Uni ds) : WFD K B0 (tCB (rLstOf K) (tCons ta tNil)) δ ds := fun B σ H e S => ef_lstOfT (h B σ H e S) hu
theorem wf_lstOfL {ds : List D} (h : WE K B0 ta δ (.lst ds)) : WFD K B0 (tCB (rLstOf K) (tCons ta tNil)) δ ds := fun B σ H e S => ef_lstOfL (h B σ H e S)
theorem wp_sortedI {PN : List Int → Prop} (h : WP K B0 ta δ fun d => ∃ ns : List Int, d = .lst (ns.map .int) ∧ PN ns) : WP K B0 (tCB (rSortedI K) (tCons ta tNil)) δ (fun d => ∃ ns ns' : List Int, d = .lst (ns'.map .int) ∧ PN ns ∧ ns'.Perm ns ∧ ns'.Pairwise (· ≤ ·)) := fun B σ H e S => ep_sortedI (h B σ H e S)
theorem wf_sortedI {ns : List Int} (h : WE K B0 ta δ (.lst (ns.map .int))) : WF K B0 (tCB (rSortedI K) (tCons ta tNil)) δ (fun ds => ∃ ns' : List Int, ds = ns'.map .int ∧ ns'.Perm ns ∧ ns'.Pairwise (· ≤ ·)) := fun B σ H e S H1 e1 Q q => ef_sortedI (PN := fun x => x = ns) ((h B σ H e S).weak fun d _ _ p => ⟨ns, p, rfl⟩) H1 e1 Q fun p vs ds H2 a b c n r ⟨n1, n2, x1, x2, x3, x4⟩ => q p vs ds H2 a b c n r ⟨n2, x1, by rw [← x2]; exact x3, x4⟩
theorem wp_sortedSet {w : World} {ns : List Int} (hz : ns.length < 64) (h : WE K B0 ta δ (.lst (ns.map .int))) : WP K B0 (tCB (rSortedSet w) (tCons (tCB (rSetOfL K w) (tCons ta tNil)) tNil)) δ (fun d => ∃ ns' : List Int, d = .lst (ns'.map .int) ∧ ns'.Pairwise (· < ·) ∧ ∀ k, k ∈ ns' ↔ k ∈ ns) := fun B σ H e S => ep_sortedSet hz (h B σ H e S)
theorem w_inT {x : Int} {ns : List Int} (h : WE K B0 ta δ (.int x)) (h2 : WE K B0 tb δ (.tup (ns.map .int))) : WE K B0 (tOp (rIn K false) ta tb) δ (.bl (decide (x ∈ ns))) := fun B σ H e S => ed_inT (h B σ H e S) (h2 B σ H e S)
theorem w_ninT {x : Int} {ns : List Int} (h : WE K B0 ta δ (.int x)) (h2 : WE K B0 tb δ (.tup (ns.map .int))) : WE K B0 (tOp (rIn K true) ta tb) δ (.bl (!decide (x ∈ ns))) := fun B σ H e S => ed_ninT (h B σ H e S) (h2 B σ H e S)
theorem w_inLs (neg : Bool) {x : Int} {ns : List Int} (h : WE K B0 ta δ (.int x)) (h2 : WE K B0 tb δ (.lst (ns.map .int))) : WE K B0 (tOp (rIn K neg) ta tb) δ (.bl (if neg then !decide (x ∈ ns) else decide (x ∈ ns))) := fun B σ H e S => ed_op (h B σ H e S) (h2 B σ H e S) fun v w H2 _ r1 r2 Q q => by
  obtain ⟨a, xs, rfl, s, nh, rr⟩ := rp_lst r2
  have ex := ints_rps rr
  subst ex
  rw [rp_int r1]
  refine ⟨a, _, rfl, .inl (SqL.of s), rfl, flat_ints ns, ?_⟩
  rw [inV_ints]
  cases neg <;> exact q _ _ H2 (Le.refl _) rfl (.bl _)
theorem w_all {bs : List Bool} (h : WE K B0 ta δ (.lst (bs.map .bl))) : WE K B0 (tCB (rAll K) (tCons ta tNil)) δ (.bl (bs.all id)) := fun B σ H e S => ed_all (h B σ H e S)
theorem w_isi {T : String} {b : Bool} (h : WE K B0 ta δ d) (ho : noObj d = true) (hb : kitB (tyD d) T = some b) : WE K B0 (tCB (rIsi K) (tCons ta (tCons (tC (.ty T)) tNil))) δ (.bl b) := fun B σ H e S => ed_isi (h B σ H e S) (noObj_ne ho) hb
theorem w_isTup (h : WE K B0 ta δ d) (ho : noObj d = true) : WE K B0 (tCB (rIsi K) (tCons ta (tCons (tC (.ty "tuple")) tNil))) δ (.bl (tupB d)) := fun B σ H e S => ed_isTup (h B σ H e S) (.inl ho)
theorem w_isStr (h : WE K B0 ta δ d) (ho : noObj d = true) : WE K B0 (tCB (rIsi K) (tCons ta (tCons (tC (.ty "str")) tNil))) δ (.bl (strB d)) := fun B σ H e S => ed_isStr (h B σ H e S) (.inl ho)
theorem w_isInt (h : WE K B0 ta δ d) (ho : noObj d = true) : WE K B0 (tCB (rIsi K) (tCons ta (tCons (tC (.ty "int")) tNil))) δ (.bl (subI d)) := fun B σ H e S => ed_isInt (h B σ H e S) (.inl ho)
theorem w_isBool (h : WE K B0 ta δ d) (ho : noObj d = true) : WE K B0 (tCB (rIsi K) (tCons ta (tCons (tC (.ty "bool")) tNil))) δ (.bl (blB d)) := fun B σ H e S => ed_isBool (h B σ H e S) (.inl ho)
/-! comprehensions -/
def wipeD (δ : DS) : List Nat → DS
  | [] => δ
  | v :: vs => (wipeD δ vs).set v none
theorem no_set {δ : DS} {i : Nat} {s : Option SD} (h : noOwn δ = true) (hs : ∀ ds, s ≠ some (.own ds)) : noOwn (δ.set i s) = true := by
  induction δ generalizing i with
  | nil => rfl
  | cons a r ih =>
    have hr : noOwn r = true := by
      cases a with
      | none => exact h
      | some a => cases a <;> first | exact h | cases h
    cases i with
    | zero =>
      show noOwn (s :: r) = true
      cases s with
      | none => exact hr
      | some s =>
        cases s with
        | d x => exact hr
        | own ds => exact absurd rfl (hs ds)
    | succ i =>
      show noOwn (a :: r.set i s) = true
      cases a with
      | none => exact ih hr
      | some a => cases a <;> first | exact ih hr | cases h
theorem no_wipe {δ : DS} (h : noOwn δ = true) : ∀ vs, noOwn (wipeD δ vs) = true
  | [] => h
  | v :: vs => no_set (no_wipe h vs) (fun ds => fun e => nomatch e)
theorem SlG.wipe {G H : Hp} {σ : L2.St} (S : SlG K G H σ δ) : ∀ vs : List Nat, SlG K G H (L2.wipe σ vs) (wipeD δ vs)
  | [] => S
  | v :: vs => (SlG.wipe S vs).setN
theorem wipe_in {σ : L2.St} : ∀ {vs : List Nat} {i : Nat}, i ∈ vs → (wipe σ vs)[i]? = if i < σ.length then some none else none
  | v :: vs, i, h => by
    unfold wipe
    rw [List.getElem?_set, wipe_length]
    by_cases hv : v = i
    · subst hv
      rw [if_pos rfl]
    · rw [if_neg hv]
      exact wipe_in ((List.mem_cons.mp h).resolve_left fun e => hv e.symm)
theorem wipe_setIn {σ : L2.St} {vs : List Nat} {j : Nat} {x : Option V} (h : j ∈ vs) : wipe (σ.set j x) vs = wipe σ vs := by
  refine List.ext_getElem? fun i => ?_
  by_cases hi : i ∈ vs
  · rw [wipe_in hi, wipe_in hi, List.length_set]
  · rw [wipe_out hi, wipe_out hi, List.getElem?_set_ne fun e => hi (by rw [← e]; exact h)]
theorem wipe_wipe {σ : L2.St} {vs : List Nat} : wipe (wipe σ vs) vs = wipe σ vs := by
  refine List.ext_getElem? fun i => ?_
  by_cases hi : i ∈ vs
  · rw [wipe_in hi, wipe_in hi, wipe_length]
  · rw [wipe_out hi]
theorem hw1 {σ : L2.St} {vs : List Nat} {j : Nat} (h : j ∈ vs) (x : V) : wipe ((wipe σ vs).set j (some x)) vs = wipe σ vs := by rw [wipe_setIn h, wipe_wipe]
theorem hw2 {σ : L2.St} {vs : List Nat} {j l : Nat} (h : j ∈ vs) (h2 : l ∈ vs) (x y : V) : wipe (((wipe σ vs).set j (some x)).set l (some y)) vs = wipe σ vs := by rw [wipe_setIn h2, wipe_setIn h, wipe_wipe]
theorem Sl.comp1 {B H : Hp} {σ : L2.St} {v : V} {vs : List Nat} {j : Nat} (S : Sl K B H σ δ) (r : Rp K H v d) (ok : noOwn δ = true ∨ NoL d) : Sl K B H ((L2.wipe σ vs).set j (some v)) ((wipeD δ vs).set j (some (.d d))) := by
  obtain ⟨G, b, g, s, rr⟩ := slx_ok S (.cons r .nil) (ok.imp id fun h x hx => by rw [List.mem_singleton.mp hx]; exact h)
  cases rr with
  | cons r1 _ => exact ⟨G, b, g, (s.wipe vs).setD r1⟩
theorem Sl.comp2 {B H : Hp} {σ : L2.St} {v v2 : V} {d2 : D} {vs : List Nat} {j l : Nat} (S : Sl K B H σ δ) (r : Rp K H v d) (r2 : Rp K H v2 d2) (ok : noOwn δ = true ∨ NoL d ∧ NoL d2) : Sl K B H (((L2.wipe σ vs).set j (some v)).set l (some v2)) (((wipeD δ vs).set j (some (.d d))).set l (some (.d d2))) := by
  obtain ⟨G, b, g, s, rr⟩ := slx_ok S (.cons r (.cons r2 .nil)) (ok.imp id fun h x hx => by
    rcases List.mem_cons.mp hx with rfl | hx
    · exact h.1
    · rw [List.mem_singleton.mp hx]
      exact h.2)
  cases rr with
  | cons r1 rr =>
    cases rr with
    | cons r2 _ => exact ⟨G, b, g, ((s.wipe vs).setD r1).setD r2⟩
theorem wb_yes : WB K B0 tYes δ true := fun _ _ _ _ _ => et_yes
variable {α β : Type} {enc : α → D} {encS : β → D} {vs : List Nat} {ra : TA}
theorem w_lcT (E : Enc enc) (xs : List β) (f : β → Bool) (g : β → α) (h : WE K B0 ta δ (.tup (xs.map encS))) (hz : xs.length ≤ 50000) (ok : noOwn δ = true ∨ ∀ b ∈ xs, NoL (encS b))
    (ht : ∀ b ∈ xs, WB K B0 tt ((wipeD δ vs).set j (some (.d (encS b)))) (f b)) (he : ∀ b ∈ xs, f b = true → WE K B0 te ((wipeD δ vs).set j (some (.d (encS b)))) (enc (g b))) (hj : j ∈ vs := by decide) : WE K B0 (tLc (iTup K ta) (gName j) tt te vs) δ (.lst (((xs.filter f).map g).map enc)) := fun B σ H e S =>
  ed_lcT E xs f g (h B σ H e S) hz (hw1 hj) (fun b v H1 e1 hb r => ht b hb B _ H1 e ((S.le e1).comp1 r (ok.imp id fun k => k b hb))) fun b v H1 e1 hb r hf => he b hb hf B _ H1 e ((S.le e1).comp1 r (ok.imp id fun k => k b hb))
theorem w_lcL (E : Enc enc) (xs : List β) (f : β → Bool) (g : β → α) (h : WE K B0 ta δ (.lst (xs.map encS))) (hz : xs.length ≤ 50000) (ok : noOwn δ = true ∨ ∀ b ∈ xs, NoL (encS b))
    (ht : ∀ b ∈ xs, WB K B0 tt ((wipeD δ vs).set j (some (.d (encS b)))) (f b)) (he : ∀ b ∈ xs, f b = true → WE K B0 te ((wipeD δ vs).set j (some (.d (encS b)))) (enc (g b))) (hj : j ∈ vs := by decide) : WE K B0 (tLc (iList K ta) (gName j) tt te vs) δ (.lst (((xs.filter f).map g).map enc)) := fun B σ H e S =>
  ed_lcL E xs f g (h B σ H e S) hz (hw1 hj) (fun b v H1 e1 hb r => ht b hb B _ H1 e ((S.le e1).comp1 r (ok.imp id fun k => k b hb))) fun b v H1 e1 hb r hf => he b hb hf B _ H1 e ((S.le e1).comp1 r (ok.imp id fun k => k b hb))
theorem w_lcR (E : Enc enc) {n : Nat} (f : Nat → Bool) (g : Nat → α) (h : WL K B0 ra δ [.int (n : Int)]) (hz : n ≤ 50000)
    (ht : ∀ i < n, WB K B0 tt ((wipeD δ vs).set j (some (.d (.int (i : Int))))) (f i)) (he : ∀ i < n, f i = true → WE K B0 te ((wipeD δ vs).set j (some (.d (.int (i : Int))))) (enc (g i))) (hj : j ∈ vs := by decide) : WE K B0 (tLc (iRng1 ra) (gName j) tt te vs) δ (.lst ((((List.range n).filter f).map g).map enc)) := fun B σ H e S =>
  ed_lcR E f g (h B σ H e S) hz (hw1 hj) (fun i H1 e1 hi => ht i hi B _ H1 e ((S.le e1).comp1 (.int _) (.inr (.int _)))) fun i H1 e1 hi hf => he i hi hf B _ H1 e ((S.le e1).comp1 (.int _) (.inr (.int _)))
theorem wp_lcR (E : Enc enc) {n : Nat} (Z : α → Prop) (h : WL K B0 ra δ [.int (n : Int)]) (hz : n ≤ 50000) (he : ∀ i < n, WP K B0 te ((wipeD δ vs).set j (some (.d (.int (i : Int))))) (fun d => ∃ a, d = enc a ∧ Z a)) (hj : j ∈ vs := by decide) : WP K B0 (tLc (iRng1 ra) (gName j) tYes te vs) δ (fun d => ∃ zs : List α, d = .lst (zs.map enc) ∧ zs.length = n ∧ ∀ a ∈ zs, Z a) := fun B σ H e S =>
  ep_lcR E Z (h B σ H e S) hz (hw1 hj) fun i H1 e1 hi => he i hi B _ H1 e ((S.le e1).comp1 (.int _) (.inr (.int _)))
theorem w_lcR2 (E : Enc enc) {lo hi : Int} (g : Int → α) (h : WL K B0 ra δ [.int lo, .int hi]) (hz : -50000 ≤ lo ∧ lo ≤ 50000 ∧ -50000 ≤ hi ∧ hi ≤ 50000 ∧ hi - lo ≤ 50000) (he : ∀ i : Nat, lo + (i : Int) < hi → WE K B0 te ((wipeD δ vs).set j (some (.d (.int (lo + (i : Int)))))) (enc (g (lo + (i : Int))))) (hj : j ∈ vs := by decide) :
    WE K B0 (tLc (iRng2 ra) (gName j) tYes te vs) δ (.lst (((List.range (hi - lo).toNat).map fun i : Nat => g (lo + (i : Int))).map enc)) := fun B σ H e S => ed_lcR2 E g (h B σ H e S) hz (hw1 hj) fun i H1 e1 hi => he i hi B _ H1 e ((S.le e1).comp1 (.int _) (.inr (.int _)))
theorem w_lcT2 (E : Enc enc) (xs : List (Int × Int)) (f : Int × Int → Bool) (g : Int × Int → α) {l : Nat} (h : WE K B0 ta δ (.tup (xs.map eP))) (hz : xs.length ≤ 50000)
    (ht : ∀ p ∈ xs, WB K B0 tt (((wipeD δ vs).set j (some (.d (.int p.1)))).set l (some (.d (.int p.2)))) (f p)) (he : ∀ p ∈ xs, f p = true → WE K B0 te (((wipeD δ vs).set j (some (.d (.int p.1)))).set l (some (.d (.int p.2)))) (enc (g p))) (hj : j ∈ vs := by decide) (hl : l ∈ vs := by decide) :
    WE K B0 (tLc (iTup K ta) (gTup K 2 (gCons (gName j) (gCons (gName l) gNil))) tt te vs) δ (.lst (((xs.filter f).map g).map enc)) := fun B σ H e S =>
  ed_lcT2 E xs f g (h B σ H e S) hz (hw2 hj hl) (fun p H1 e1 hp => ht p hp B _ H1 e ((S.le e1).comp2 (.int _) (.int _) (.inr ⟨.int _, .int _⟩))) fun p H1 e1 hp hf => he p hp hf B _ H1 e ((S.le e1).comp2 (.int _) (.int _) (.inr ⟨.int _, .int _⟩))
end
end W1

set_option maxRecDepth 100000
set_option maxHeartbeats 4000000
/-! comprehensions of pairs; lists known by what holds of them; picking -/
namespace W1
open PySem PyProof.Rows L2
theorem nh_int {i : Int} {ds : List D} : Nh (.int i :: ds) := fun K H vs r => by
  cases r with
  | cons h _ =>
    cases h
    exact notH_int
theorem nh_ints (ns : List Int) : Nh (ns.map D.int) := (uni_ints ns).nh
section
variable {K : PySem.W.Frag} {σ : L2.St} {H H' : Hp} {ta tb tc te : TE} {tt : TT} {ra : TA} {d : D} {vs : List Nat} {α β : Type} {enc : α → D} {encS : β → D} {j l : Nat}
theorem ed_lcTg (E : Enc enc) (xs : List β) (e1 e2 : β → D) (f : β → Bool) (g : β → α) (h : ED K ta σ H (.tup (xs.map fun b => .tup [e1 b, e2 b]))) (hz : xs.length ≤ 50000) (hw : ∀ x y, wipe (((wipe σ vs).set j (some x)).set l (some y)) vs = wipe σ vs)
    (ht : ∀ b v u H1, Le H H1 → b ∈ xs → Rp K H1 v (e1 b) → Rp K H1 u (e2 b) → EB tt (((wipe σ vs).set j (some v)).set l (some u)) H1 (f b))
    (he : ∀ b v u H1, Le H H1 → b ∈ xs → Rp K H1 v (e1 b) → Rp K H1 u (e2 b) → f b = true → ED K te (((wipe σ vs).set j (some v)).set l (some u)) H1 (enc (g b))) :
    ED K (tLc (iTup K ta) (gTup K 2 (gCons (gName j) (gCons (gName l) gNil))) tt te vs) σ H (.lst (((xs.filter f).map g).map enc)) := fun H1 e Q q => h H1 e _ fun v d0 H2 e2' p r => by
  have p' : d0 = .tup (xs.map fun b => .tup [e1 b, e2 b]) := p
  subst p'
  obtain ⟨a, us, rfl, s, rr⟩ := rp_tup r
  have G := good (enc := enc) E fun i zs => zs = ((xs.take i).filter f).map g
  refine ⟨a, rfl, ⟨us, s⟩, fun L hL => lc_it (walk_tup (xs := us)) (CI K H2 L (GI enc fun i zs => zs = ((xs.take i).filter f).map g)) (ci_start (I := GI enc fun i zs => zs = ((xs.take i).filter f).map g) hL ⟨[], rfl, Nat.zero_le _, by simp⟩) (fun i H' _ c => c.2.1.sqt s) ?_ (fun H' c => ?_)⟩
  · rintro i x H' _ hi c ⟨rfl, hx⟩
    obtain ⟨d, h1, h2⟩ := rr.at' hx
    obtain ⟨b, hb, rfl⟩ := map_at h1
    obtain ⟨t, ys, rfl, st, r3⟩ := rp_tup h2
    obtain ⟨v1, v2, rfl, q1, q2⟩ := rps2 r3
    have hm := List.mem_of_getElem? hb
    refine ⟨t, _, rfl, c.2.1.sqt st, rfl, _, _, rfl, _, _, rfl, rfl, hw _ _, ci_turn G c (PT := fun x => x = f b) (fun acc ia => ht b v1 v2 H2 (e.trans e2') hm q1 q2) ?_ ?_⟩
    · rintro acc ⟨zs, rfl, hl, rfl⟩ hf
      refine (he b v1 v2 H2 (e.trans e2') hm q1 q2 hf.symm).weak fun d' H3 _ p => ?_
      have p' : d' = enc (g b) := p
      subst p'
      refine ⟨GI.more ?_ (fm_yes hb hf.symm).symm, E.noL _⟩
      rw [← fm_yes hb hf.symm]
      exact Nat.le_trans (fm_len _ f g) (Nat.le_trans (List.length_take_le _ _) (by
        have := (List.getElem?_eq_some_iff.mp hb).1
        omega))
    · rintro acc ⟨zs, rfl, hl, rfl⟩ hf
      exact ⟨_, rfl, hl, (fm_no hb hf.symm).symm⟩
  · rw [rr.len, List.length_map] at c
    exact ci_end G c fun v d H3 e3 p r => q v d H3 (e2'.trans e3) (by
      obtain ⟨acc, rfl, zs, rfl, _, rfl⟩ := p
      show D.lst _ = D.lst _
      rw [List.take_length]) r
theorem ed_lcLg (E : Enc enc) (xs : List β) (e1 e2 : β → D) (f : β → Bool) (g : β → α) (h : ED K ta σ H (.lst (xs.map fun b => .tup [e1 b, e2 b]))) (hz : xs.length ≤ 50000) (hw : ∀ x y, wipe (((wipe σ vs).set j (some x)).set l (some y)) vs = wipe σ vs)
    (ht : ∀ b v u H1, Le H H1 → b ∈ xs → Rp K H1 v (e1 b) → Rp K H1 u (e2 b) → EB tt (((wipe σ vs).set j (some v)).set l (some u)) H1 (f b))
    (he : ∀ b v u H1, Le H H1 → b ∈ xs → Rp K H1 v (e1 b) → Rp K H1 u (e2 b) → f b = true → ED K te (((wipe σ vs).set j (some v)).set l (some u)) H1 (enc (g b))) :
    ED K (tLc (iList K ta) (gTup K 2 (gCons (gName j) (gCons (gName l) gNil))) tt te vs) σ H (.lst (((xs.filter f).map g).map enc)) := fun H1 e Q q => h H1 e _ fun v d0 H2 e2' p r => by
  have p' : d0 = .lst (xs.map fun b => .tup [e1 b, e2 b]) := p
  subst p'
  obtain ⟨a, us, rfl, s, nh, rr⟩ := rp_lst r
  have G := good (enc := enc) E fun i zs => zs = ((xs.take i).filter f).map g
  refine ⟨a, rfl, ⟨us, SqL.of s⟩, fun L hL => lc_it (walk_list (xs := us)) (CI K H2 L (GI enc fun i zs => zs = ((xs.take i).filter f).map g)) (ci_start (I := GI enc fun i zs => zs = ((xs.take i).filter f).map g) hL ⟨[], rfl, Nat.zero_le _, by simp⟩) (fun i H' _ c => SqL.of (c.2.1.lst s nh)) ?_ (fun H' c => ?_)⟩
  · rintro i x H' _ hi c ⟨rfl, hx⟩
    obtain ⟨d, h1, h2⟩ := rr.at' hx
    obtain ⟨b, hb, rfl⟩ := map_at h1
    obtain ⟨t, ys, rfl, st, r3⟩ := rp_tup h2
    obtain ⟨v1, v2, rfl, q1, q2⟩ := rps2 r3
    have hm := List.mem_of_getElem? hb
    refine ⟨t, _, rfl, c.2.1.sqt st, rfl, _, _, rfl, _, _, rfl, rfl, hw _ _, ci_turn G c (PT := fun x => x = f b) (fun acc ia => ht b v1 v2 H2 (e.trans e2') hm q1 q2) ?_ ?_⟩
    · rintro acc ⟨zs, rfl, hl, rfl⟩ hf
      refine (he b v1 v2 H2 (e.trans e2') hm q1 q2 hf.symm).weak fun d' H3 _ p => ?_
      have p' : d' = enc (g b) := p
      subst p'
      refine ⟨GI.more ?_ (fm_yes hb hf.symm).symm, E.noL _⟩
      rw [← fm_yes hb hf.symm]
      exact Nat.le_trans (fm_len _ f g) (Nat.le_trans (List.length_take_le _ _) (by
        have := (List.getElem?_eq_some_iff.mp hb).1
        omega))
    · rintro acc ⟨zs, rfl, hl, rfl⟩ hf
      exact ⟨_, rfl, hl, (fm_no hb hf.symm).symm⟩
  · rw [rr.len, List.length_map] at c
    exact ci_end G c fun v d H3 e3 p r => q v d H3 (e2'.trans e3) (by
      obtain ⟨acc, rfl, zs, rfl, _, rfl⟩ := p
      show D.lst _ = D.lst _
      rw [List.take_length]) r
variable {B0 : Hp} {δ : DS}
theorem w_lcTg (E : Enc enc) (xs : List β) (e1 e2 : β → D) (f : β → Bool) (g : β → α) (h : WE K B0 ta δ (.tup (xs.map fun b => .tup [e1 b, e2 b]))) (hz : xs.length ≤ 50000) (ok : noOwn δ = true ∨ ∀ b ∈ xs, NoL (e1 b) ∧ NoL (e2 b))
    (ht : ∀ b ∈ xs, WB K B0 tt (((wipeD δ vs).set j (some (.d (e1 b)))).set l (some (.d (e2 b)))) (f b)) (he : ∀ b ∈ xs, f b = true → WE K B0 te (((wipeD δ vs).set j (some (.d (e1 b)))).set l (some (.d (e2 b)))) (enc (g b))) (hj : j ∈ vs := by decide) (hl : l ∈ vs := by decide) :
    WE K B0 (tLc (iTup K ta) (gTup K 2 (gCons (gName j) (gCons (gName l) gNil))) tt te vs) δ (.lst (((xs.filter f).map g).map enc)) := fun B σ H e S =>
  ed_lcTg E xs e1 e2 f g (h B σ H e S) hz (hw2 hj hl) (fun b v u H1 l1 hb r1 r2 => ht b hb B _ H1 e ((S.le l1).comp2 r1 r2 (ok.imp id fun k => k b hb))) fun b v u H1 l1 hb r1 r2 hf => he b hb hf B _ H1 e ((S.le l1).comp2 r1 r2 (ok.imp id fun k => k b hb))
theorem w_lcLg (E : Enc enc) (xs : List β) (e1 e2 : β → D) (f : β → Bool) (g : β → α) (h : WE K B0 ta δ (.lst (xs.map fun b => .tup [e1 b, e2 b]))) (hz : xs.length ≤ 50000) (ok : noOwn δ = true ∨ ∀ b ∈ xs, NoL (e1 b) ∧ NoL (e2 b))
    (ht : ∀ b ∈ xs, WB K B0 tt (((wipeD δ vs).set j (some (.d (e1 b)))).set l (some (.d (e2 b)))) (f b)) (he : ∀ b ∈ xs, f b = true → WE K B0 te (((wipeD δ vs).set j (some (.d (e1 b)))).set l (some (.d (e2 b)))) (enc (g b))) (hj : j ∈ vs := by decide) (hl : l ∈ vs := by decide) :
    WE K B0 (tLc (iList K ta) (gTup K 2 (gCons (gName j) (gCons (gName l) gNil))) tt te vs) δ (.lst (((xs.filter f).map g).map enc)) := fun B σ H e S =>
  ed_lcLg E xs e1 e2 f g (h B σ H e S) hz (hw2 hj hl) (fun b v u H1 l1 hb r1 r2 => ht b hb B _ H1 e ((S.le l1).comp2 r1 r2 (ok.imp id fun k => k b hb))) fun b v u H1 l1 hb r1 r2 hf => he b hb hf B _ H1 e ((S.le l1).comp2 r1 r2 (ok.imp id fun k => k b hb))
/-- over a list known by what holds of it -/
theorem wp_lcLP {PX : List β → Prop} (E : Enc enc) (f : β → Bool) (g : β → α) (h : WP K B0 ta δ fun d => ∃ xs : List β, d = .lst (xs.map encS) ∧ PX xs) (hz : ∀ xs, PX xs → xs.length ≤ 50000) (ok : noOwn δ = true ∨ ∀ xs, PX xs → ∀ b ∈ xs, NoL (encS b))
    (ht : ∀ xs, PX xs → ∀ b ∈ xs, WB K B0 tt ((wipeD δ vs).set j (some (.d (encS b)))) (f b)) (he : ∀ xs, PX xs → ∀ b ∈ xs, f b = true → WE K B0 te ((wipeD δ vs).set j (some (.d (encS b)))) (enc (g b))) (hj : j ∈ vs := by decide) :
    WP K B0 (tLc (iList K ta) (gName j) tt te vs) δ fun d => ∃ xs, PX xs ∧ d = .lst (((xs.filter f).map g).map enc) := fun B σ H e S H1 e1 Q q => h B σ H e S H1 e1 _ fun v d H2 e2 p r => by
  obtain ⟨xs, rfl, px⟩ := p
  have S2 := S.le (e1.trans e2)
  exact ed_lcL (ta := fun _ H Q => Q v H) E xs f g (fun H3 e3 Q q => q v _ H3 (Le.refl _) rfl (r.le e3)) (hz xs px) (hw1 hj) (fun b v H3 e3 hb r => ht xs px b hb B _ H3 e ((S2.le e3).comp1 r (ok.imp id fun k => k xs px b hb))) (fun b v H3 e3 hb r hf => he xs px b hb hf B _ H3 e ((S2.le e3).comp1 r (ok.imp id fun k => k xs px b hb))) H2 (Le.refl _) Q fun v d H3 e3 p r => q v d H3 (e2.trans e3) ⟨xs, px, p⟩ r
/-! picking -/
def pickD (l : List D) (i : Int) : D := (l[i.toNat]?).getD .non
theorem w_pick {ds : List D} {i : Int} (ha : WE K B0 ta δ (.lst ds)) (hb : WE K B0 tb δ (.int i)) (h : 0 ≤ i) (h2 : i < ds.length) : WE K B0 (tOp (rIxL K) ta tb) δ (pickD ds i) := w_ixL ha hb h (by
  unfold pickD
  rw [List.getElem?_eq_getElem (by omega)]
  rfl)
theorem w_pickT {ds : List D} {i : Int} (ha : WE K B0 ta δ (.tup ds)) (hb : WE K B0 tb δ (.int i)) (h : 0 ≤ i) (h2 : i < ds.length) : WE K B0 (tOp (rIxT K) ta tb) δ (pickD ds i) := w_ixT ha hb h (by
  unfold pickD
  rw [List.getElem?_eq_getElem (by omega)]
  rfl)
theorem w_last {ds : List D} (ha : WE K B0 ta δ (.lst ds)) (hb : WE K B0 tb δ (.int (-1))) (hn : ds ≠ []) : WE K B0 (tOp (rIxL K) ta tb) δ (pickD ds ((ds.length : Int) - 1)) := fun B σ H e S => ed_op (ha B σ H e S) (hb B σ H e S) fun v w H2 _ r1 r2 Q q => by
  obtain ⟨a, xs, rfl, s, nh, rr⟩ := rp_lst r1
  have hp : 0 < ds.length := List.length_pos_iff.mpr hn
  have hd : ds[ds.length - 1]? = some (pickD ds ((ds.length : Int) - 1)) := by
    unfold pickD
    rw [show ((ds.length : Int) - 1).toNat = ds.length - 1 by omega, List.getElem?_eq_getElem (by omega)]
    rfl
  obtain ⟨u, hu, ru⟩ := rr.at hd
  refine ⟨a, xs, -1, u, rfl, rp_int r2, SqL.of s, ?_, q u _ H2 (Le.refl _) rfl ru⟩
  have hx : xs.length = (ds.length - 1) + 1 := by
    rw [rr.len]
    omega
  obtain ⟨ys, z, rfl⟩ : ∃ ys z, xs = ys ++ [z] := ⟨xs.dropLast, xs.getLast (by intro e; rw [e] at hx; cases hx), (List.dropLast_concat_getLast _).symm⟩
  have hy : ys.length = ds.length - 1 := by simpa using hx
  rw [← hy, List.getElem?_append_right (Nat.le_refl _), Nat.sub_self] at hu
  cases hu
  exact atI_last ys _
end
end W1

set_option maxRecDepth 100000
set_option maxHeartbeats 4000000
/-! sums -/
namespace L2
open PySem PySem.Spec PyProof.Rows
section
variable {X : Cx}
def rSumTup (K : PySem.W.Frag) : List V → Hp → VK → Prop := fun vs H Q => ∃ (a : Addr) (ns : List Int), vs = [V.ref a] ∧ SqT K H a (ns.map V.int) ∧ Q (.int ns.sum) H
theorem cr_sumTup (hc : X.calm = true) : CallR X (.builtin "sum") (rSumTup X.K) := by
  intro pins s σ H vs us Q I r h
  obtain ⟨a, ns, rfl, hs, q⟩ := h
  obtain ⟨its, rv, ht, hz⟩ := I.tuple hs
  rw [Vals.ref1 r]
  have hi : IntsAre its ns := rv.ints
  obtain ⟨xs, e⟩ := hi.allInts.items
  have hn : numsOf (intItems xs).toList = ns := by rw [← e]; exact hi.numsOf
  rw [nums_intItems] at hn
  have hl : s.heap.IsTuple a its.toArray := ht
  rw [e] at hl
  refine PySem.W.ktm_sumG (I.ok.hd hc) hl fun h' tk t' hk => ?_
  have q' : EP X pins σ Q (.int ns.sum t') { s with heap := h', toks := tk } := ⟨.int _, H, I.kept hk, ⟨_, rfl⟩, q⟩
  rw [preSum_eq, List.take_of_length_le (by simp), hn]
  exact q'
theorem kcr_sumT {K : PySem.W.Frag} (hc : X.calm = true) (h : X.K = K := by rfl) : CallR X (.builtin "sum") (rSumTup K) := h ▸ cr_sumTup hc
theorem kcr_sum {K : PySem.W.Frag} (hc : X.calm = true) (h : X.K = K := by rfl) : CallR X (.builtin "sum") (rSum K) := h ▸ cr_sum hc
end
end L2
namespace W1
open PySem PyProof.Rows L2
section
variable {K : PySem.W.Frag} {B0 : Hp} {δ : DS} {ta : TE}
theorem w_sum {ns : List Int} (h : WE K B0 ta δ (.lst (ns.map .int))) : WE K B0 (tCB (rSum K) (tCons ta tNil)) δ (.int ns.sum) := fun B σ H e S => ed_cb (ea_cons (h B σ H e S) ea_nil) fun vs H2 _ r Q q => by
  obtain ⟨v, rfl, h⟩ := rps1 r
  obtain ⟨a, xs, rfl, s, nh, rr⟩ := rp_lst h
  have ex := ints_rps rr
  subst ex
  exact ⟨a, ns, rfl, SqL.of s, q _ _ H2 (Le.refl _) rfl (.int _)⟩
theorem w_sumT {ns : List Int} (h : WE K B0 ta δ (.tup (ns.map .int))) : WE K B0 (tCB (rSumTup K) (tCons ta tNil)) δ (.int ns.sum) := fun B σ H e S => ed_cb (ea_cons (h B σ H e S) ea_nil) fun vs H2 _ r Q q => by
  obtain ⟨v, rfl, h⟩ := rps1 r
  obtain ⟨a, xs, rfl, s, rr⟩ := rp_tup h
  have ex := ints_rps rr
  subst ex
  exact ⟨a, ns, rfl, s, q _ _ H2 (Le.refl _) rfl (.int _)⟩
end
end W1

set_option maxRecDepth 100000
set_option maxHeartbeats 4000000
/-! functions made within a def that have cells of their own besides the captured ones; lambdas with parameters -/
namespace L2
open PySem PySem.Spec PyProof.Rows NdefX LamX
theorem cf_app : ∀ (names : List (Str × NameKind)) (n : Nat) (acc : List (Str × Addr)), cellsFrom n names acc = cellsFrom n names [] ++ acc
  | [], _, _ => rfl
  | (x, k) :: r, n, acc => by
    unfold cellsFrom
    by_cases hk : (k == NameKind.cell) = true
    · rw [if_pos hk, if_pos hk, cf_app r (n + 1) ((x, n) :: acc), cf_app r (n + 1) [(x, n)], List.append_assoc]
      rfl
    · rw [if_neg hk, if_neg hk]
      exact cf_app r n acc
theorem cf_mem : ∀ {names : List (Str × NameKind)} {n : Nat} {acc : List (Str × Addr)} {y : Str} {c : Addr}, (y, c) ∈ cellsFrom n names acc → (y, NameKind.cell) ∈ names ∨ (y, c) ∈ acc
  | [], _, _, _, _, h => .inr h
  | (x, k) :: r, n, acc, y, c, h => by
    unfold cellsFrom at h
    by_cases hk : (k == NameKind.cell) = true
    · rw [if_pos hk] at h
      have ek : k = NameKind.cell := by
        cases k <;> first | rfl | cases hk
      rcases cf_mem h with h | h
      · exact .inl (List.mem_cons_of_mem _ h)
      · rcases List.mem_cons.mp h with e | h
        · injection e with e1 _
          rw [e1, ← ek]
          exact .inl (List.mem_cons_self ..)
        · exact .inr h
    · rw [if_neg hk] at h
      rcases cf_mem h with h | h
      · exact .inl (List.mem_cons_of_mem _ h)
      · exact .inr h
section
variable {M : Model} {A : Around} {E : Value → Shared → Prop} {s0 s : Shared} {m cm : Str → Option Value} {env : Env} {cs : List (Str × Addr)}
theorem put_loc {n : Str} {v : Value} {Q : Unit → Shared → Prop} (x : InCallC s0 env.locals m cs cm s) (hk : env.scope.kind = .function) (hl : env.kindOf n = some .local)
    (q : ∀ s2, InCallC s0 env.locals (fun y => if y = n then some v else m y) cs cm s2 → Q () s2) : wpAny M A (storeName env n v) Q E s := by
  refine wpAny_storeName_local hl x.toInCall.ns (fun g hn hs => q _ ⟨⟨?_, hn, ?_, x.toInCall.fresh⟩, ?_, x.apart, x.above⟩) (by rw [hk]; rfl)
  · obtain ⟨h1, tk, rfl⟩ := x.toInCall.same
    exact ⟨g, _, rfl⟩
  · intro b o e
    have hb : b ≠ env.locals := Nat.ne_of_lt (Nat.lt_of_lt_of_le (Heap.lt_size e) x.toInCall.fresh)
    exact hs.extBut b o hb (x.toInCall.keep b o e)
  · intro k c hc
    exact (x.cell k c hc).sameBut hs (Nat.ne_of_gt (x.above k c (PySem.mem_of_lookup hc)))
theorem put_cel {n : Str} {c : Addr} {v : Value} {Q : Unit → Shared → Prop} (x : InCallC s0 env.locals m cs cm s) (hk : env.scope.kind = .function) (hl : env.kindOf n = some .cell) (hc : env.cells.lookup n = some c) (hc2 : cs.lookup n = some c)
    (q : ∀ s2, InCallC s0 env.locals m cs (fun y => if y = n then some v else cm y) s2 → Q () s2) : wpAny M A (storeName env n v) Q E s := by
  have up := x.above n c (PySem.mem_of_lookup hc2)
  refine wpAny_storeName_cell hk hl hc (x.cell n c hc2) fun g hc' hs => q _ ⟨⟨?_, x.toInCall.ns.sameBut hs (Nat.ne_of_lt up), ?_, x.toInCall.fresh⟩, ?_, x.apart, x.above⟩
  · obtain ⟨h1, tk, rfl⟩ := x.toInCall.same
    exact ⟨g, _, rfl⟩
  · intro b o e
    have hb : b ≠ c := Nat.ne_of_lt (Nat.lt_trans (Nat.lt_of_lt_of_le (Heap.lt_size e) x.toInCall.fresh) up)
    exact hs.extBut b o hb (x.toInCall.keep b o e)
  · intro k d hd
    by_cases hkn : k = n
    · subst hkn
      rw [hc2] at hd
      cases hd
      simpa using hc'
    · rw [if_neg hkn]
      refine (x.cell k d hd).sameBut hs fun e => hkn ?_
      rw [e] at hd
      exact name_of_addr x.apart (PySem.mem_of_lookup hd) (PySem.mem_of_lookup hc2)
theorem put_all (f : Str × Value → PUnit → Sem (ForInStep PUnit)) (hf : ∀ n v u, f (n, v) u = (do storeName env n v; pure (.yield ⟨⟩))) (hk : env.scope.kind = .function) :
    ∀ (bs : List (Str × Value)) (m cm : Str → Option Value) (s : Shared) (Q : PUnit → Shared → Prop), InCallC s0 env.locals m cs cm s → (∀ y ∈ bs, env.kindOf y.1 = some .local ∨ (env.kindOf y.1 = some .cell ∧ ∃ c, env.cells.lookup y.1 = some c ∧ cs.lookup y.1 = some c)) →
      (∀ s2, InCallC s0 env.locals (bindL env.kindOf bs m) cs (bindC env.kindOf bs cm) s2 → Q ⟨⟩ s2) → wpAny M A (forIn bs ⟨⟩ f) Q E s
  | [], m, cm, s, Q, x, _, q => by
    rw [List.forIn_nil]
    exact wpAny_pure (q s x)
  | (n, v) :: r, m, cm, s, Q, x, hb, q => by
    rw [List.forIn_cons, hf]
    have hr := fun y hy => hb y (List.mem_cons_of_mem _ hy)
    rcases hb (n, v) (List.mem_cons_self ..) with hl | ⟨hl, c, h1, h2⟩
    · refine wpAny_bind (wpAny_bind (put_loc x hk hl fun s2 x2 => wpAny_pure (put_all f hf hk r _ _ s2 Q x2 hr fun s3 x3 => q s3 ?_)))
      unfold bindL bindC
      rw [if_pos hl, if_pos hl]
      exact x3
    · have nl : ¬ env.kindOf n = some .local := by
        rw [hl]
        decide
      refine wpAny_bind (wpAny_bind (put_cel x hk hl h1 h2 fun s2 x2 => wpAny_pure (put_all f hf hk r _ _ s2 Q x2 hr fun s3 x3 => q s3 ?_)))
      unfold bindL bindC
      rw [if_neg nl, if_neg nl]
      exact x3
/-- a frame with cells of its own, beside the captured ones -/
theorem newEnvM {scope : Scope} {globals : Addr} {cl : List (Str × Addr)} {bs : List (Str × Value)} {qual : Str} {func : Option Addr} {code : Value} {builtins : Addr} {Q : Env → Shared → Prop} (hk : scope.kind = .function)
    (hb : ∀ y ∈ bs, scope.names.lookup y.1 = some .local ∨ (scope.names.lookup y.1 = some .cell ∧ ((cellsFrom (s.heap.objs.size + 1) scope.names []).lookup y.1).isSome = true))
    (hQ : ∀ s2, InCallC s s.heap.objs.size (bindL (fun y => scope.names.lookup y) bs fun _ => none) (cellsFrom (s.heap.objs.size + 1) scope.names []) (bindC (fun y => scope.names.lookup y) bs fun _ => none) s2 →
      Q (newEnv scope s.heap.objs.size globals (cellsFrom (s.heap.objs.size + 1) scope.names [] ++ cl) qual func code none builtins) s2) : wpAny M A (newFunctionEnv scope globals cl bs qual func code none builtins) Q E s := by
  simp only [newFunctionEnv, Option.isSome_none, Bool.false_eq_true, if_false]
  refine wpAny_bind (wpAny_alloc ?_)
  refine wpAny_bind (wpAny_layCells _ (fun name kind cells => by cases e : kind == NameKind.cell <;> simp [e]) _ _ _ _ ?_)
  have sz : (s.heap.push { cls := .type "frame", data := .dict #[] }).objs.size = s.heap.objs.size + 1 := Heap.size_push ..
  have ok := cellsFrom_ok scope.names (s.heap.push { cls := .type "frame", data := .dict #[] }) (s.heap.objs.size + 1) [] ⟨fun _ _ z => (nomatch z), List.Pairwise.nil⟩ (by rw [sz]; exact Nat.le_refl _)
  rw [sz] at ok
  rw [show ({ s with heap := s.heap.push { cls := .type "frame", data := .dict #[] } } : Shared).heap.objs.size = s.heap.objs.size + 1 from sz, cf_app]
  refine wpAny_bind (put_all (s0 := s) (cs := cellsFrom (s.heap.objs.size + 1) scope.names []) (env := newEnv scope s.heap.objs.size globals (cellsFrom (s.heap.objs.size + 1) scope.names [] ++ cl) qual func code none builtins) _ (fun _ _ _ => rfl) hk bs (fun _ => none) (fun _ => none) _ _
    ⟨⟨⟨_, _, rfl⟩, (Heap.Ns.new s.heap (.type "frame")).keeps (pushCells_keeps _ _), fun b o e => pushCells_keeps _ _ b o (Heap.get?_push_of_some _ e), Nat.le_refl _⟩, fun n c hc => (ok.empty n c (PySem.mem_of_lookup hc)).1, ok.apart, fun n c hm => (ok.empty n c hm).2⟩
    (fun y hy => (hb y hy).imp id fun ⟨h1, h2⟩ => ?_) fun s2 x => wpAny_pure (hQ s2 x))
  obtain ⟨c, hc⟩ := Option.isSome_iff_exists.mp h2
  refine ⟨h1, c, ?_, hc⟩
  show (cellsFrom (s.heap.objs.size + 1) scope.names [] ++ cl).lookup y.1 = some c
  rw [List.lookup_append, hc]
  rfl
end
structure MScope (N ps fr : List Str) (sc : Scope) : Prop where
  kind : sc.kind = .function
  co : sc.isCoroutine = false
  gen : sc.isGenerator = false
  nd : N.Nodup
  pre : N.take (ps.length + fr.length) = ps ++ fr
  par : ∀ x ∈ ps, sc.names.lookup x = some .local ∨ sc.names.lookup x = some .cell
  uniq : ∀ y ∈ sc.names, sc.names.lookup y.1 = some y.2
  free : ∀ y ∈ sc.names, y.2 = .free → y.1 ∈ fr
  frk : ∀ x ∈ fr, sc.names.lookup x = some .free
def mscB (N ps fr : List Str) (sc : Scope) : Bool :=
  decide (sc.kind = .function) && !sc.isCoroutine && !sc.isGenerator && decide N.Nodup && decide (N.take (ps.length + fr.length) = ps ++ fr) && ps.all (fun x => decide (sc.names.lookup x = some .local) || decide (sc.names.lookup x = some .cell)) && sc.names.all (fun y => decide (sc.names.lookup y.1 = some y.2)) && sc.names.all (fun y => !decide (y.2 = .free) || decide (y.1 ∈ fr)) && fr.all (fun x => decide (sc.names.lookup x = some .free))
theorem mscope_by {N ps fr : List Str} {sc : Scope} (h : mscB N ps fr sc = true) : MScope N ps fr sc := by
  unfold mscB at h
  simp only [Bool.and_eq_true, Bool.not_eq_true', decide_eq_true_eq, List.all_eq_true, Bool.or_eq_true, decide_eq_false_iff_not] at h
  obtain ⟨⟨⟨⟨⟨⟨⟨⟨h1, h2⟩, h3⟩, h4⟩, h5⟩, h6⟩, h7⟩, h8⟩, h9⟩ := h
  exact ⟨h1, h2, h3, h4, h5, h6, h7, fun y hy e => (h8 y hy).elim (fun z => absurd e z) id, h9⟩
abbrev envM (qual : Str) (sc : Scope) (cl : List (Str × Addr)) (f c L : Addr) : Env := PySem.W.envX qual sc L f (.ref c) (cellsFrom (L + 1) sc.names [] ++ cl)
/-- the context of its body, at its entry -/
def mcx (CX : CXT) (P : Program) (w : World) (K : PySem.W.Frag) (mg : Str → Option Value) (base : Heap) (N : List Str) (qual : Str) (sc : Scope) (cl : List (Str × Addr)) (c f : Addr) (A : Around) (outer : List Env) (s : Shared) (H : Hp) (E : XK) : Cx :=
  { prog := P, w := w, K := K, mg := mg, base := base, A := A.deeper (envM qual sc cl f c s.heap.objs.size), N := N, s_0 := s, H_0 := H, env := envM qual sc cl f c s.heap.objs.size, outer := outer, stack := envM qual sc cl f c s.heap.objs.size :: outer, ex := [], fn := fun y => !decide (sc.names.lookup y = some .free), calm := true, pn := []
    xe := fun e s' => wpAny (model P w) (A.deeper (envM qual sc cl f c s.heap.objs.size)) (leaving (envM qual sc cl f c s.heap.objs.size) e) (fun _ s'' => CX outer H s E e s'') (fun e' s'' => CX outer H s E e' s'') s' }
section
variable {CX : CXT} {P : Program} {w : World} {K : PySem.W.Frag} {mg : Str → Option Value} {base : Heap} {N ps fr : List Str} {qual : Str} {sc : Scope} {cl : List (Str × Addr)} {c f : Addr} {A : Around} {outer : List Env} {s s1 : Shared} {H : Hp} {E : XK} {us : List Value} {vs : List V} {ws : List (Option V)}
theorem look_or {l1 l2 : List (Str × Addr)} {y : Str} {a : Addr} (h : (l1 ++ l2).lookup y = some a) : l1.lookup y = some a ∨ (l1.lookup y = none ∧ l2.lookup y = some a) := by
  rw [List.lookup_append] at h
  cases e : l1.lookup y with
  | some b =>
    rw [e] at h
    exact .inl h
  | none =>
    rw [e] at h
    exact .inr ⟨rfl, h⟩
theorem look_fst {l1 l2 : List (Str × Addr)} {y : Str} {a : Addr} (h : l1.lookup y = some a) : (l1 ++ l2).lookup y = some a := by
  rw [List.lookup_append, h]
  rfl
theorem inv_startM (S : MScope N ps fr sc) (hd : A.handled = none) (e0 : Env0 P w K mg base A outer s H) (hl : vs.length = ps.length) (r : Vals vs us) (C : CellsAt cl fr ws s.heap H) (only : ∀ y a, cl.lookup y = some a → y ∈ fr)
    (x : InCallC s s.heap.objs.size (bindL (fun y => sc.names.lookup y) (ps.zip us) fun _ => none) (cellsFrom (s.heap.objs.size + 1) sc.names []) (bindC (fun y => sc.names.lookup y) (ps.zip us) fun _ => none) s1) :
    Inv (mcx CX P w K mg base N qual sc cl c f A outer s H E) [] (startF N vs ws) H s1 := by
  have hpl : ps.length + fr.length ≤ N.length := by
    have q := congrArg List.length S.pre
    rw [List.length_take, List.length_append] at q
    omega
  obtain ⟨h1, tk, rfl, hk⟩ := x.done
  have noA : ∀ b : Addr, b ∉ (mcx CX P w K mg base N qual sc cl c f A outer s H E).ex := fun b z => absurd (show b ∈ ([] : List Addr) from z) (by simp)
  have up : ∀ {y a}, (cellsFrom (s.heap.objs.size + 1) sc.names []).lookup y = some a → s.heap.objs.size < a := fun {y a} e => x.above y a (PySem.mem_of_lookup e)
  have low : ∀ {y a}, cl.lookup y = some a → a < s.heap.objs.size := fun {y a} e => by
    obtain ⟨v, o, ho, _⟩ := (C.all y a e).2
    exact Heap.lt_size ho
  have nown : ∀ {y}, sc.names.lookup y = some .free → (cellsFrom (s.heap.objs.size + 1) sc.names []).lookup y = none := fun {y} e => by
    cases q : (cellsFrom (s.heap.objs.size + 1) sc.names []).lookup y with
    | none => rfl
    | some a =>
      rcases cf_mem (PySem.mem_of_lookup q) with z | z
      · have := S.uniq _ z
        rw [e] at this
        cases this
      · cases z
  have cellK : ∀ {a : Addr} {v : Option Value}, s.heap.IsCell a v → h1.IsCell a v := fun {a v} ⟨o, ho, hd⟩ => ⟨o, hk _ _ ho, hd⟩
  have capt : ∀ {i : Nat} {y : Str}, fr[i]? = some y → ∃ a, (cellsFrom (s.heap.objs.size + 1) sc.names [] ++ cl).lookup y = some a ∧ ∀ v, ws[i]? = some (some v) → ∃ u, L2.RelV v u ∧ h1.IsCell a (some u) := fun {i y} hi => by
    obtain ⟨a, ha, hv⟩ := C.has i y hi
    refine ⟨a, ?_, fun v hw => (hv v hw).imp fun u z => ⟨z.1, cellK z.2⟩⟩
    rw [List.lookup_append, nown (S.frk y (List.mem_of_getElem? hi))]
    exact ha
  refine ⟨⟨e0.mod, S.kind, rfl, rfl, Nat.le_refl _, fun y z a q1 q2 => ?_, fun y hy => ?_, fun y a hf h => ?_, fun _ => hd, Around.frames_deeper e0.frames, .inr ⟨rfl, rfl⟩, fun b z => absurd z (noA b), e0.bs, e0.bsz, fun b _ _ => noA b, fun b z => absurd z (noA b), e0.funs, e0.frf⟩,
    rfl, e0.bare, Un.kept hk, ⟨_, x.toInCall.ns, fun i y v q1 q2 q3 => ?_⟩, fun y a h => ?_, e0.hok.fresh (Nat.le_refl _), fun y a h => ?_, fun p hp => absurd (show p ∈ ([] : List (Addr × Obj)) from hp) (by simp), e0.hok.kept hk, ?_⟩
  · rcases look_or q1 with q1 | ⟨_, q1⟩ <;> rcases look_or q2 with q2 | ⟨_, q2⟩
    · exact name_of_addr x.apart (PySem.mem_of_lookup q1) (PySem.mem_of_lookup q2)
    · exact absurd (up q1) (Nat.lt_asymm (low q2))
    · exact absurd (up q2) (Nat.lt_asymm (low q1))
    · exact C.inj y z a q1 q2
  · have hy : sc.names.lookup y = some .cell ∨ sc.names.lookup y = some .free := hy
    rcases hy with hy | hy
    · obtain ⟨a, ha⟩ := cell_has (n := s.heap.objs.size + 1) hy
      exact ⟨a, look_fst ha⟩
    · obtain ⟨i, hi⟩ := List.mem_iff_getElem?.mp (S.free _ (PySem.mem_of_lookup hy) rfl)
      obtain ⟨a, ha, _⟩ := capt hi
      exact ⟨a, ha⟩
  · rcases look_or h with q | ⟨_, q⟩
    · exact Nat.le_of_lt (up q)
    · have hf : (!decide (sc.names.lookup y = some .free)) = true := hf
      rw [S.frk y (only y a q)] at hf
      simp at hf
  · have clen := C.len
    have q1 : N[i]? = some y := q1
    unfold startF at q2
    by_cases i1 : i < ps.length
    · have hq : (ps ++ fr)[i]? = some y := by
        rw [← S.pre, List.getElem?_take_of_lt (by omega)]
        exact q1
      rw [List.getElem?_append_left i1] at hq
      rw [List.getElem?_append_left (by rw [List.length_map]; omega), List.getElem?_map] at q2
      have ha : vs[i]? = some v := by
        cases e : vs[i]? with
        | none =>
          rw [e] at q2
          cases q2
        | some a =>
          rw [e] at q2
          cases q2
          rfl
      obtain ⟨u, hu, rv⟩ := r.get ha
      have ndP : ps.Nodup := by
        have q := S.nd.sublist (List.take_sublist (ps.length + fr.length) N)
        rw [S.pre] at q
        exact (List.nodup_append.mp q).1
      refine ⟨u, rv, ?_⟩
      rcases S.par y (List.mem_of_getElem? hq) with k | k
      · exact .inl ⟨k, bindL_get ndP hq hu k⟩
      · obtain ⟨a, e⟩ := cell_has (n := s.heap.objs.size + 1) k
        refine .inr ⟨.inl k, a, look_fst e, ?_⟩
        have q := x.cell y a e
        rw [bindC_get ndP hq hu (by show sc.names.lookup y ≠ _; rw [k]; decide)] at q
        exact q
    · rw [List.getElem?_append_right (by rw [List.length_map]; omega), List.length_map] at q2
      by_cases i2 : i < ps.length + fr.length
      · have hq : (ps ++ fr)[i]? = some y := by
          rw [← S.pre, List.getElem?_take_of_lt (by omega)]
          exact q1
        rw [List.getElem?_append_right (by omega)] at hq
        rw [List.getElem?_append_left (by omega), hl] at q2
        obtain ⟨a, ha, hv⟩ := capt hq
        obtain ⟨u, ru, hu⟩ := hv v q2
        exact ⟨u, ru, .inr ⟨.inr (S.frk y (List.mem_of_getElem? hq)), a, ha, hu⟩⟩
      · rw [List.getElem?_append_right (by omega), List.getElem?_replicate] at q2
        split at q2 <;> cases q2
  · rcases look_or h with q | ⟨_, q⟩
    · exact ⟨_, x.cell y a q⟩
    · obtain ⟨v, z⟩ := (C.all y a q).2
      exact ⟨v, cellK z⟩
  · rcases look_or h with q | ⟨_, q⟩
    · exact e0.hok.fresh (Nat.le_of_lt (up q))
    · exact (C.all y a q).1
  · have clen := C.len
    unfold startF
    show _ = N.length
    rw [List.length_append, List.length_append, List.length_map, List.length_replicate]
    omega
end
/-! what such a function promises -/
structure NokM (P : Program) (w : World) (K : PySem.W.Frag) (mg : Str → Option Value) (base : Heap) (CX : CXT) (k : Nat) (f : Addr) (F : NF) (ps fr : List Str) (sp : List (Option V) → Sp) : Prop where
  len : ∀ ws vs H Q E, sp ws vs H Q E → vs.length = ps.length
  run : ∀ (A : Around) (outer : List Env) (s : Shared) (H : Hp) (us : List Value) (vs : List V) (ws : List (Option V)) (Q : VK) (E : XK), Room k A → Env0 P w K mg base A outer s H → H f = some (FnO f F) → H F.c = some (CodeO F.c F.qual) →
    CellsAt F.cl fr ws s.heap H → (∀ y a, F.cl.lookup y = some a → y ∈ fr) → Vals vs us → sp ws vs H Q E → codeAny (model P w) A (.call (.ref f) ⟨us, []⟩) (CR CX outer P w H s Q E) s
section
variable {CX : CXT} {P : Program} {w : World} {K : PySem.W.Frag} {mg : Str → Option Value} {base : Heap} {N ps fr : List Str} {F : NF} {f : Addr} {k j : Nat} {sp sp' : List (Option V) → Sp}
theorem nokM_of (S : MScope N ps fr F.scope) (hb : ∀ (doc pm ctv : Value) (us : List Value), us.length = ps.length → bindArgs (F.fd doc pm ctv) ⟨us, []⟩ = pure (ps.zip us)) (len : ∀ ws vs H Q E, sp ws vs H Q E → vs.length = ps.length)
    (hbody : ∀ (A : Around) (outer : List Env) (s : Shared) (H : Hp) (vs : List V) (ws : List (Option V)) (Q : VK) (E : XK), Room k (A.deeper (envM F.qual F.scope F.cl f F.c s.heap.objs.size)) → ws.length = fr.length → sp ws vs H Q E →
      ∃ t, PSs (mcx CX P w K mg base N F.qual F.scope F.cl F.c f A outer s H E) F.body t ∧ t { nx := fun _ H' => Q .non H', rt := Q } (startF N vs ws) H) : NokM P w K mg base CX (k + 1) f F ps fr sp := by
  refine ⟨len, fun A outer s H us vs ws Q E hr e0 hf hc C only r hsp => ?_⟩
  have hl := len _ _ _ _ _ hsp
  have lim : s.heap.NoLimit := e0.mod.nolimit.keeps fun b o e => (e0.bs b o e).1
  obtain ⟨od, sl, doc, pm, ctv, ho⟩ := fnO_at e0.hok hf
  refine codeAny_call_function hr.depth ho rfl S.co S.gen rfl (codeO_at e0.hok hc) ?_
  rw [hb doc pm ctv us (by rw [← r.length]; exact hl)]
  refine wpAny_pure (newEnvM S.kind (fun ⟨n, v⟩ hy => (S.par n (List.of_mem_zip hy).1).imp id fun q => ⟨q, PySem.W.cellsFrom_some _ _ _ (.inl q)⟩) fun s2 x => ⟨lim.keeps x.toInCall.keep, ?_⟩)
  show codeAny _ _ (.func F.body (envM F.qual F.scope F.cl f F.c s.heap.objs.size)) _ _
  refine codeAny_func ?_
  obtain ⟨t, ht, hq⟩ := hbody A outer s H vs ws Q E (hr.deeper _) C.len hsp
  have I : Inv (mcx CX P w K mg base N F.qual F.scope F.cl F.c f A outer s H E) [] (startF N vs ws) H s2 := inv_startM S hr.hd e0 hl r C only x
  refine wpAny_mono (ht.run [] s2 (startF N vs ws) H _ I hq) (fun fl s3 hs => ?_) fun e s3 hs => hs
  have fin : ∀ {σ' : L2.St} {H' : Hp} {v : V} {u : Value}, Inv (mcx CX P w K mg base N F.qual F.scope F.cl F.c f A outer s H E) [] σ' H' s3 → L2.RelV v u → Q v H' → CE outer P w H s Q u s3 :=
    fun {σ' H' v u} J rv q => ⟨v, H', J.os, J.bare, J.base, J.hok, rv, q⟩
  cases fl with
  | ret u =>
    obtain ⟨v, σ', H', J, rv, q⟩ := hs
    exact fin J rv q
  | next =>
    obtain ⟨σ', H', J, q⟩ := hs
    exact fin (v := V.non) (u := Value.none) J rfl q
  | brk =>
    obtain ⟨_, _, _, q⟩ := hs
    exact False.elim q
  | cont =>
    obtain ⟨_, _, _, q⟩ := hs
    exact False.elim q
end
/-! lambdas -/
structure LF where
  qual : Str
  params : Arguments
  body : Expr
  scope : Scope
  cl : List (Str × Addr)
  c : Addr
abbrev LF.fd (F : LF) (pm ctv : Value) : FuncData := PySem.W.kla_fn "<lambda>" F.qual F.params F.body F.scope F.cl pm (.ref F.c) ctv
def FnL (f : Addr) (F : LF) : HO := .ext fun h => ∃ (pm ctv : Value), h.get? f = some (PySem.W.kla_obj "<lambda>" F.qual F.params F.body F.scope F.cl pm F.c ctv)
theorem fnL_at {P : Program} {w : World} {H : Hp} {h : Heap} {f : Addr} {F : LF} (hok : HOk P w H h) (e : H f = some (FnL f F)) : ∃ (pm ctv : Value), h.get? f = some (PySem.W.kla_obj "<lambda>" F.qual F.params F.body F.scope F.cl pm F.c ctv) := by
  obtain ⟨z, _, _⟩ := hok f _ e
  exact z
structure NokL (P : Program) (w : World) (K : PySem.W.Frag) (mg : Str → Option Value) (base : Heap) (CX : CXT) (k : Nat) (f : Addr) (F : LF) (ps fr : List Str) (sp : List (Option V) → Sp) : Prop where
  len : ∀ ws vs H Q E, sp ws vs H Q E → vs.length = ps.length
  run : ∀ (A : Around) (outer : List Env) (s : Shared) (H : Hp) (us : List Value) (vs : List V) (ws : List (Option V)) (Q : VK) (E : XK), Room k A → Env0 P w K mg base A outer s H → H f = some (FnL f F) → H F.c = some (CodeO F.c F.qual) →
    CellsAt F.cl fr ws s.heap H → (∀ y a, F.cl.lookup y = some a → y ∈ fr) → Vals vs us → sp ws vs H Q E → codeAny (model P w) A (.call (.ref f) ⟨us, []⟩) (CR CX outer P w H s Q E) s
section
variable {CX : CXT} {P : Program} {w : World} {K : PySem.W.Frag} {mg : Str → Option Value} {base : Heap} {N ps fr : List Str} {F : LF} {f : Addr} {k j : Nat} {sp sp' : List (Option V) → Sp}
theorem nokL_of (S : MScope N ps fr F.scope) (hb : ∀ (pm ctv : Value) (us : List Value), us.length = ps.length → bindArgs (F.fd pm ctv) ⟨us, []⟩ = pure (ps.zip us)) (len : ∀ ws vs H Q E, sp ws vs H Q E → vs.length = ps.length)
    (hbody : ∀ (A : Around) (outer : List Env) (s : Shared) (H : Hp) (vs : List V) (ws : List (Option V)) (Q : VK) (E : XK), Room k (A.deeper (envM F.qual F.scope F.cl f F.c s.heap.objs.size)) → ws.length = fr.length → sp ws vs H Q E →
      ∃ t, PE (mcx CX P w K mg base N F.qual F.scope F.cl F.c f A outer s H E) F.body t ∧ t (startF N vs ws) H Q) : NokL P w K mg base CX (k + 1) f F ps fr sp := by
  refine ⟨len, fun A outer s H us vs ws Q E hr e0 hf hc C only r hsp => ?_⟩
  have hl := len _ _ _ _ _ hsp
  have lim : s.heap.NoLimit := e0.mod.nolimit.keeps fun b o e => (e0.bs b o e).1
  obtain ⟨pm, ctv, ho⟩ := fnL_at e0.hok hf
  refine PySem.W.kla_callFunE hr.depth ho rfl S.co S.gen rfl (codeO_at e0.hok hc) ?_
  rw [hb pm ctv us (by rw [← r.length]; exact hl)]
  refine wpAny_pure (newEnvM S.kind (fun ⟨n, v⟩ hy => (S.par n (List.of_mem_zip hy).1).imp id fun q => ⟨q, PySem.W.cellsFrom_some _ _ _ (.inl q)⟩) fun s2 x => ⟨lim.keeps x.toInCall.keep, ?_⟩)
  show codeAny _ _ (.expr F.body (envM F.qual F.scope F.cl f F.c s.heap.objs.size)) _ _
  obtain ⟨t, ht, hq⟩ := hbody A outer s H vs ws Q E (hr.deeper _) C.len hsp
  have I : Inv (mcx CX P w K mg base N F.qual F.scope F.cl F.c f A outer s H E) [] (startF N vs ws) H s2 := inv_startM S hr.hd e0 hl r C only x
  refine PySem.W.kla_codeExpr (wpAny_mono (ht.run [] s2 (startF N vs ws) H Q I hq) (fun v s3 h3 => ?_) fun e s3 h3 => h3)
  obtain ⟨v2, H', J, rv, q⟩ := h3
  exact ⟨v2, H', J.os, J.bare, J.base, J.hok, rv, q⟩
end
end L2

set_option maxRecDepth 100000
set_option maxHeartbeats 4000000
/-! calls of them, told in data -/
namespace L2
open PySem PySem.Spec PyProof.Rows NdefX LamX
/-- all of Clo but what kind of function it is -/
structure CloC (H : Hp) (f : Addr) (F : NF) (fr : List Str) (ws : List V) : Prop where
  code : H F.c = some (CodeO F.c F.qual)
  len : ws.length = fr.length
  inj : ∀ x y c, F.cl.lookup x = some c → F.cl.lookup y = some c → x = y
  cel : ∀ y c, F.cl.lookup y = some c → ∃ v, H c = some (CelO c v)
  has : ∀ (i : Nat) y v, fr[i]? = some y → ws[i]? = some v → ∃ c, F.cl.lookup y = some c ∧ H c = some (CelO c v)
  nf : ∀ c, InC F c → c ≠ f ∧ c ≠ F.c
  only : ∀ y c, F.cl.lookup y = some c → y ∈ fr
def LF.nf (F : LF) : NF := ⟨"<lambda>", F.qual, F.params, [], F.scope, F.cl, F.c⟩
structure CloL (H : Hp) (f : Addr) (F : LF) (fr : List Str) (ws : List V) : Prop where
  fn : H f = some (FnL f F)
  core : CloC H f F.nf fr ws
section
variable {P : Program} {w : World} {K : PySem.W.Frag} {mg : Str → Option Value} {base : Heap} {H H' : Hp} {f : Addr} {F : NF} {G : LF} {fr ps : List Str} {ws : List V} {A : Around} {outer : List Env} {s s' : Shared} {k : Nat}
theorem Clo.core (C : Clo H f F fr ws) : CloC H f F fr ws := ⟨C.code, C.len, C.inj, C.cel, C.has, C.nf, C.only⟩
theorem CloC.held (C : CloC H f F fr ws) : HeldC F H := fun b ⟨y, hy⟩ => C.cel y b hy
theorem CloC.cells (C : CloC H f F fr ws) (hok : HOk P w H s.heap) : CellsAt F.cl fr (ws.map Option.some) s.heap (strip F H) := by
  refine ⟨by rw [List.length_map]; exact C.len, fun y c e => ⟨strip_in ⟨y, e⟩, ?_⟩, C.inj, fun i y e => ?_⟩
  · obtain ⟨v, hv⟩ := C.cel y c e
    obtain ⟨u, _, hu⟩ := celO_at hok hv
    exact ⟨_, hu⟩
  · have hi : i < ws.length := by
      rw [C.len]
      exact (List.getElem?_eq_some_iff.mp e).1
    obtain ⟨c, h1, h2⟩ := C.has i y ws[i] e (List.getElem?_eq_getElem hi)
    refine ⟨c, h1, fun v hv => ?_⟩
    rw [List.getElem?_map, List.getElem?_eq_getElem hi] at hv
    have ev : ws[i] = v := Option.some.inj (Option.some.inj hv)
    rw [← ev]
    exact celO_at hok h2
theorem CloC.run {Q : VK} {E : XK} {us : List Value} (C : CloC H f F fr ws) (e0 : Env0 P w K mg base A outer s H)
    (q : codeAny (model P w) A (.call (.ref f) ⟨us, []⟩) (CR CX0 outer P w (strip F H) s (fun v H' => (∀ b, InC F b → H' b = none) → Q v (unstrip F H H')) E) s) : codeAny (model P w) A (.call (.ref f) ⟨us, []⟩) (CR CX0 outer P w H s Q E) s :=
  codeAny_mono q fun r' s' h => by
    cases r' with
    | error e => exact h
    | ok fl =>
      cases fl with
      | ret u => exact strip_end C.held e0 h
      | next => exact h
      | brk => exact h
      | cont => exact h
theorem cloM_run {sp : List (Option V) → Sp} {us : List Value} {vs : List V} {Q : VK} {E : XK} (O : NokM P w K mg base CX0 k f F ps fr sp) (C : Clo H f F fr ws) (hr : Room k A) (e0 : Env0 P w K mg base A outer s H) (r : Vals vs us)
    (q : sp (ws.map Option.some) vs (strip F H) (fun v H' => (∀ b, InC F b → H' b = none) → Q v (unstrip F H H')) E) : codeAny (model P w) A (.call (.ref f) ⟨us, []⟩) (CR CX0 outer P w H s Q E) s := by
  have nfc : ¬ InC F f := fun h => (C.nf f h).1 rfl
  have ncc : ¬ InC F F.c := fun h => (C.nf F.c h).2 rfl
  exact C.core.run e0 (O.run A outer s (strip F H) us vs _ _ E hr (strip_env C.held e0) (by rw [strip_out nfc]; exact C.fn) (by rw [strip_out ncc]; exact C.code) (C.core.cells e0.hok) C.only r q)
theorem cloL_run {sp : List (Option V) → Sp} {us : List Value} {vs : List V} {Q : VK} {E : XK} (O : NokL P w K mg base CX0 k f G ps fr sp) (C : CloL H f G fr ws) (hr : Room k A) (e0 : Env0 P w K mg base A outer s H) (r : Vals vs us)
    (q : sp (ws.map Option.some) vs (strip G.nf H) (fun v H' => (∀ b, InC G.nf b → H' b = none) → Q v (unstrip G.nf H H')) E) : codeAny (model P w) A (.call (.ref f) ⟨us, []⟩) (CR CX0 outer P w H s Q E) s := by
  have nfc : ¬ InC G.nf f := fun h => (C.core.nf f h).1 rfl
  have ncc : ¬ InC G.nf G.c := fun h => (C.core.nf G.c h).2 rfl
  exact C.core.run e0 (O.run A outer s (strip G.nf H) us vs _ _ E hr (strip_env C.core.held e0) (by rw [strip_out nfc]; exact C.fn) (by rw [strip_out ncc]; exact C.core.code) (C.core.cells e0.hok) C.core.only r q)
end
end L2
namespace W1
open PySem PySem.Spec PyProof.Rows L2 NdefX LamX
section
variable {K : PySem.W.Frag} {H H' H0 : Hp} {f : Addr} {F : NF} {fr : List Str} {ws : List V}
theorem sqt_strip (C : HeldC F H) {a : Addr} {xs : List V} (h : SqT K H a xs) : SqT K (strip F H) a xs := by
  rcases h with (h | ⟨o, h⟩) | h
  · exact .inl (.inl (by rw [strip_out (HeldC.out C h fun φ z => HO.noConfusion z)]; exact h))
  · exact .inl (.inr ⟨o, by rw [strip_out (HeldC.out C h fun φ z => HO.noConfusion z)]; exact h⟩)
  · exact .inr h
mutual
theorem Rp.strip (C : HeldC F H) {v : V} {d : D} : Rp K H v d → Rp K (L2.strip F H) v d
  | .non => .non
  | .bl b => .bl b
  | .int i => .int i
  | .str x => .str x
  | .obj v => .obj v
  | .tup h r => .tup (sqt_strip C h) (Rps.strip C r)
  | .lst h n r => .lst (by rw [strip_out (HeldC.out C h fun φ z => HO.noConfusion z)]; exact h) n (Rps.strip C r)
theorem Rps.strip (C : HeldC F H) {vs : List V} {ds : List D} : Rps K H vs ds → Rps K (L2.strip F H) vs ds
  | .nil => .nil
  | .cons h r => .cons (Rp.strip C h) (Rps.strip C r)
end
theorem unstrip_ex (n : ∀ b, InC F b → H' b = none) : Le H' (unstrip F H H') := fun a o h => .inl (by
  rw [unstrip_out fun hc => by rw [n a hc] at h; cases h]
  exact h)
theorem le_unS (e : Le (strip F H) H') : Le H (unstrip F H H') := fun a o h => by
  by_cases hc : InC F a
  · exact .inl (by rw [unstrip_in hc]; exact h)
  · have h1 : strip F H a = some o := by rw [strip_out hc]; exact h
    rw [unstrip_out hc]
    exact e a o h1
theorem cloL_le {G : LF} (e : Le H H') (C : CloL H f G fr ws) : CloL H' f G fr ws :=
  ⟨e.ext C.fn, e.ext C.core.code, C.core.len, C.core.inj, fun y c h => (C.core.cel y c h).imp fun v hv => e.ext hv, fun i y v h1 h2 => (C.core.has i y v h1 h2).imp fun c h => ⟨h.1, e.ext h.2⟩, C.core.nf, C.core.only⟩
theorem cloL_leN {G : LF} (e : LeN H H') (C : CloL H f G fr ws) : CloL H' f G fr ws :=
  ⟨e.ext C.fn, e.ext C.core.code, C.core.len, C.core.inj, fun y c h => (C.core.cel y c h).imp fun v hv => e.ext hv, fun i y v h1 h2 => (C.core.has i y v h1 h2).imp fun c h => ⟨h.1, e.ext h.2⟩, C.core.nf, C.core.only⟩
end
/-- a promise of a function made within a def: es what it captured, ds its arguments -/
def spN (K : PySem.W.Frag) (R : List D → List D → Hp → D → Prop) : List (Option V) → Sp := fun ws vs H Q _ => ∃ us es ds d, ws = us.map some ∧ Rps K H us es ∧ Rps K H vs ds ∧ R es ds H d ∧ ∀ v H2, Le H H2 → Rp K H2 v d → Q v H2
section
variable {P : Program} {w : World} {K : PySem.W.Frag} {mg : Str → Option Value} {base : Heap} {N ps fr : List Str} {F : NF} {G : LF} {f : Addr} {k : Nat} {H0 : Hp} {ws : List V} {es : List D} {R : List D → List D → Hp → D → Prop} {R0 : List D → Hp → D → Prop}
theorem startF_D {H : Hp} {vs us : List V} {ds es : List D} {n : Nat} (hn : N.length = n) (r : Rps K H vs ds) (r2 : Rps K H us es) (hl : vs.length + us.length ≤ n) : Sl K H H (startF N vs (us.map some)) (startD n (ds ++ es)) := by
  have h := (sl_start (r.app r2) (n := n) (by rw [List.length_append]; exact hl)).1
  refine ⟨H, Le.refl _, Le.refl _, ?_⟩
  have e : startF N vs (us.map some) = (vs ++ us).map some ++ List.replicate (n - (vs ++ us).length) none := by
    unfold startF
    rw [List.map_append, List.append_assoc, List.length_append, List.length_map, hn, Nat.sub_sub]
  rw [e]
  exact h
abbrev kN (d : D) : DK := { nx := fun _ => d = .non, rt := fun x => x = d, rf := fun xs => D.lst xs = d }
theorem nokM_data (S : MScope N ps fr F.scope) (hb : ∀ (doc pm ctv : Value) (us : List Value), us.length = ps.length → bindArgs (F.fd doc pm ctv) ⟨us, []⟩ = pure (ps.zip us)) (hl : ∀ es ds H d, R es ds H d → ds.length = ps.length ∧ es.length = fr.length) (hN : ps.length + fr.length ≤ N.length)
    (body : ∀ (A : Around) (outer : List Env) (s : Shared) (H : Hp) (E : XK) (es ds : List D) (d : D), Room k (A.deeper (envM F.qual F.scope F.cl f F.c s.heap.objs.size)) → R es ds H d →
      ∃ t, PSs (mcx CX0 P w K mg base N F.qual F.scope F.cl F.c f A outer s H E).nox F.body t ∧ WS K H t (startD N.length (ds ++ es)) (kN d)) : NokM P w K mg base CX0 (k + 1) f F ps fr (spN K R) := by
  refine nokM_of S hb (fun ws vs H Q E ⟨us, es, ds, d, e1, r1, r2, h, _⟩ => by rw [r2.len]; exact (hl es ds H d h).1) fun A outer s H vs ws Q E hr hw ⟨us, es, ds, d, e1, r1, r2, h, q⟩ => ?_
  subst e1
  obtain ⟨t, h1, h2⟩ := body A outer s H E es ds d hr h
  refine ⟨t, h1.nox, h2 H (Le.refl _) _ _ H ⟨fun σ H' δ S e => q _ H' S.bh (by rw [show d = _ from e]; exact .non), fun _ _ _ _ w => w.elim, fun _ _ _ _ w => w.elim, fun v x H' l e r => q v H' l (by rw [← show x = d from e]; exact r), fun p us es H' _ l hp nh r e => q _ H' l (by rw [← show D.lst es = d from e]; exact .lst hp nh r)⟩ (startF_D rfl r2 r1 ?_)⟩
  rw [r2.len, r1.len, (hl es ds H d h).1, (hl es ds H d h).2]
  exact hN
theorem nokL_data (S : MScope N ps fr G.scope) (hb : ∀ (pm ctv : Value) (us : List Value), us.length = ps.length → bindArgs (G.fd pm ctv) ⟨us, []⟩ = pure (ps.zip us)) (hl : ∀ es ds H d, R es ds H d → ds.length = ps.length ∧ es.length = fr.length) (hN : ps.length + fr.length ≤ N.length)
    (body : ∀ (A : Around) (outer : List Env) (s : Shared) (H : Hp) (E : XK) (es ds : List D) (d : D), Room k (A.deeper (envM G.qual G.scope G.cl f G.c s.heap.objs.size)) → R es ds H d →
      ∃ t, PE (mcx CX0 P w K mg base N G.qual G.scope G.cl G.c f A outer s H E).nox G.body t ∧ WE K H t (startD N.length (ds ++ es)) d) : NokL P w K mg base CX0 (k + 1) f G ps fr (spN K R) := by
  refine nokL_of S hb (fun ws vs H Q E ⟨us, es, ds, d, e1, r1, r2, h, _⟩ => by rw [r2.len]; exact (hl es ds H d h).1) fun A outer s H vs ws Q E hr hw ⟨us, es, ds, d, e1, r1, r2, h, q⟩ => ?_
  subst e1
  obtain ⟨t, h1, h2⟩ := body A outer s H E es ds d hr h
  refine ⟨t, h1.nox, h2 H _ H (Le.refl _) (startF_D rfl r2 r1 ?_) H (Le.refl _) Q fun v x H2 e2 p r => q v H2 e2 (by rw [← show x = d from p]; exact r)⟩
  rw [r2.len, r1.len, (hl es ds H d h).1, (hl es ds H d h).2]
  exact hN
/-- what it promises to others -/
theorem calleeM (O : NokM P w K mg base CX0 k f F ps fr (spN K R)) (C : Clo H0 f F fr ws) (r : Rps K H0 ws es) (hR : ∀ H ds d, Le H0 H → HeldC F H → R0 ds H d → R es ds (strip F H) d) : Callee P w K mg base k f H0 (spD K fun ds H P => ∃ d, R0 ds H d ∧ P = is d) :=
  ⟨fun H s e hok _ => by
    obtain ⟨od, sl, doc, pm, ctv, ho⟩ := fnO_at hok (clo_le e C).fn
    exact ⟨_, od, _, sl, ho⟩, fun A outer s H us vs Q E hr e0 e rv q => by
    obtain ⟨ds, P1, r1, ⟨d, h1, rfl⟩, q⟩ := q
    have C' := clo_le e C
    exact cloM_run O C' hr e0 rv ⟨ws, es, ds, d, rfl, (r.le e).strip C'.held, r1.strip C'.held, hR H ds d e C'.held h1, fun v H2 e2 r2 n => q v d _ (le_unS e2) rfl (r2.le (unstrip_ex n))⟩⟩
theorem calleeL (O : NokL P w K mg base CX0 k f G ps fr (spN K R)) (C : CloL H0 f G fr ws) (r : Rps K H0 ws es) (hR : ∀ H ds d, Le H0 H → HeldC G.nf H → R0 ds H d → R es ds (strip G.nf H) d) : Callee P w K mg base k f H0 (spD K fun ds H P => ∃ d, R0 ds H d ∧ P = is d) :=
  ⟨fun H s e hok _ => by
    obtain ⟨pm, ctv, ho⟩ := fnL_at hok (cloL_le e C).fn
    exact ⟨_, _, _, _, ho⟩, fun A outer s H us vs Q E hr e0 e rv q => by
    obtain ⟨ds, P1, r1, ⟨d, h1, rfl⟩, q⟩ := q
    have C' := cloL_le e C
    exact cloL_run O C' hr e0 rv ⟨ws, es, ds, d, rfl, (r.le e).strip C'.core.held, r1.strip C'.core.held, hR H ds d e C'.core.held h1, fun v H2 e2 r2 n => q v d _ (le_unS e2) rfl (r2.le (unstrip_ex n))⟩⟩
end
end W1

set_option maxRecDepth 100000
set_option maxHeartbeats 4000000
/-! lambdas made in a def; a def that returns one -/
namespace L2
open PySem PySem.Spec PyProof.Rows NdefX LamX
theorem fnL_ne {f : Addr} {F : LF} (ps : Array Value) : FnL f F ≠ .tbl ps := fun z => by
  unfold FnL at z
  cases z
section
variable {X : Cx} {pins : List (Addr × Obj)} {σ : L2.St} {H : Hp} {s : Shared}
theorem inv_fnL {F : LF} {t' : Nat} {pm ctv : Value} (I : Inv X pins σ H s) :
    Inv X pins σ (upd H s.heap.objs.size (FnL s.heap.objs.size F)) { s with heap := s.heap.push (PySem.W.kla_obj "<lambda>" F.qual F.params F.body F.scope F.cl pm F.c ctv), toks := t' } := by
  refine I.laid (a := s.heap.objs.size) (fun b u e => Heap.get?_push_of_some _ e) (Nat.le_refl _) ?_
  have e : (s.heap.push (PySem.W.kla_obj "<lambda>" F.qual F.params F.body F.scope F.cl pm F.c ctv)).get? s.heap.objs.size = some (PySem.W.kla_obj "<lambda>" F.qual F.params F.body F.scope F.cl pm F.c ctv) := Heap.get?_push_size _ rfl
  exact ⟨⟨pm, ctv, e⟩, ⟨_, e⟩, fun h1 h2 ⟨p, d, z⟩ st => ⟨p, d, st _ z⟩⟩
abbrev lamOf (X : Cx) (params : Arguments) (body : Expr) (scope : Scope) (c' : Addr) : LF := ⟨X.env.qual ++ "<lambda>", params, body, scope, cloFrom X.env.cells scope.names [], c'⟩
theorem lam_makeN {T : List NTab} {nm : Nat → Nat → Str} {c P : Addr} {params : Arguments} {body : Expr} {scope : Scope} {pos : Pos} {E : Value → Shared → Prop} {Q : Value → Shared → Prop} (I : Inv X pins σ H s) (TB : TabB X.base X.mg c P) (hcode : X.env.code = .ref c)
    (hm : (P, nm) ∈ T) (hn : nm pos.line pos.col = X.env.qual ++ "<lambda>") (hu : ∀ p ∈ T, p.1 = P → p.2 = nm) (hT : TabsN T H) (hdef : defaultsOf params X.env = ([], [])) (hfree : ∀ y ∈ scope.names, y.2 = .free → ∃ c, X.env.cells.lookup y.1 = some c)
    (h : ∀ (f c' : Addr) (H1 : Hp) (s' : Shared), Inv X pins σ H1 s' → ExtN H H1 → (∀ b, H1 b = Option.none → H b = Option.none) → TabsN T H1 → H f = none → H1 f = some (FnL f (lamOf X params body scope c')) → H1 c' = some (CodeO c' (X.env.qual ++ "<lambda>")) → Q (.ref f) s') :
    wpAny (model X.prog X.w) X.A (eval (.Lambda params body scope pos) X.env) Q E s := by
  obtain ⟨ps, hP, ht, ha⟩ := (show TabN H P nm from hT _ hm)
  refine PySem.W.kla_eval hdef ?_
  have bP : s.heap.BuiltinsAt X.mg P := TB.bm.keeps I.bk
  have hP' : s.heap.get? P = some { cls := .none, data := .fields ps } := I.hok P _ hP
  cases hc : codeAmong pos ps.toList with
  | none =>
    refine PySem.W.kla_makeFunction (mg := X.mg) (c := c) (P := P) (ps := ps) (closure_ok hfree) I.ok.glob (I.mod.glob.keeps I.bk) hcode (TB.code.keeps I.bk) hP' ht hc TB.gP bP fun c' ctv h' tk hx hge hlt hrec htb => ?_
    obtain ⟨c2, oc, vs, t, e2, hoc, hd, hv⟩ := hrec
    cases e2
    have nC : H c' = none := I.hok.fresh hge
    have I1 := inv_table (t' := tk) (more := #[rawInt pos.line, rawInt pos.col, .ref c']) (h' := h') I hP (fun b o hb e => hx b o hb e) htb hge ⟨oc, vs, t, hoc, hd, hv⟩
    have hE : ExtN H (upd (upd H P (.tbl (ps ++ #[rawInt pos.line, rawInt pos.col, .ref c']))) c' (CodeO c' (X.env.qual ++ "<lambda>"))) := fun b o e n => by
      rw [upd_ne (ne_of_none e nC), upd_ne (fun z => n ps (Option.some.inj (e.symm.trans (by rw [z]; exact hP))))]
      exact e
    have eL : (ps ++ #[rawInt pos.line, rawInt pos.col, .ref c']).toList = ps.toList ++ [rawInt pos.line, rawInt pos.col, .ref c'] := by simp
    have T1 : TabsN T (upd (upd H P (.tbl (ps ++ #[rawInt pos.line, rawInt pos.col, .ref c']))) c' (CodeO c' (X.env.qual ++ "<lambda>"))) := fun p hp => by
      by_cases hb : p.1 = P
      · rw [hu p hp hb, hb]
        refine ⟨_, by rw [upd_ne (ne_of_none hP nC), upd_same], by rw [eL]; exact PySem.TriplesOk_snoc _ _ _ _ ht, fun p' cv hcv => ?_⟩
        rw [eL] at hcv
        rcases among_app2 _ ht hcv with z | ⟨z, z1, z2⟩
        · obtain ⟨c0, e1, e2⟩ := ha p' cv z
          exact ⟨c0, e1, hE _ _ e2 codeO_ne⟩
        · refine ⟨c', z, ?_⟩
          rw [← z1, ← z2, hn]
          exact upd_same
      · obtain ⟨ps', a1, a2, a3⟩ := hT p hp
        refine ⟨ps', by rw [upd_ne (ne_of_none a1 nC), upd_ne hb]; exact a1, a2, fun p' cv hcv => ?_⟩
        obtain ⟨c0, e1, e2⟩ := a3 p' cv hcv
        exact ⟨c0, e1, hE _ _ e2 codeO_ne⟩
    have nF := I1.hok.fresh (Nat.le_refl _)
    have I2 := inv_fnL (F := lamOf X params body scope c') (t' := tk) (pm := (X.mg "__name__").getD .none) (ctv := ctv) I1
    refine h h'.objs.size c' _ _ I2 (fun b o e n => ?_) (fun b e => upd_none (upd_none (upd_none e))) (T1.ext fun b o e => ?_) (I.hok.fresh (Nat.le_trans hge (Nat.le_of_lt hlt))) upd_same ?_
    · have e1 := hE b o e n
      exact (upd_ne (ne_of_none e1 nF)).trans e1
    · exact (upd_ne (ne_of_none e nF)).trans e
    · exact (upd_ne (Nat.ne_of_lt hlt)).trans upd_same
  | some cv =>
    obtain ⟨c', e, hco⟩ := ha pos cv hc
    subst e
    refine PySem.W.kla_makeFunctionHit (mg := X.mg) (c := c) (P := P) (ps := ps) (closure_ok hfree) I.ok.glob (I.mod.glob.keeps I.bk) hcode (TB.code.keeps I.bk) hP' ht hc bP fun ctv h' tk hx hsz => ?_
    have I1 : Inv X pins σ H { s with heap := h', toks := tk } := I.kept hx
    have nF := I1.hok.fresh (Nat.le_refl h'.objs.size)
    have I2 := inv_fnL (F := lamOf X params body scope c') (t' := tk) (pm := (X.mg "__name__").getD .none) (ctv := ctv) I1
    have same : ∀ b o, H b = some o → upd H h'.objs.size (FnL h'.objs.size (lamOf X params body scope c')) b = some o := fun b o e => (upd_ne (ne_of_none e nF)).trans e
    refine h h'.objs.size c' _ _ I2 (fun b o e _ => same b o e) (fun b e => upd_none e) (hT.ext same) nF upd_same (by
      rw [hn] at hco
      exact same _ _ hco)
end
def tLamN (T : List NTab) (mk : Addr → LF) : TE := fun σ H Q => TabsN T H ∧ ∀ (f c' : Addr) (H1 : Hp), ExtN H H1 → (∀ b, H1 b = Option.none → H b = Option.none) → TabsN T H1 → H f = none → H1 f = some (FnL f (mk c')) → H1 c' = some (CodeO c' (mk c').qual) → Q (.ref f) H1
section
variable {X : Cx}
theorem pe_lamN {T : List NTab} {nm : Nat → Nat → Str} {c P : Addr} {params : Arguments} {body : Expr} {scope : Scope} {pos : Pos} (TB : TabB X.base X.mg c P) (hcode : X.env.code = .ref c) (hm : (P, nm) ∈ T) (hn : nm pos.line pos.col = X.env.qual ++ "<lambda>") (hu : ∀ p ∈ T, p.1 = P → p.2 = nm)
    (hfree : ∀ y ∈ scope.names, y.2 = .free → X.env.scope.names.lookup y.1 = some .cell ∨ X.env.scope.names.lookup y.1 = some .free) (hdef : defaultsOf params X.env = ([], [])) : PE X (.Lambda params body scope pos) (tLamN T (lamOf X params body scope)) := by
  refine ⟨fun pins s σ H Q I h => ?_⟩
  obtain ⟨hT, h⟩ := h
  have hfr : ∀ y ∈ scope.names, y.2 = .free → ∃ c, X.env.cells.lookup y.1 = some c := fun y hy e => (hfree y hy e).elim (fun z => I.ok.has _ (.inl z)) fun z => I.ok.has _ (.inr z)
  exact lam_makeN I TB hcode hm hn hu hT hdef hfr fun f c' H1 s' I1 eN nn T1 f0 f1 c1 => ⟨.ref f, H1, I1, rfl, h f c' H1 eN nn T1 f0 f1 c1⟩
end
def MakerEndL (X : Cx) (fr : List Str) (js : List Nat) (ws : List V) (Q : VK) (σ : L2.St) (v : V) (H' : Hp) : Prop :=
  ∃ (g : Addr) (F : LF), v = .ref g ∧ H' g = some (FnL g F) ∧ H' F.c = some (CodeO F.c F.qual) ∧ (∀ y c, F.cl.lookup y = some c → y ∈ fr) ∧ (X.Ok → Caps X F.cl fr js) ∧ js.map (NdefX.slotAt σ) = ws.map some ∧
    ∀ H2 : Hp, (∀ b, ¬ InC F.nf b → H2 b = H' b) → (∀ b, InC F.nf b → H' b = none) → CloL H2 g F fr ws → Q (.ref g) H2
section
variable {P : Program} {w : World} {K : PySem.W.Frag} {mg : Str → Option Value} {base : Heap}
/-- def x(..): return lambda ..: .. -/
theorem maker_ofL {k : Nat} {f : Addr} {name qual : Str} {params : Arguments} {scope : Scope} {dV kV doc pm cdv ct oc : Value} {an od : Option Addr} {osl : Array (Option Value)} {N ps fr : List Str} {js : List Nat} {e : Expr} {pos : Pos} {sp : Sp}
    (lk : K.lookup f = some ⟨oc, od, .func (PySem.W.fnOf name qual params [.Return (some e) pos] scope dV kV doc pm an cdv ct), osl⟩) (hcd : PySem.W.codeIn K cdv qual = true) (S : FnScope N ps scope) (len : ∀ vs H Q E, sp vs H Q E → vs.length = ps.length) (nd : fr.Nodup)
    (hbody : ∀ (A : Around) (outer : List Env) (s : Shared) (H : Hp) (vs : List V) (Q : VK) (E : XK), Room k (A.deeper (envOfC qual scope s.heap.objs.size f cdv)) → sp vs H Q E →
      ∃ (t : TE) (ws : List V), PE (cxOf CX0 P w K mg base N qual scope f cdv A outer s H E) e t ∧ ws.length = fr.length ∧ t (start N vs) H (MakerEndL (cxOf CX0 P w K mg base N qual scope f cdv A outer s H E) fr js ws Q (start N vs))) :
    FnOk P w K mg base CX0 (k + 1) f (PySem.W.fnOf name qual params [.Return (some e) pos] scope dV kV doc pm an cdv ct) ps sp := by
  refine ⟨len, fun A outer s H args us vs Q E hr e0 hb r hsp => ?_⟩
  have hl := len _ _ _ _ hsp
  have KX : K.In s.heap := e0.mod.kin.keeps fun b o e => (e0.bs b o e).1
  have lim : s.heap.NoLimit := e0.mod.nolimit.keeps fun b o e => (e0.bs b o e).1
  refine codeAny_call_function hr.depth (KX _ _ lk) rfl S.co S.gen rfl (PySem.W.codeRec_of KX hcd) (hb _ _ _ _ ?_)
  refine wpAny_newFunctionEnv_cells S.kind (fun ⟨n, v⟩ hy => (S.par n (List.of_mem_zip hy).1).imp id fun q => ⟨q, PySem.W.cellsFrom_some _ _ _ (.inl q)⟩) fun env he s1 x1 => ?_
  subst he
  refine ⟨lim.keeps x1.toInCall.keep, codeAny_func ?_⟩
  obtain ⟨t, ws, ht, wl, hq⟩ := hbody A outer s H vs Q E (hr.deeper _) hsp
  have I : Inv (cxOf CX0 P w K mg base N qual scope f cdv A outer s H E) [] (start N vs) H s1 := inv_start S hr.hd e0 hl r x1
  refine wpAny_execs_cons (wpAny_Return_some (thn (ht.run [] s1 (start N vs) H _ I hq) fun u s3 ⟨v, H3, I3, rv, hm⟩ => ?_))
  obtain ⟨g, F, ev, hf, hc, honly, caps, hws, q⟩ := hm
  subst ev
  have caps := caps I3.ok
  have cells := cells_of I3 caps
  have inNone : ∀ b, InC F.nf b → H3 b = none := fun b ⟨y, hy⟩ => (cells.all y b hy).1
  have ge : ∀ b, InC F.nf b → s.heap.objs.size < b := fun b ⟨y, hy⟩ => by
    have h1 := caps.sub y b hy
    have h2 : (y, b) ∈ cellsFrom (s.heap.objs.size + 1) scope.names [] := PySem.mem_of_lookup h1
    have := cellsFrom_ge (n0 := s.heap.objs.size + 1) scope.names _ [] (fun y c h => nomatch h) (Nat.le_refl _) y b h2
    omega
  have outS : ∀ b o, H3 b = some o → ¬ InC F.nf b := fun b o hb hc => by
    rw [inNone b hc] at hb
    cases hb
  have wsat : ∀ i v, ws[i]? = some v → (js.map (NdefX.slotAt (start N vs)))[i]? = some (some v) := fun i v h => by
    rw [hws, List.getElem?_map, h]
    rfl
  have held : ∀ (i : Nat) y v, fr[i]? = some y → ws[i]? = some v → ∃ c, F.cl.lookup y = some c ∧ ∃ u, RelV v u ∧ s3.heap.IsCell c (some u) := fun i y v h1 h2 => by
    obtain ⟨c, hc, hv⟩ := cells.has i y h1
    exact ⟨c, hc, hv v (wsat i v h2)⟩
  have place : ∀ b, InC F.nf b → ∃ (i : Nat) (y : Str) (v : V), F.cl.lookup y = some b ∧ fr[i]? = some y ∧ ws[i]? = some v := fun b ⟨y, hy⟩ => by
    obtain ⟨i, hi⟩ := List.mem_iff_getElem?.mp (honly y b hy)
    have hil := (List.getElem?_eq_some_iff.mp hi).1
    rw [← wl] at hil
    exact ⟨i, y, ws[i], hy, hi, List.getElem?_eq_getElem hil⟩
  have C : CloL (addC F.nf fr ws H3) g F fr ws := by
    have nC : ¬ InC F.nf F.c := outS _ _ hc
    refine ⟨by rw [addC_out (outS g _ hf)]; exact hf, (addC_out nC).trans hc, wl, cells.inj, fun y c h => ?_, fun i y v h1 h2 => ?_, fun c hin => ⟨fun e => outS g _ hf (e ▸ hin), fun e => nC ?_⟩, honly⟩
    rotate_left
    rotate_left
    · rw [e] at hin
      exact hin
    · obtain ⟨i, y', v, h1, h2, h3⟩ := place c ⟨y, h⟩
      exact ⟨v, addC_in (F := F.nf) cells.inj nd h1 h2 h3⟩
    · obtain ⟨c, hc', _⟩ := held i y v h1 h2
      exact ⟨c, hc', addC_in (F := F.nf) cells.inj nd hc' h1 h2⟩
  have B := I3.base
  refine ⟨.ref g, addC F.nf fr ws H3, I3.os, I3.bare, ⟨fun b o hb hn hx => B.keep b o hb hn hx, fun b o hb hn hx => B.slot b o hb hn hx, fun b o hb hn hx => ?_, B.there, fun b xs hb => ?_, fun b o u hb => ?_, fun b ps hb => ?_⟩, fun a o e => ?_, rv, q _ (fun b h => addC_out h) inNone C⟩
  · have hlt : b < s.heap.objs.size := Heap.lt_size hb
    rw [addC_out fun hin => Nat.lt_asymm hlt (ge b hin)]
    exact B.free b o hb hn hx
  · have h1 := B.tups b xs hb
    rw [addC_out (outS b _ h1)]
    exact h1
  · have h1 := B.frzs b o u hb
    rw [addC_out (outS b _ h1)]
    exact h1
  · obtain ⟨more, h1⟩ := B.tbls b ps hb
    exact ⟨more, by rw [addC_out (outS b _ h1)]; exact h1⟩
  · by_cases hin : InC F.nf a
    · obtain ⟨i, y, v, h1, h2, h3⟩ := place a hin
      rw [addC_in (F := F.nf) cells.inj nd h1 h2 h3] at e
      cases e
      obtain ⟨c, hc', u', ru, hcell⟩ := held i y v h2 h3
      rw [h1] at hc'
      cases hc'
      refine ⟨⟨u', ru, hcell⟩, (let ⟨o, ho, _⟩ := hcell; ⟨o, ho⟩), fun h1 h2 ⟨u2, r2, o2, ho2, hd2⟩ k2 => ⟨u2, r2, o2, k2 o2 ho2, hd2⟩⟩
    · rw [addC_out hin] at e
      exact (I3.hok a o e).stay (fun b u _ q => q) (fun b q => by rw [addC_out (outS b _ q)]; exact q) fun b xs q => by
        rw [addC_out (outS b _ q)]
        exact q
end
end L2
namespace W1
open PySem PySem.Spec PyProof.Rows L2 NdefX LamX
def spMkL (T : List NTab) (n : Nat) (params : Arguments) (body : Expr) (sc : Scope) (q : Str) (fr : List Str) (W : List V → List V) : Sp := fun vs H Q _ => vs.length = n ∧ TabsN T H ∧
  ∀ (g : Addr) (F : LF) (H2 : Hp), F = ⟨q, params, body, sc, F.cl, F.c⟩ → LeN H H2 → TabsN T H2 → H g = none → (∀ b, InC F.nf b → H b = none) → CloL H2 g F fr (W vs) → Q (.ref g) H2
section
variable {P : Program} {w : World} {K : PySem.W.Frag} {mg : Str → Option Value} {base : Heap}
theorem mk_okL {k : Nat} {f c PT : Addr} {name qual : Str} {params lps : Arguments} {scope lsc : Scope} {dV kV doc pm ct oc : Value} {an od : Option Addr} {osl : Array (Option Value)} {N ps fr : List Str} {js : List Nat} {lb : Expr} {lpos pos2 : Pos} {T : List NTab} {nm : Nat → Nat → Str} {W : List V → List V}
    (lk : K.lookup f = some ⟨oc, od, .func (PySem.W.fnOf name qual params [.Return (some (.Lambda lps lb lsc lpos)) pos2] scope dV kV doc pm an (.ref c) ct), osl⟩) (hcd : PySem.W.codeIn K (.ref c) qual = true) (S : FnScope N ps scope)
    (TB : TabB base mg c PT) (hm : (PT, nm) ∈ T) (hn : ∀ L, nm lpos.line lpos.col = (envOfC qual scope L f (.ref c)).qual ++ "<lambda>") (hu : ∀ p ∈ T, p.1 = PT → p.2 = nm)
    (hfr : ndefB scope lsc fr = true) (hfr2 : ∀ z ∈ lsc.names, z.2 = .free → z.1 ∈ fr) (hdef : ∀ L, defaultsOf lps (envOfC qual scope L f (.ref c)) = ([], [])) (nd : fr.Nodup) (hjs : js.map (fun j => N[j]?) = fr.map some)
    (hW : ∀ vs, vs.length = ps.length → js.map (NdefX.slotAt (L2.start N vs)) = (W vs).map some) (hWl : ∀ vs, vs.length = ps.length → (W vs).length = fr.length) :
    FnOk P w K mg base CX0 (k + 1) f (PySem.W.fnOf name qual params [.Return (some (.Lambda lps lb lsc lpos)) pos2] scope dV kV doc pm an (.ref c) ct) ps (spMkL T ps.length lps lb lsc ((envOfC qual scope 0 f (.ref c)).qual ++ "<lambda>") fr W) := by
  refine maker_ofL (js := js) lk hcd S (fun vs H Q E h => h.1) nd fun A outer s H vs Q E hr h => ?_
  obtain ⟨hl, hT, q⟩ := h
  refine ⟨_, W vs, pe_lamN (X := cxOf CX0 P w K mg base N qual scope f (.ref c) A outer s H E) (T := T) (nm := nm) TB rfl hm (hn _) hu (ndef_free hfr) (hdef _), hWl vs hl, hT, fun g c' H1 eN lost T1 g0 g1 c1 => ?_⟩
  refine ⟨g, lamOf (cxOf CX0 P w K mg base N qual scope f (.ref c) A outer s H E) lps lb lsc c', rfl, g1, c1, fun z a e => ?_, fun ok => Caps.made ok (ndef_free hfr) (ndef_fr hfr) hjs, hW vs hl, fun H2 h1 h2 C => q g _ H2 rfl (fun a o h => ?_) (tabs_add h1 h2 T1) g0 (fun b hb => lost b (h2 b hb)) C⟩
  · rcases cloFrom_mem (PySem.mem_of_lookup e) with hm' | ⟨h1, _⟩
    · cases hm'
    · exact hfr2 _ h1 rfl
  · have h3 := eN a o (noT_some h).1 (noT_some h).2
    refine .inl ?_
    rw [h1 a fun hc => by rw [h2 a hc] at h3; cases h3]
    exact h3
end
end W1

set_option maxRecDepth 100000
set_option maxHeartbeats 4000000
/-! calls of what a name holds; what a function made within a def keeps to -/
namespace W1
open PySem PySem.Spec PyProof.Rows L2 NdefX LamX
def lamAt (st : Stmt) (j : Nat) : Expr := match (C8.fnBody st).getD j (.Pass ⟨0, 0, 0, 0⟩) with
  | .Return (some e) _ => e
  | _ => .Constant .none 0 ⟨0, 0, 0, 0⟩
def lamScope : Expr → Scope
  | .Lambda _ _ s _ => s
  | _ => ⟨.function, [], false, false, []⟩
def lamArgs : Expr → Arguments
  | .Lambda a _ _ _ => a
  | _ => ⟨[], [], none, [], [], none, []⟩
def lamBody : Expr → Expr
  | .Lambda _ b _ _ => b
  | e => e
def lfOf (e : Expr) (q : Str) (cl : List (Str × Addr)) (c : Addr) : LF := ⟨q, lamArgs e, lamBody e, lamScope e, cl, c⟩
section
variable {P : Program} {w : World} {K : PySem.W.Frag} {mg : Str → Option Value} {base : Heap} {kk i : Nat} {A : TA} {B0 H H' Hb : Hp} {δ : DS} {f : Addr} {R : List D → Hp → Pd → Prop} {ds : List D} {d : D} {F : NF}
theorem w_callV (hs : δ[i]? = some (some (.d (.obj (.ref f))))) (hc : Callee P w K mg base kk f B0 (spD K R)) (ha : WL K B0 A δ ds) (hR : ∀ H2, Le B0 H2 → R ds H2 (is d)) : WE K B0 (tCallV P w K mg base kk i A) δ d := fun B σ H e S => by
  have S0 := S
  obtain ⟨G, b, g, s⟩ := S
  obtain ⟨v, h1, u, rfl, r⟩ := s.slot hs
  have ev := rp_obj r
  subst ev
  exact ed_callV h1 (hc.le (e.trans S0.bh)) (ha B σ H e S0) fun H2 e2 => hR H2 ((e.trans S0.bh).trans e2)
theorem le_strip (e : Le Hb H) (n : ∀ b, InC F b → Hb b = none) : Le Hb (strip F H) := fun a o h => by
  have hn : ¬ InC F a := fun hc => by
    rw [n a hc] at h
    cases h
  rw [strip_out hn]
  exact e a o h
theorem clo_noT {fr : List Str} {ws : List V} (C : Clo H f F fr ws) : Clo (noT H) f F fr ws := clo_leN (H' := noT H) (fun a o h => .inl h) C
theorem cloL_noT {F : LF} {fr : List Str} {ws : List V} (C : CloL H f F fr ws) : CloL (noT H) f F fr ws := cloL_leN (H' := noT H) (fun a o h => .inl h) C
end
end W1

set_option maxRecDepth 100000
set_option maxHeartbeats 4000000
/-! blocks in which functions are made: tables of code objects grow -/
namespace W1
open PySem PySem.Spec PyProof.Rows L2 NdefX LamX
def sub : DS → DS → Prop
  | [], [] => True
  | none :: a, _ :: b => sub a b
  | some s :: a, some t :: b => s = t ∧ sub a b
  | _, _ => False
theorem sub_len : ∀ {a b : DS}, sub a b → a.length = b.length
  | [], [], _ => rfl
  | none :: a, _ :: b, h => congrArg (· + 1) (sub_len (a := a) (b := b) h)
  | some s :: a, some t :: b, h => congrArg (· + 1) (sub_len (a := a) (b := b) h.2)
  | some _ :: _, none :: _, h => h.elim
  | some _ :: _, [], h => h.elim
  | none :: _, [], h => h.elim
  | [], _ :: _, h => h.elim
theorem sub_at : ∀ {a b : DS} {i : Nat} {s : SD}, sub a b → a[i]? = some (some s) → b[i]? = some (some s)
  | none :: a, _ :: b, 0, s, h, e => by simp at e
  | none :: a, _ :: b, i + 1, s, h, e => by
    have := sub_at (a := a) (b := b) (i := i) (s := s) h (by simpa using e)
    simpa using this
  | some x :: a, some y :: b, 0, s, h, e => by
    obtain ⟨h1, _⟩ := h
    subst h1
    simpa using e
  | some x :: a, some y :: b, i + 1, s, h, e => by
    have := sub_at (a := a) (b := b) (i := i) (s := s) h.2 (by simpa using e)
    simpa using this
  | some _ :: _, none :: _, _, _, h, _ => h.elim
  | some _ :: _, [], _, _, h, _ => h.elim
  | none :: _, [], _, _, h, _ => h.elim
  | [], _ :: _, _, _, h, _ => h.elim
  | [], [], _, _, _, e => by simp at e
def flatH (B : Hp) : Prop := ∀ a ps, B a ≠ some (.tbl ps)
section
variable {K : PySem.W.Frag} {T : List NTab} {B B0 B' G G' H H' : Hp} {σ : L2.St} {δ δ' : DS} {k : DK} {D1 : Ends}
theorem SlG.sub (h : W1.sub δ' δ) (S : SlG K G H σ δ) : SlG K G H σ δ' := ⟨S.len.trans (sub_len h).symm, fun i v s h1 h2 => by
  cases s with
  | none => trivial
  | some s => exact S.val i v _ h1 (sub_at h h2), fun i j a ds es h1 h2 => S.inj i j a ds es (sub_at h h1) (sub_at h h2)⟩
theorem Sl.sub (h : W1.sub δ' δ) (S : Sl K B H σ δ) : Sl K B H σ δ' := by
  obtain ⟨G, b, g, s⟩ := S
  exact ⟨G, b, g, s.sub h⟩
theorem w_sub {tu : TS} (h : W1.sub δ' δ) (w : WS K B0 tu δ' k) : WS K B0 tu δ k := fun B e D1 σ H R S => w B e D1 σ H R (S.sub h)
theorem flat_noT (H : Hp) : flatH (noT H) := fun a ps h => (noT_some h).2 ps rfl
theorem le_noT (f : flatH B) (e : Le B H) : Le B (noT H) := fun a o h => by
  rcases e a o h with h1 | ⟨c, p, x, s, n, p', x', s', n', e1, e2, u, v⟩
  · exact .inl (noT_of h1 fun ps z => f a ps (by rw [h, z]))
  · exact .inr ⟨c, p, x, s, n, p', x', s', n', e1, noT_of e2 (fun ps z => HO.noConfusion z), u, v⟩
theorem Le.tblK {a : Addr} {ps : Array Value} (e : Le H H') (h : H a = some (.tbl ps)) : H' a = some (.tbl ps) := by
  rcases e a _ h with h1 | ⟨_, _, _, _, _, _, _, _, _, z, _⟩
  · exact h1
  · cases z
theorem tabsN_le (t : TabsN T H) (e : Le H H') : TabsN T H' := fun p hp => by
  obtain ⟨ps, h1, h2, h3⟩ := t p hp
  refine ⟨ps, e.tblK h1, h2, fun pos cv hc => ?_⟩
  obtain ⟨c, e1, e2⟩ := h3 pos cv hc
  exact ⟨c, e1, e.ext e2⟩
theorem SlG.mapD (no : noOwn δ = true) (f : ∀ u x, Rp K G u x → Rp K G' u x) (S : SlG K G H σ δ) : SlG K G' H' σ δ := ⟨S.len, fun i v s h1 h2 => by
  cases s with
  | none => trivial
  | some s =>
    cases s with
    | d x =>
      obtain ⟨u, e, r⟩ := S.val i v _ h1 h2
      exact ⟨u, e, f u x r⟩
    | own ds => exact absurd h2 (no_own no i ds), fun i j a ds es h1 => absurd h1 (no_own no i ds)⟩
structure SN (K : PySem.W.Frag) (T : List NTab) (B H : Hp) (σ : L2.St) (δ : DS) : Prop where
  sl : Sl K B H σ δ
  no : noOwn δ = true
  tb : TabsN T H
structure RefsN (K : PySem.W.Frag) (T : List NTab) (B : Hp) (k : DK) (D1 : Ends) : Prop where
  nx : ∀ σ H δ, SN K T B H σ δ → k.nx δ → D1.nx σ H
  ct : ∀ σ H δ, SN K T B H σ δ → k.ct δ → D1.ct σ H
  bk : ∀ σ H δ, SN K T B H σ δ → k.bk δ → D1.bk σ H
  rt : ∀ v d H, Le B H → k.rt d → Rp K H v d → D1.rt v H
def WN (K : PySem.W.Frag) (T : List NTab) (B0 : Hp) (ts : TS) (δ : DS) (k : DK) : Prop := ∀ B, Le B0 B → flatH B → ∀ D1 σ H, RefsN K T B k D1 → SN K T B H σ δ → ts D1 σ H
variable {tu tw tz ts : TS} {t : TT}
theorem RefsN.up (e : Le B B') (R : RefsN K T B k D1) : RefsN K T B' k D1 := ⟨fun σ H δ S => R.nx σ H δ ⟨S.sl.base e, S.no, S.tb⟩, fun σ H δ S => R.ct σ H δ ⟨S.sl.base e, S.no, S.tb⟩, fun σ H δ S => R.bk σ H δ ⟨S.sl.base e, S.no, S.tb⟩, fun v d H l => R.rt v d H (e.trans l)⟩
theorem SN.le (e : Le H H') (S : SN K T B H σ δ) : SN K T B H' σ δ := ⟨S.sl.le e, S.no, tabsN_le S.tb e⟩
theorem wn_sub (h : W1.sub δ' δ) (no : noOwn δ' = true) (w : WN K T B0 tu δ' k) : WN K T B0 tu δ k := fun B e f D1 σ H R S => w B e f D1 σ H R ⟨S.sl.sub h, no, S.tb⟩
theorem wn_base (e : Le B0 B) (w : WN K T B0 tu δ k) : WN K T B tu δ k := fun B' e' => w B' (e.trans e')
theorem wn_of (h : WS K B0 tu δ { nx := fun δ' => noOwn δ' = true ∧ k.nx δ', rt := k.rt, rf := fun _ => False, ct := fun δ' => noOwn δ' = true ∧ k.ct δ', bk := fun δ' => noOwn δ' = true ∧ k.bk δ' }) : WN K T B0 tu δ k := fun B e f D1 σ H R S => by
  obtain ⟨G, b, g, s⟩ := S.sl
  have bh := b.trans g
  exact h H (e.trans bh) D1 σ H ⟨fun σ' H' δ' S' w => R.nx σ' H' δ' ⟨S'.base bh, w.1, tabsN_le S.tb S'.bh⟩ w.2, fun σ' H' δ' S' w => R.ct σ' H' δ' ⟨S'.base bh, w.1, tabsN_le S.tb S'.bh⟩ w.2, fun σ' H' δ' S' w => R.bk σ' H' δ' ⟨S'.base bh, w.1, tabsN_le S.tb S'.bh⟩ w.2, fun v d H' l w r => R.rt v d H' (bh.trans l) w r, fun _ _ _ _ _ _ _ _ _ w => w.elim⟩ ⟨H, Le.refl _, Le.refl _, s.upNo g S.no⟩
theorem wn_seq (h : WN K T B0 tu δ { k with nx := fun δ' => WN K T B0 tz δ' k }) : WN K T B0 (tSeq tu tz) δ k := fun B e f D1 σ H R S => h B e f { D1 with nx := tz D1 } σ H ⟨fun σ' H' δ' S' w => w B e f D1 σ' H' R S', R.ct, R.bk, R.rt⟩ S
theorem wn_nx {M : DS → Prop} (h : WN K T B0 tu δ { k with nx := M }) (w : ∀ δ', M δ' → k.nx δ') : WN K T B0 tu δ k := fun B e f D1 σ H R S => h B e f D1 σ H ⟨fun σ' H' δ' S' m => R.nx σ' H' δ' S' (w δ' m), R.ct, R.bk, R.rt⟩ S
theorem wn_cut (M : DS → Prop) (h : WN K T B0 tu δ { k with nx := M }) (w : ∀ δ', M δ' → WN K T B0 tz δ' k) : WN K T B0 (tSeq tu tz) δ k := wn_seq (wn_nx (k := { k with nx := fun δ' => WN K T B0 tz δ' k }) (M := M) h w)
theorem wn_next (n : k.nx δ) : WN K T B0 tNext δ k := fun B e f D1 σ H R S => R.nx σ H δ S n
theorem wn_if {P : Bool → Prop} (h : WT K B0 t δ P) (h1 : P true → WN K T B0 tu δ k) (h2 : P false → WN K T B0 tw δ k) : WN K T B0 (tIfS t tu tw) δ k := fun B e f D1 σ H R S => s_if (h B σ H e S.sl) (fun p H1 e1 => h1 p B e f D1 σ H1 R (S.le e1)) fun p H1 e1 => h2 p B e f D1 σ H1 R (S.le e1)
theorem wn_ifB {b : Bool} (h : WB K B0 t δ b) (h1 : b = true → WN K T B0 tu δ k) (h2 : b = false → WN K T B0 tw δ k) : WN K T B0 (tIfS t tu tw) δ k := wn_if h (fun p => h1 p.symm) fun p => h2 p.symm
theorem wnq_whenB {b : Bool} (h : WB K B0 t δ b) (h1 : b = true → WN K T B0 tu δ { k with nx := fun δ' => WN K T B0 tz δ' k }) (h2 : b = false → WN K T B0 tz δ k) : WN K T B0 (tSeq (tIfS t tu tNext) tz) δ k := wn_seq (wn_ifB h h1 fun e => wn_next (h2 e))
/-- a test that comes out false, nothing behind -/
theorem wn_no (h : WB K B0 t δ false) (n : k.nx δ) : WN K T B0 (tIfS t tu tNext) δ k := wn_ifB h (fun e => nomatch e) fun _ => wn_next n
theorem wnq_no (h : WB K B0 t δ false) (n : WN K T B0 tz δ k) : WN K T B0 (tSeq (tIfS t tu tNext) tz) δ k := wn_seq (wn_no h n)
theorem wn_ret {te : TE} {P : D → Prop} (h : WP K B0 te δ P) (n : ∀ x, P x → k.rt x) : WN K T B0 (tRet te) δ k := fun B e f D1 σ H R S => s_ret (h B σ H e S.sl) fun v d H1 e1 p r => R.rt v d H1 (S.sl.bh.trans e1) (n d p) r
theorem refs_loopN {I : Nat → DS → Prop} {m : Nat} (R : RefsN K T B k D1) : RefsN K T B (k.loop (I m)) { D1 with nx := fun σ' H' => ∃ δ', I m δ' ∧ SN K T B H' σ' δ', ct := fun σ' H' => ∃ δ', I m δ' ∧ SN K T B H' σ' δ', bk := D1.nx } :=
  ⟨fun σ H δ S w => ⟨δ, w, S⟩, fun σ H δ S w => ⟨δ, w, S⟩, fun σ H δ S w => R.nx σ H δ S w, R.rt⟩
theorem wn_forR {A : TA} {n : Int} {i : Nat} (h : WL K B0 A δ [.int n]) (hn : -100000 ≤ n ∧ n ≤ 100000) (I : Nat → DS → Prop) (h0 : I 0 δ) (hs : ∀ (m : Nat) δ', (m : Int) < n → noOwn δ' = true → I m δ' → WN K T B0 tu (δ'.set i (some (.d (.int (m : Int))))) (k.loop (I (m + 1)))) (hd : ∀ δ', I n.toNat δ' → k.nx δ') :
    WN K T B0 (tFor (iRng1 A) (gName i) tu) δ k := fun B e f D1 σ H R S => s_forR1 (K := K) (h B σ H e S.sl) hn fun H1 e1 => ⟨fun m σ' H' => ∃ δ', I m δ' ∧ SN K T B H' σ' δ', ⟨δ, h0, S.le e1⟩, fun m σ' H' hm ⟨δ', hI, S'⟩ => by
      obtain ⟨G, b, g, s⟩ := S'.sl
      exact hs m δ' hm S'.no hI B e f _ _ H' (refs_loopN R) ⟨⟨G, b, g, s.setD (.int _)⟩, no_set S'.no (fun ds z => nomatch z), S'.tb⟩, fun σ' H' ⟨δ', hI, S'⟩ => R.nx σ' H' δ' S' (hd δ' hI)⟩
/-- a function is made -/
theorem wn_mk {n : Nat} {st : Stmt} {y q : Str} {fr : List Str} {W : List V → List V} {A : TA} {PA : List D → Prop} {cont : V → TS} (hts : ∀ D σ H, ts D σ H = (tCall (spMk T n st y q fr W) [] E0 A) σ H fun v H1 => cont v D σ H1)
    (hA : WA K B0 A δ PA) (hn : ∀ ds, PA ds → ds.length = n)
    (c : ∀ ds vs B2 g F, PA ds → flatH B2 → Le B0 B2 → Rps K B2 vs ds → F = NF.of st y q F.cl F.c → Clo B2 g F fr (W vs) → (∀ b, InC F b → B0 b = none) → WN K T B2 (cont (.ref g)) δ k) : WN K T B0 ts δ k := fun B e f D1 σ H R S => by
  rw [hts]
  refine hA B σ H e S.sl H (Le.refl _) _ fun vs ds H1 e1 p r => ?_
  have S1 := S.le e1
  have bh := S1.sl.bh
  rw [List.append_nil]
  refine ⟨by rw [r.len]; exact hn ds p, S1.tb, fun g F H2 eF eN T2 g0 hc C => ?_⟩
  have b2 : Le B (noT H2) := (le_noT f bh).trans (LeN.noT eN)
  obtain ⟨G, b, gg, s⟩ := S1.sl
  exact c ds vs (noT H2) g F p (flat_noT H2) (e.trans b2) ((r.leN eN).noT) eF (clo_noT C) (fun b hb => e.fresh (bh.fresh (hc b hb))) (noT H2) (Le.refl _) (flat_noT H2) D1 σ H2 (R.up b2)
    ⟨⟨noT H2, Le.refl _, fun a o h => .inl (noT_some h).1, (s.upNo gg S.no).mapD S.no fun u x r => (r.leN eN).noT⟩, S.no, T2⟩
theorem wn_mkL {n : Nat} {lps : Arguments} {lb : Expr} {lsc : Scope} {q : Str} {fr : List Str} {W : List V → List V} {A : TA} {PA : List D → Prop} {cont : V → TS} (hts : ∀ D σ H, ts D σ H = (tCall (spMkL T n lps lb lsc q fr W) [] E0 A) σ H fun v H1 => cont v D σ H1)
    (hA : WA K B0 A δ PA) (hn : ∀ ds, PA ds → ds.length = n)
    (c : ∀ ds vs B2 g F, PA ds → flatH B2 → Le B0 B2 → Rps K B2 vs ds → F = ⟨q, lps, lb, lsc, F.cl, F.c⟩ → CloL B2 g F fr (W vs) → (∀ b, InC F.nf b → B0 b = none) → WN K T B2 (cont (.ref g)) δ k) : WN K T B0 ts δ k := fun B e f D1 σ H R S => by
  rw [hts]
  refine hA B σ H e S.sl H (Le.refl _) _ fun vs ds H1 e1 p r => ?_
  have S1 := S.le e1
  have bh := S1.sl.bh
  rw [List.append_nil]
  refine ⟨by rw [r.len]; exact hn ds p, S1.tb, fun g F H2 eF eN T2 g0 hc C => ?_⟩
  have b2 : Le B (noT H2) := (le_noT f bh).trans (LeN.noT eN)
  obtain ⟨G, b, gg, s⟩ := S1.sl
  exact c ds vs (noT H2) g F p (flat_noT H2) (e.trans b2) ((r.leN eN).noT) eF (cloL_noT C) (fun b hb => e.fresh (bh.fresh (hc b hb))) (noT H2) (Le.refl _) (flat_noT H2) D1 σ H2 (R.up b2)
    ⟨⟨noT H2, Le.refl _, fun a o h => .inl (noT_some h).1, (s.upNo gg S.no).mapD S.no fun u x r => (r.leN eN).noT⟩, S.no, T2⟩
/-- a value that the heap knows: the heap is told what is found out -/
theorem wn_asg {te : TE} {i : Nat} {P : D → Hp → Prop} (h : ∀ B σ H, Le B0 B → Sl K B H σ δ → EP K te σ H P) (n : ∀ x B2, flatH B2 → Le B0 B2 → (∃ H, P x H ∧ B2 = noT H) → WN K T B2 tz (δ.set i (some (.d x))) k) : WN K T B0 (tSeq (tAsg te (gName i)) tz) δ k := fun B e f D1 σ H R S =>
  h B σ H e S.sl H (Le.refl _) _ fun v x H1 e1 p r => by
    have S1 := S.le e1
    have b2 : Le B (noT H1) := le_noT f S1.sl.bh
    obtain ⟨G, b, gg, s⟩ := S1.sl
    exact n x (noT H1) (flat_noT H1) (e.trans b2) ⟨H1, p, rfl⟩ (noT H1) (Le.refl _) (flat_noT H1) D1 _ H1 (R.up b2)
      ⟨⟨noT H1, Le.refl _, fun a o h => .inl (noT_some h).1, ((s.upNo gg S.no).mapD (H' := H1) S.no fun u x r => r.noT).setD r.noT⟩, no_set S.no (fun ds z => nomatch z), S1.tb⟩
end
end W1

set_option maxRecDepth 100000
set_option maxHeartbeats 4000000
/-! what a law's own text says besides: draws, three at once, calls that may raise -/
namespace W1
open PySem PySem.Spec PyProof.Rows L2 NdefX LamX
section
variable {K : PySem.W.Frag} {T : List NTab} {B0 H : Hp} {δ : DS} {te ta tb : TE} {A : TA} {d : D} {k : DK} {tz : TS} {i j l : Nat}
theorem wp_draw {E : XK} {h : Addr} {m : Int} (hh : Hand B0 h) (hA : WL K B0 A δ [.obj (.ref h), .int m]) (h1 : 1 ≤ m ∧ m ≤ 1000000) : WP K B0 (tCall (spD K R_draw) [] E A) δ (isI0 fun r => 0 ≤ r ∧ r < m) := wp_callD hA fun H2 e2 => ⟨h, m, rfl, hh.le e2, h1.1, h1.2, rfl⟩
theorem wp_plus {c m : Int} (hb : WP K B0 tb δ (isI0 fun r => 0 ≤ r ∧ r < m)) : WP K B0 (tOp (rI0 fun i j => .int (i + j)) (tC (.int c)) tb) δ (isI0 fun r => c ≤ r ∧ r < c + m) := wp_I0 (P1 := fun i => i = c) (w_int.isI rfl) hb fun i j e p => by
  subst e
  omega
theorem wt_draw0 {E : XK} {h : Addr} {m : Int} (hh : Hand B0 h) (hA : WL K B0 A δ [.obj (.ref h), .int m]) (h1 : 1 ≤ m ∧ m ≤ 1000000) : WT K B0 (tTest (tOp rEq (tCall (spD K R_draw) [] E A) (tC (.int 0)))) δ fun _ => True := (wt_eqI (wp_draw hh hA h1)).weak fun _ _ => trivial
theorem w_par3 {PA : List D → Prop} (h : WA K B0 A δ PA) (ok : noOwn δ = true ∨ ∀ xs, PA xs → ∀ x ∈ xs, NoL x) (n : ∀ ds, PA ds → ∃ x y z, ds = [x, y, z] ∧ k.nx (((δ.set i (some (.d x))).set j (some (.d y))).set l (some (.d z)))) : WS K B0 (tPar3 i j l A) δ k := fun B e D1 σ H R S => h B σ H e S H (Le.refl _) _ fun vs ds H1 e1 p r => by
  obtain ⟨x, y, z, rfl, n⟩ := n ds p
  obtain ⟨G, b, g, s, r⟩ := slx_ok (S.le e1) r (ok.imp id fun ok => ok _ p)
  obtain ⟨v1, v2, v3, rfl, r1, r2, r3⟩ := rps3 r
  exact ⟨_, _, _, rfl, R.nx _ _ _ ⟨G, b, g, ((s.setD r1).setD r2).setD r3⟩ n⟩
theorem wp_ixLp {ds : List D} (ha : WE K B0 ta δ (.lst ds)) (hb : WP K B0 tb δ (isI0 fun i => 0 ≤ i ∧ i < ds.length)) : WP K B0 (tOp (rIxL K) ta tb) δ (fun d => d ∈ ds) := fun B σ H e S =>
  ep_op (ha B σ H e S) (hb B σ H e S) fun x y d1 d2 H1 H2 _ _ p1 ⟨i, e2, i0, i1⟩ r1 r2 Q q => by
    have p1' : d1 = .lst ds := p1
    subst p1' e2
    obtain ⟨a, xs, rfl, s, nh, rr⟩ := rp_lst r1
    have hd : ds[i.toNat]? = some ds[i.toNat] := List.getElem?_eq_getElem (by omega)
    obtain ⟨u, hu, ru⟩ := rr.at hd
    have hx : i.toNat < xs.length := by
      rw [rr.len]
      omega
    refine ⟨a, xs, i, u, rfl, rp_int r2, SqL.of s, ?_, q u _ H2 (Le.refl _) (List.getElem_mem _) ru⟩
    have := atI_nat hu
    rwa [show ((i.toNat : Nat) : Int) = i by omega] at this
theorem wp_callX {R : List D → Hp → Out → Prop} {E : XK} {P : D → Prop} {PA : List D → Prop} (h : WA K B0 A δ PA) (hr : ∀ ds H2, Le B0 H2 → PA ds → R ds H2 (.ret fun d _ => P d)) : WP K B0 (tCall (spX K R) [] E A) δ P := fun B σ H e S => fun H1 e1 Q q =>
  h B σ H e S H1 e1 _ fun vs ds H2 e2 p r => by
    have := hr ds H2 ((e.trans S.bh).trans (e1.trans e2)) p
    exact ep_callX (A := fun _ H Q => Q vs H) (fun H3 e3 Q q => q vs ds H3 (Le.refl _) rfl (r.le e3)) (fun H3 e3 => hr ds H3 (((e.trans S.bh).trans (e1.trans e2)).trans e3) p) (σ := σ) H2 (Le.refl _) Q fun v d H3 e3 p r => q v d H3 (e2.trans e3) p r
theorem w_isnB {a b : Bool} (ha : WE K B0 ta δ (.bl a)) (hb : WE K B0 tb δ (.bl b)) : WE K B0 (tOp (fun x y H Q => ∃ a b, x = .bl a ∧ y = .bl b ∧ Q (.bl (!decide (a = b))) H) ta tb) δ (.bl (!decide (a = b))) := fun B σ H e S => ed_op (ha B σ H e S) (hb B σ H e S) fun x y H2 _ r1 r2 Q q => ⟨a, b, rp_bl r1, rp_bl r2, q _ _ H2 (Le.refl _) rfl (.bl _)⟩
theorem wn_par {PA : List D → Hp → Prop} (hA : ∀ B σ H, Le B0 B → Sl K B H σ δ → EA K A σ H PA) (n : ∀ ds B2, flatH B2 → Le B0 B2 → (∃ H, PA ds H ∧ B2 = noT H) → ∃ x y, ds = [x, y] ∧ WN K T B2 tz ((δ.set i (some (.d x))).set j (some (.d y))) k) : WN K T B0 (tSeq (tPar i j A) tz) δ k := fun B e f D1 σ H R S =>
  hA B σ H e S.sl H (Le.refl _) _ fun vs ds H1 e1 p r => by
    have S1 := S.le e1
    have b2 : Le B (noT H1) := le_noT f S1.sl.bh
    obtain ⟨G, b, gg, s⟩ := S1.sl
    obtain ⟨x, y, rfl, w⟩ := n ds (noT H1) (flat_noT H1) (e.trans b2) ⟨H1, p, rfl⟩
    obtain ⟨v1, v2, rfl, r1, r2⟩ := rps2 r
    exact ⟨v1, v2, rfl, w (noT H1) (Le.refl _) (flat_noT H1) D1 _ H1 (R.up b2) ⟨⟨noT H1, Le.refl _, fun a o h => .inl (noT_some h).1, (((s.upNo gg S.no).mapD (H' := H1) S.no fun u x r => r.noT).setD r1.noT).setD r2.noT⟩, no_set (no_set S.no fun ds z => nomatch z) (fun ds z => nomatch z), S1.tb⟩⟩
theorem sub_set : ∀ {a b : DS} {i : Nat} {s : Option SD}, sub a b → (∀ x, a[i]? ≠ some (some x)) → sub a (b.set i s)
  | [], [], _, _, h, _ => h
  | none :: a, _ :: b, 0, s, h, _ => h
  | none :: a, _ :: b, i + 1, s, h, n => sub_set (a := a) (b := b) (i := i) h fun x => by simpa using n x
  | some x :: a, some y :: b, 0, s, h, n => absurd rfl (n x)
  | some x :: a, some y :: b, i + 1, s, h, n => ⟨h.1, sub_set (a := a) (b := b) (i := i) h.2 fun x => by simpa using n x⟩
  | some _ :: _, none :: _, _, _, h, _ => h.elim
  | some _ :: _, [], _, _, h, _ => h.elim
  | none :: _, [], _, _, h, _ => h.elim
  | [], _ :: _, _, _, h, _ => h.elim
theorem sub_refl : ∀ a : DS, sub a a
  | [] => trivial
  | none :: a => sub_refl a
  | some s :: a => ⟨rfl, sub_refl a⟩
theorem ob_noT {v : V} (h : Ob H v) : Ob (noT H) v := by
  obtain ⟨a, e, h | h⟩ := h
  · obtain ⟨xs, h⟩ := h
    exact ⟨a, e, .inl ⟨xs, noT_of h fun ps z => HO.noConfusion z⟩⟩
  · exact ⟨a, e, .inr (noT_of h fun ps z => HO.noConfusion z)⟩
theorem th_noT {d : D} (h : Th H d) : Th (noT H) d := by
  induction h with
  | sc h => exact .sc h
  | tup hl _ ih => exact .tup hl ih
  | ob h => exact .ob (ob_noT h)
theorem rw_noT {d : D} (h : Rw H d) : Rw (noT H) d := by
  cases h with
  | tup a b => exact .tup a fun x hx => th_noT (b x hx)
  | lst a b => exact .lst a fun x hx => th_noT (b x hx)
  | sc h => exact .sc h
  | dict h => exact .dict (noT_of h fun ps z => HO.noConfusion z)
theorem web_noT {C a : Addr} {ms : List Int} {ties : List (Int × Int)} (x : WebAt K C H a ms ties) : WebAt K C (noT H) a ms ties := by
  obtain ⟨dx, m, t, n, h, h1, h2, h3⟩ := x
  exact ⟨dx, m, t, n, noT_of h (fun ps z => HO.noConfusion z), h1.noT, h2.noT, h3.noT⟩
theorem hand_noT {h : Addr} (a : Hand H h) : Hand (noT H) h := hand_leN (H' := noT H) (fun a o h => .inl h) a
end
end W1

set_option maxRecDepth 100000
set_option maxHeartbeats 4000000
/-! what strangers' keepers tell -/
namespace W1
open PySem PySem.Spec PyProof.Rows L2 NdefX LamX
local macro_rules | `(tactic| walk_at "rp") => `(tactic| first | assumption | exact Rp.int _ | exact Rp.bl _ | exact Rp.str _ | exact Rp.non | exact Rp.obj _ | (refine Rp.le (by assumption) ?_; walk_at "rp"))
local macro_rules | `(tactic| walk_at "ed") => `(tactic| first
  | exact ed_int | exact ed_str | exact ed_bl | exact ed_non
  | (refine ed_var rfl ?_; walk_at "rp")
  | (refine ed_ixT (ds := [_, _]) ?_ ed_int (by decide) rfl; walk_at "ed")
  | (refine ed_I0 ?_ ?_ <;> walk_at "ed")
  | (refine ed_B0 ?_ ?_ <;> walk_at "ed")
  | (refine ed_eqS ?_ ?_ rfl rfl rfl <;> walk_at "ed")
  | assumption)
local macro_rules | `(tactic| walk_at "ea") => `(tactic| first | exact ea_nil | (refine ea_cons ?_ ?_; walk_at "ed"; walk_at "ea"))
local macro_rules | `(tactic| walk_at "w") => `(tactic| first
  | exact w_int | exact w_str | exact w_bl | exact w_non
  | exact w_var rfl | exact w_varO rfl
  | (refine w_I0 ?_ ?_ <;> walk_at "w")
  | (refine w_B0 ?_ ?_ <;> walk_at "w")
  | (refine w_eqI ?_ ?_ <;> walk_at "w")
  | (refine w_neI ?_ ?_ <;> walk_at "w")
  | (refine w_eqStr ?_ ?_ <;> walk_at "w")
  | (refine w_neStr ?_ ?_ <;> walk_at "w")
  | (refine w_lenT ?_; walk_at "w")
  | (refine w_lenL ?_; walk_at "w")
  | (refine w_int1 ?_; walk_at "w")
  | (refine w_notV ?_; walk_at "w")
  | (refine w_ixT ?_ w_int (by decide) rfl; walk_at "w")
  | (refine w_tup ?_; walk_at "wa")
  | assumption)
local macro_rules | `(tactic| walk_at "wa") => `(tactic| first | exact wa_nil | (refine wa_cons ?_ ?_; walk_at "w"; walk_at "wa"))
local macro_rules | `(tactic| walk_at "wb") => `(tactic| first | exact wb_yes | (refine wb_test ?_; walk_at "w") | (refine wb_B ?_; walk_at "w") | (refine wb_not ?_; walk_at "wb"))
local macro_rules | `(tactic| walk_at "n") => `(tactic| try dsimp only [List.set_cons_succ, List.set_cons_zero])

abbrev s__law_keeper__law_tell : Stmt := (C8.fnBody (topS 56)).getD 0 (.Pass ⟨0, 0, 0, 0⟩)
abbrev N__law_keeper__law_tell : List Str := ["_law_web", "_law_k", "_law_past", "_law_room", "_law_way", "_law_seed", "_law_parts_here", "_law_state_here", "_law_bars_here", "_law_left", "_law_some", "_law_many", "_law_mixed", "_law_near_here", "_law_shown", "_law_elder", "_law_tag", "_law_other", "_law_held", "_law_tags"]
abbrev P__law_keeper__law_tell : List Str := ["_law_web", "_law_k", "_law_past", "_law_room"]
abbrev F__law_keeper__law_tell : List Str := ["_law_way", "_law_seed", "_law_parts_here"]
theorem sc__law_keeper__law_tell : MScope N__law_keeper__law_tell P__law_keeper__law_tell F__law_keeper__law_tell (defScope s__law_keeper__law_tell) := mscope_by (by decide +kernel)
def nInt (i : Nat) : Int := (i : Int)
def notIn (n : Nat) (l : List Int) : List Int := ((List.range n).filter fun i : Nat => !decide ((i : Int) ∈ l)).map nInt
def shownAll (st : St1) (ties : List (Int × Int)) (r : Int) : List Int := (rawNear ties r).flatMap fun o => shownL (stAt st o)
def firstIn (left : List Int) (st : St1) : List Int := (st.filter fun x => decide (0 < x.2.length) && decide ((x.2[0]?).getD 0 ∈ left)).map fun x => (x.2[0]?).getD 0
def oddD (n : Nat) : List D := [.non, .int n, .int (-1), .bl true, .str "0", .tup [.int 0], .int (10 ^ 30)]
def mixI (seed : Int) (m : Nat) (r : Int) : Int := (seed * 7919 + (m : Int) * 104729 + r * 31) % 65537
def kpL (way seed : Int) (ms : List Int) (ties : List (Int × Int)) (n : Nat) (past : List Deed) (r : Int) : D :=
  let st := stOf ms.length past
  let left := notIn n (barsL ms ties st r)
  let some_ := notIn n (ownL ms st r)
  let mixed := mixI seed past.length r
  if way = 0 ∨ way = 1 then (if left.length = 0 then .non else pickD (left.map .int) (if way = 0 then 0 else (left.length : Int) - 1))
  else if way = 2 then (if left.length = 0 then .non else pickD (left.map .int) (mixed.fmod (left.length : Int)))
  else if way = 3 then (if 0 < some_.length then pickD (some_.map .int) 0 else .int 0)
  else if way = 4 then pickD ((notIn n (shownAll st ties r)).map D.int ++ [.int 0]) 0
  else if way = 5 then .int (((stAt st r).2.length + r * seed : Int).fmod n)
  else if way = 6 then .int (mixed.fmod n)
  else if way = 7 then (if 0 < mixed % 9 then pickD (left.map D.int ++ [.int (seed.fmod n)]) 0 else pickD (oddD n) (mixed % 7))
  else if way = 8 then (if 0 < (firstIn left st).length then pickD ((firstIn left st).map .int) (mixed.fmod ((firstIn left st).length : Int)) else pickD (left.map D.int ++ [.non]) 0)
  else if way = 9 then pickD ((left.filter fun t => !decide (t ∈ (stAt st r).2)).map D.int ++ left.map D.int ++ [.non]) 0
  else if (past.length : Int) < seed then pickD (left.map D.int ++ [.int 0]) 0 else .int (mixed.fmod n)
theorem pick_no {ds : List D} {i : Int} (h : ∀ d ∈ ds, noObj d = true) : noObj (pickD ds i) = true := by
  unfold pickD
  cases e : ds[i.toNat]? with
  | none => rfl
  | some d => exact h d (List.mem_of_getElem? e)
theorem no_ints (l : List Int) : ∀ d ∈ l.map D.int, noObj d = true := fun d hd => by
  obtain ⟨i, _, rfl⟩ := List.mem_map.mp hd
  rfl
theorem no_app {l m : List D} (h : ∀ d ∈ l, noObj d = true) (h2 : ∀ d ∈ m, noObj d = true) : ∀ d ∈ l ++ m, noObj d = true := fun d hd => (List.mem_append.mp hd).elim (h d) (h2 d)
theorem no_one {x : D} (h : noObj x = true) : ∀ d ∈ [x], noObj d = true := fun d hd => by rw [List.mem_singleton.mp hd]; exact h
theorem no_ite {c : Prop} [Decidable c] {a b : D} (h : noObj a = true) (h2 : noObj b = true) : noObj (if c then a else b) = true := by
  split
  · exact h
  · exact h2
theorem kpL_no (way seed : Int) (ms : List Int) (ties : List (Int × Int)) (n : Nat) (past : List Deed) (r : Int) : noObj (kpL way seed ms ties n past r) = true := by
  unfold kpL
  dsimp only
  have o : ∀ d ∈ oddD n, noObj d = true := fun d hd => by
    simp only [oddD, List.mem_cons, List.not_mem_nil, or_false] at hd
    rcases hd with rfl | rfl | rfl | rfl | rfl | rfl | rfl <;> rfl
  repeat' refine no_ite ?_ ?_
  all_goals first
    | rfl
    | exact pick_no (no_ints _)
    | exact pick_no (no_app (no_ints _) (no_one (x := .int _) rfl))
    | exact pick_no (no_app (no_ints _) (no_one (x := .non) rfl))
    | exact pick_no o
    | exact pick_no (no_app (no_app (no_ints _) (no_ints _)) (no_one (x := .non) rfl))
theorem Nh.of_eq {a b : List D} (h : Nh a) (e : a = b) : Nh b := e ▸ h
def R_tell : List D → List D → Hp → D → Prop := fun es ds _ d => ∃ (way seed : Int) (ms : List Int) (ties : List (Int × Int)) (n : Nat) (past : List Deed) (r : Int) (web : D), es = [.int way, .int seed, eW ms ties] ∧ ds = [web, .int (n : Int), .tup (past.map eD), .int r] ∧ PartsOk ms ties ∧ ms.length ≤ 8 ∧ InR ms.length past ∧ past.length ≤ 200 ∧ 0 ≤ r ∧ r < ms.length ∧
  1 ≤ n ∧ n ≤ 200 ∧ 0 ≤ way ∧ way ≤ 10 ∧ 1 ≤ seed ∧ seed ≤ 100 ∧ d = kpL way seed ms ties n past r
theorem fdiv_ix {a : Int} {n : Nat} (h : 0 < n) : 0 ≤ a.fmod (n : Int) ∧ a.fmod (n : Int) < n := ⟨Int.fmod_nonneg_of_pos _ (by omega), Int.fmod_lt_of_pos _ (by omega)⟩
theorem notIn_len (n : Nat) (l : List Int) : (notIn n l).length ≤ n := by
  unfold notIn
  rw [List.length_map]
  exact Nat.le_trans (List.length_filter_le _ _) (by rw [List.length_range]; exact Nat.le_refl _)
theorem notIn_eq {n : Nat} {l m : List Int} (h : ∀ k, k ∈ l ↔ k ∈ m) : notIn n l = notIn n m := by
  unfold notIn
  refine congrArg _ (List.filter_congr fun i _ => ?_)
  rw [decide_eq_decide.mpr (h _)]
theorem sh_mem {st : St1} {ties : List (Int × Int)} {r k : Int} : k ∈ shownAll st ties r ↔ ∃ o ∈ rawNear ties r, k ∈ shownL (stAt st o) := List.mem_flatMap
section
variable {P : Program} {w : World} {K : PySem.W.Frag} {mg : Str → Option Value} {base : Heap}
theorem ok_tell (T : HTxt mg) (G_law_state : Def P w K mg base 2 "_law_state" ["_law_parts_here", "_law_past"] (spD K R_lst)) (G_law_bars : Def P w K mg base 2 "_law_bars" ["_law_parts_here", "_law_state_here", "_law_room"] (spD K R_bars)) (G_law_near : Def P w K mg base 1 "_law_near" ["_law_parts_here", "_law_room"] (spF K R_near))
    {f : Addr} {q : Str} {cl : List (Str × Addr)} {c : Addr} : NokM P w K mg base CX0 4 f (NF.of s__law_keeper__law_tell "_law_tell" q cl c) P__law_keeper__law_tell F__law_keeper__law_tell (spN K R_tell) := by
  refine nokM_data (N := N__law_keeper__law_tell) sc__law_keeper__law_tell (fun doc pm ctv us hu => ?_) (fun es ds H d h => ?_) (by decide) fun A outer s H E es ds d hr h => ?_
  · match us, hu with
    | [a, b, c, d], _ => rfl
  · obtain ⟨way, seed, ms, ties, n, past, r, web, rfl, rfl, _⟩ := h
    exact ⟨rfl, rfl⟩
  obtain ⟨way, seed, ms, ties, n, past, rm, web, rfl, rfl, ok, h8, hin, hpl, m0, m1, n1, n2, w0, w1, s1, s2, rfl⟩ := h
  refine ⟨_, (pss_cons (ps_set (i := 7) sc__law_keeper__law_tell.nd rfl (Or.inr rfl) (pe_def G_law_state (hr.mono (by decide)) (pa_cons (pv 6) (pa_cons (pv 2) pa_nil))))
    (pss_cons (ps_set (i := 8) sc__law_keeper__law_tell.nd rfl (Or.inr rfl) (pe_def G_law_bars (hr.mono (by decide)) (pa_cons (pv 6) (pa_cons (pv 7) (pa_cons (pv 3) pa_nil)))))
    (pss_cons (ps_set (i := 9) sc__law_keeper__law_tell.nd rfl (Or.inr rfl) (pe_lc (own := [("_law_tag", 16)]) rfl sc__law_keeper__law_tell.nd (pi_range1 (by rfl) T.n_range (pa_cons (pv 1) pa_nil)) (blkOk_by (N := N__law_keeper__law_tell) (sc := defScope s__law_keeper__law_tell) (by decide +kernel)) (fun _ _ _ _ _ => (pg_name (i := 16) sc__law_keeper__law_tell.nd rfl (Or.inl rfl))) (fun _ _ _ _ _ => (pts_one (pt_cmpR (kop_nin (K := K)) (pv 16) (pv 8) (by rfl)))) (fun _ _ _ _ _ => (pv 16))))
    (pss_cons (ps_setLc (i := 10) (own := [("_law_tag", 16)]) rfl sc__law_keeper__law_tell.nd rfl rfl (sw_true rfl rfl rfl (by decide +kernel)) (pi_range1 (by rfl) T.n_range (pa_cons (pv 1) pa_nil)) (blkOk_by (N := N__law_keeper__law_tell) (sc := defScope s__law_keeper__law_tell) (by decide +kernel)) (fun _ _ _ _ _ => (pg_name (i := 16) sc__law_keeper__law_tell.nd rfl (Or.inl rfl))) (fun _ _ _ _ _ => (pts_one (pt_cmpR (kop_nin (K := K)) (pv 16) (pe_slice (ksl_tup (K := K)) (pe_ix (kix_tup (K := K)) (pe_ix (kix_list (K := K)) (pv 7) (pv 3) (fun _ _ => rfl)) pe_int (fun _ _ => rfl)) po_none (po_some (pe_ix (kix_tup (K := K)) (pe_ix (kix_tup (K := K)) (pv 6) pe_int (fun _ _ => rfl)) (pv 3) (fun _ _ => rfl)))) (by rfl)))) (fun _ _ _ _ _ => (pv 16)))
    (pss_cons (ps_par (i := 11) (j := 12) (by rfl) sc__law_keeper__law_tell.nd rfl rfl (by decide) rfl rfl (pa_cons (pe_callB (kc_len (K := K)) (by rfl) T.n_len boot_len (pa_cons (pe_ix (kix_tup (K := K)) (pe_ix (kix_list (K := K)) (pv 7) (pv 3) (fun _ _ => rfl)) pe_int (fun _ _ => rfl)) pa_nil)) (pa_cons (pe_op op_mod (pe_callTy call_int1 (by rfl) T.n_int boot_int (pa_cons (pe_op op_add (pe_op op_add (pe_op op_mul (pv 5) pe_int) (pe_op op_mul (pe_callB (kc_len (K := K)) (by rfl) T.n_len boot_len (pa_cons (pv 2) pa_nil)) pe_int)) (pe_op op_mul (pv 3) pe_int)) pa_nil)) pe_int) pa_nil)) (by rfl))
    (pss_cons (ps_if (PW.pt (pw_or (pt_cmpR op_eq (pv 4) pe_int (nomark _)) (pw_or1 (pt_cmpR op_eq (pv 4) pe_int (nomark _)))))
      (pss_one (ps_ret (pe_ifExp (pt_cmpR op_eq (pe_callB (kc_len (K := K)) (by rfl) T.n_len boot_len (pa_cons (pv 9) pa_nil)) pe_int (nomark _)) pe_non (pe_ix (kix_list (K := K)) (pv 9) (pe_op op_sub pe_int (pv 4)) (fun _ _ => rfl)))))
      pss_nil)
    (pss_cons (ps_if (pt_cmpR op_eq (pv 4) pe_int (nomark _))
      (pss_one (ps_ret (pe_ifExp (pt_cmpR op_eq (pe_callB (kc_len (K := K)) (by rfl) T.n_len boot_len (pa_cons (pv 9) pa_nil)) pe_int (nomark _)) pe_non (pe_ix (kix_list (K := K)) (pv 9) (pe_op op_modN (pv 12) (pe_callB (kc_len (K := K)) (by rfl) T.n_len boot_len (pa_cons (pv 9) pa_nil))) (fun _ _ => rfl)))))
      pss_nil)
    (pss_cons (ps_if (pt_cmpR op_eq (pv 4) pe_int (nomark _))
      (pss_one (ps_ret (pe_ifExp (pt_cmpR op_gt (pe_callB (kc_len (K := K)) (by rfl) T.n_len boot_len (pa_cons (pv 10) pa_nil)) pe_int (nomark _)) (pe_ix (kix_list (K := K)) (pv 10) pe_int (fun _ _ => rfl)) pe_int)))
      pss_nil)
    (pss_cons (ps_if (pt_cmpR op_eq (pv 4) pe_int (nomark _))
      (pss_cons (ps_set (i := 13) sc__law_keeper__law_tell.nd rfl (Or.inr rfl) (pe_lc (own := [("_law_other", 17)]) rfl sc__law_keeper__law_tell.nd (kpi_list (K := K) (pe_def G_law_near (hr.mono (by decide)) (pa_cons (pv 6) (pa_cons (pv 3) pa_nil)))) (blkOk_by (N := N__law_keeper__law_tell) (sc := defScope s__law_keeper__law_tell) (by decide +kernel)) (fun _ _ _ _ _ => (pg_name (i := 17) sc__law_keeper__law_tell.nd rfl (Or.inl rfl))) (fun _ _ _ _ _ => (pts_one (pt_val (pe_ix (kix_tup (K := K)) (pe_ix (kix_list (K := K)) (pv 7) (pv 17) (fun _ _ => rfl)) pe_int (fun _ _ => rfl))))) (fun _ _ _ _ _ => (pe_ix (kix_tup (K := K)) (pe_ix (kix_tup (K := K)) (pe_ix (kix_list (K := K)) (pv 7) (pv 17) (fun _ _ => rfl)) pe_int (fun _ _ => rfl)) pe_int (fun _ _ => rfl)))))
    (pss_one (ps_ret (pe_ix (kix_list (K := K)) (pe_op op_cat (pe_lc (own := [("_law_tag", 16)]) rfl sc__law_keeper__law_tell.nd (pi_range1 (by rfl) T.n_range (pa_cons (pv 1) pa_nil)) (blkOk_by (N := N__law_keeper__law_tell) (sc := defScope s__law_keeper__law_tell) (by decide +kernel)) (fun _ _ _ _ _ => (pg_name (i := 16) sc__law_keeper__law_tell.nd rfl (Or.inl rfl))) (fun _ _ _ _ _ => (pts_one (pt_cmpR (kop_nin (K := K)) (pv 16) (pv 13) (by rfl)))) (fun _ _ _ _ _ => (pv 16))) (pe_lst (pa_cons pe_int pa_nil))) pe_int (fun _ _ => rfl)))))
      pss_nil)
    (pss_cons (ps_if (pt_cmpR op_eq (pv 4) pe_int (nomark _))
      (pss_one (ps_ret (pe_op op_modN (pe_callTy call_int1 (by rfl) T.n_int boot_int (pa_cons (pe_op op_add (pv 11) (pe_op op_mul (pv 3) (pv 5))) pa_nil)) (pv 1))))
      pss_nil)
    (pss_cons (ps_if (pt_cmpR op_eq (pv 4) pe_int (nomark _))
      (pss_one (ps_ret (pe_op op_modN (pv 12) (pv 1))))
      pss_nil)
    (pss_cons (ps_if (pt_cmpR op_eq (pv 4) pe_int (nomark _))
      (pss_one (ps_ret (pe_ifExp (pt_cmpR op_gt (pe_op op_mod (pv 12) pe_int) pe_int (nomark _)) (pe_ix (kix_list (K := K)) (pe_op op_cat (pv 9) (pe_lst (pa_cons (pe_op op_modN (pe_callTy call_int1 (by rfl) T.n_int boot_int (pa_cons (pv 5) pa_nil)) (pv 1)) pa_nil))) pe_int (fun _ _ => rfl)) (pe_ix (kix_list (K := K)) (pe_lst (pa_cons pe_non (pa_cons (pv 1) (pa_cons (pe_un un_neg pe_int) (pa_cons pe_bl (pa_cons pe_str (pa_cons (pe_tup (pa_cons pe_int pa_nil)) (pa_cons (pe_op op_pow pe_int pe_int) pa_nil)))))))) (pe_op op_mod (pv 12) pe_int) (fun _ _ => rfl)))))
      pss_nil)
    (pss_cons (ps_if (pt_cmpR op_eq (pv 4) pe_int (nomark _))
      (pss_cons (ps_setLc (i := 14) (own := [("_law_held", 18), ("_law_tags", 19)]) rfl sc__law_keeper__law_tell.nd rfl rfl (sw_true rfl rfl rfl (by decide +kernel)) (kpi_list (K := K) (pv 7)) (blkOk_by (N := N__law_keeper__law_tell) (sc := defScope s__law_keeper__law_tell) (by decide +kernel)) (fun _ _ _ _ _ => (kpg_tup (K := K) (n := 2) rfl (pgs_cons (pg_name (i := 18) sc__law_keeper__law_tell.nd rfl (Or.inl rfl)) (pgs_cons (pg_name (i := 19) sc__law_keeper__law_tell.nd rfl (Or.inl rfl)) pgs_nil)))) (fun _ _ _ _ _ => (pts_one (PW.pt (pw_and (pt_cmpR op_gt (pe_callB (kc_len (K := K)) (by rfl) T.n_len boot_len (pa_cons (pv 19) pa_nil)) pe_int (nomark _)) (pw_and1 (pt_cmpR (kop_in (K := K)) (pe_ix (kix_tup (K := K)) (pv 19) pe_int (fun _ _ => rfl)) (pv 9) (by rfl))))))) (fun _ _ _ _ _ => (pe_ix (kix_tup (K := K)) (pv 19) pe_int (fun _ _ => rfl))))
    (pss_one (ps_ret (pe_ifExp (pt_cmpR op_gt (pe_callB (kc_len (K := K)) (by rfl) T.n_len boot_len (pa_cons (pv 14) pa_nil)) pe_int (nomark _)) (pe_ix (kix_list (K := K)) (pv 14) (pe_op op_modN (pv 12) (pe_callB (kc_len (K := K)) (by rfl) T.n_len boot_len (pa_cons (pv 14) pa_nil))) (fun _ _ => rfl)) (pe_ix (kix_list (K := K)) (pe_op op_cat (pv 9) (pe_lst (pa_cons pe_non pa_nil))) pe_int (fun _ _ => rfl))))))
      pss_nil)
    (pss_cons (ps_if (pt_cmpR op_eq (pv 4) pe_int (nomark _))
      (pss_cons (ps_setLc (i := 15) (own := [("_law_tag", 16)]) rfl sc__law_keeper__law_tell.nd rfl rfl (sw_true rfl rfl rfl (by decide +kernel)) (kpi_list (K := K) (pv 9)) (blkOk_by (N := N__law_keeper__law_tell) (sc := defScope s__law_keeper__law_tell) (by decide +kernel)) (fun _ _ _ _ _ => (pg_name (i := 16) sc__law_keeper__law_tell.nd rfl (Or.inl rfl))) (fun _ _ _ _ _ => (pts_one (pt_cmpR (kop_nin (K := K)) (pv 16) (pe_ix (kix_tup (K := K)) (pe_ix (kix_list (K := K)) (pv 7) (pv 3) (fun _ _ => rfl)) pe_int (fun _ _ => rfl)) (by rfl)))) (fun _ _ _ _ _ => (pv 16)))
    (pss_one (ps_ret (pe_ix (kix_list (K := K)) (pe_op op_cat (pe_op op_cat (pv 15) (pv 9)) (pe_lst (pa_cons pe_non pa_nil))) pe_int (fun _ _ => rfl)))))
      pss_nil)
    (pss_one (ps_ret (pe_ifExp (pt_cmpR op_lt (pe_callB (kc_len (K := K)) (by rfl) T.n_len boot_len (pa_cons (pv 2) pa_nil)) (pv 5) (nomark _)) (pe_ix (kix_list (K := K)) (pe_op op_cat (pv 9) (pe_lst (pa_cons pe_int pa_nil))) pe_int (fun _ _ => rfl)) (pe_op op_modN (pv 12) (pv 1))))))))))))))))))), ?_⟩
  show WS K H _ [some (.d web), some (.d (.int (n : Int))), some (.d (.tup (past.map eD))), some (.d (.int rm)), some (.d (.int way)), some (.d (.int seed)), some (.d (eW ms ties)), none, none, none, none, none, none, none, none, none, none, none, none, none] _
  have few := ok.few
  have hf : 0 < n := n1
  obtain ⟨st, hst⟩ : ∃ st, st = stOf ms.length past := ⟨_, rfl⟩
  have sok : StOk st := by rw [hst]; exact stOf_sok hin few (by omega)
  have hl : st.length = ms.length := by rw [hst]; exact (stOf_ok past hin).1
  have hkp : kpL way seed ms ties n past rm = kpL way seed ms ties n past rm := rfl
  conv at hkp => rhs; unfold kpL
  dsimp only at hkp
  rw [← hst] at hkp
  have hget : (st.map eR)[rm.toNat]? = some (eR (stAt st rm)) := map_get (st_get m0 (by omega))
  have hm : ms[rm.toNat]? = some ((ms[rm.toNat]?).getD 0) := by
    rw [List.getElem?_eq_getElem (by omega)]
    rfl
  have hm0 := ok.mem _ (List.mem_of_getElem? hm)
  refine wq_asgE (d := eS st) (wv_ok (w_call (by walk_at "wa") fun H2 e2 => ⟨ms, ties, past, rfl, by omega, by omega, hin, by rw [hst]⟩) (.inl rfl)) ?_
  walk_at "n"
  refine wq_asg (P := fun d => ∃ ns : List Int, d = .tup (ns.map .int) ∧ Bars ms ties st rm ns) (wv_ok (wp_callD (by walk_at "wa") fun H2 e2 => ⟨ms, ties, st, rm, rfl, ok, sok, hl, h8, m0, m1, rfl⟩) (.inl rfl)) fun d8 ⟨ns, e8, hb⟩ => ?_
  subst e8
  walk_at "n"
  have hleft : notIn n ns = notIn n (barsL ms ties st rm) := notIn_eq fun k => (hb.mem k).trans (by
    unfold barsL
    rw [List.mem_append]
    exact or_congr Iff.rfl sh_mem.symm)
  refine wq_asgE (d := .lst ((notIn n (barsL ms ties st rm)).map .int)) (wv_ok (w_eq (w_lcR enc_int (n := n) (fun i => !decide ((i : Int) ∈ ns)) nInt (by walk_at "wa") (by omega) (fun i hi => wb_test (w_ninT (w_var rfl) (w_var rfl))) fun i hi _ => w_var rfl) (by rw [← hleft]; rfl)) (.inl rfl)) ?_
  walk_at "n"
  generalize hL : notIn n (barsL ms ties st rm) = left at hkp ⊢
  have eqO : cutG ((stAt st rm).2.map D.int) none (some ((ms[rm.toNat]?).getD 0)) = (ownL ms st rm).map D.int := by
    rw [cutG_hi _ _ hm0.1, ← List.map_take]
    rfl
  refine wq_asgE (d := .lst ((notIn n (ownL ms st rm)).map .int)) (wv_ok (w_eq (w_lcR enc_int (n := n) (fun i => !decide ((i : Int) ∈ ownL ms st rm)) nInt (by walk_at "wa") (by omega) (fun i hi => wb_test (w_ninT (w_var rfl) (w_eq (w_slT (w_ixT (ds := [_, _]) (w_ixL (w_var rfl) (w_var rfl) m0 hget) w_int (by decide) rfl) wo_none (wo_some (w_ixT (w_ixT (ds := [_, _]) (w_var rfl) w_int (by decide) rfl) (w_var rfl) m0 (map_get hm)))) (congrArg D.tup eqO)))) fun i hi _ => w_var rfl) rfl) (.inl rfl)) ?_
  walk_at "n"
  generalize hS : notIn n (ownL ms st rm) = some_ at hkp ⊢
  have eLen : ∀ l : List Int, (l.map D.int).length = l.length := fun l => List.length_map ..
  have hrm : rm ≤ 8 := by omega
  refine wq_par (PA := fun ds => ds = [.int ((stAt st rm).2.length : Int), .int (mixI seed past.length rm)]) (wa_cons (w_eq (w_lenT (w_ixT (ds := [_, _]) (w_ixL (w_var rfl) (w_var rfl) m0 hget) w_int (by decide) rfl)) (by rw [eLen])) (wa_cons (w_eq (w_I (f := fun i j => i % j) (w_int1 (w_I0 (w_I0 (w_I (w_var rfl) w_int (.inl ⟨by omega, by omega⟩)) (w_I (w_lenT (w_var rfl)) w_int (.inl ⟨by rw [List.length_map]; omega, by rw [List.length_map]; omega⟩))) (w_I (w_var rfl) w_int (.inl ⟨by omega, by omega⟩)))) w_int (by decide)) (by rw [List.length_map]; rfl)) wa_nil)) (.inl rfl) fun ds e => ⟨_, _, e, ?_⟩
  walk_at "n"
  generalize hM : mixI seed past.length rm = mixed at hkp ⊢
  have mix0 : ∀ {m : Int}, 0 < m → 0 ≤ mixed % m ∧ mixed % m < m := fun h => ⟨Int.emod_nonneg _ (by omega), Int.emod_lt_of_pos _ h⟩
  have nlen : ∀ {l : List Int}, decide (((l.map D.int).length : Int) = 0) = decide (l.length = 0) := fun {l} => decide_eq_decide.mpr (by rw [List.length_map]; omega)
  -- 0 and 1
  refine wq_whenB (b := decide (way = 0) || decide (way = 1)) (wb_or (wb_test (w_eqI (w_var rfl) w_int)) fun _ => wb_test (w_eqI (w_var rfl) w_int)) (fun h => ?_) fun h01 => ?_
  · have h01 : way = 0 ∨ way = 1 := by simpa using h
    rw [if_pos h01] at hkp
    refine w_retE (w_ifE (d1 := .non) (d2 := pickD (left.map .int) (if way = 0 then 0 else (left.length : Int) - 1)) (wb_test (w_eqI (w_lenL (w_var rfl)) w_int)) (fun _ => w_non) fun hne => ?_) ?_
    · have hne : ¬ left.length = 0 := by
        intro e
        rw [nlen, e] at hne
        cases hne
      have hne' : left.map D.int ≠ [] := fun e => hne (by simpa using e)
      rcases h01 with e | e
      · subst e
        rw [if_pos rfl]
        exact w_pick (w_var rfl) (w_eq (w_I0 (f := fun i j => i - j) w_int (w_var rfl)) rfl) (by decide) (by rw [List.length_map]; omega)
      · subst e
        rw [if_neg (by decide)]
        exact w_eq (w_last (w_var rfl) (w_eq (w_I0 (f := fun i j => i - j) w_int (w_var rfl)) rfl) hne') (by rw [List.length_map])
    · show _ = kpL way seed ms ties n past rm
      rw [hkp, nlen]
      by_cases e : left.length = 0
      · rw [if_pos e, if_pos (by rw [e]; rfl)]
      · rw [if_neg e, if_neg (by simp [e])]
  have n01 : ¬ (way = 0 ∨ way = 1) := by simpa using h01
  rw [if_neg n01] at hkp
  -- 2
  refine wq_whenB (b := decide (way = 2)) (wb_test (w_eqI (w_var rfl) w_int)) (fun h => ?_) fun h => ?_
  · rw [if_pos (of_decide_eq_true h)] at hkp
    refine w_retE (w_ifE (d1 := .non) (d2 := pickD (left.map .int) (mixed.fmod (left.length : Int))) (wb_test (w_eqI (w_lenL (w_var rfl)) w_int)) (fun _ => w_non) fun hne => ?_) ?_
    · have hne : 0 < left.length := by
        rw [nlen] at hne
        have := of_decide_eq_false hne
        omega
      exact w_pick (w_var rfl) (w_eq (w_I (f := fun i j => i.fmod j) (w_var rfl) (w_lenL (w_var rfl)) (by rw [List.length_map]; omega)) (by rw [List.length_map])) (fdiv_ix hne).1 (by rw [List.length_map]; exact (fdiv_ix hne).2)
    · show _ = kpL way seed ms ties n past rm
      rw [hkp, nlen]
      by_cases e : left.length = 0
      · rw [if_pos e, if_pos (by rw [e]; rfl)]
      · rw [if_neg e, if_neg (by simp [e])]
  rw [if_neg (of_decide_eq_false h)] at hkp
  clear h
  have npos : ∀ {l : List Int}, decide (((l.map D.int).length : Int) > 0) = decide (0 < l.length) := fun {l} => decide_eq_decide.mpr (by rw [List.length_map]; omega)
  -- 3
  refine wq_whenB (b := decide (way = 3)) (wb_test (w_eqI (w_var rfl) w_int)) (fun h => ?_) fun h => ?_
  · rw [if_pos (of_decide_eq_true h)] at hkp
    refine w_retE (w_ifE (d1 := pickD (some_.map .int) 0) (d2 := .int 0) (wb_test (w_B0 (w_lenL (w_var rfl)) w_int)) (fun hp => ?_) fun _ => w_int) ?_
    · rw [npos] at hp
      have := of_decide_eq_true hp
      exact w_pick (w_var rfl) w_int (by decide) (by rw [List.length_map]; omega)
    · show _ = kpL way seed ms ties n past rm
      rw [hkp, npos]
      by_cases e : 0 < some_.length
      · rw [if_pos e, if_pos (by simp [e])]
      · rw [if_neg e, if_neg (by simp [e])]
  rw [if_neg (of_decide_eq_false h)] at hkp
  clear h
  -- 4
  refine wq_whenB (b := decide (way = 4)) (wb_test (w_eqI (w_var rfl) w_int)) (fun h => ?_) fun h => ?_
  · rw [if_pos (of_decide_eq_true h)] at hkp
    refine wq_asg (P := fun d => ∃ l : List Int, d = .lst (l.map .int) ∧ ∀ k, k ∈ l ↔ k ∈ shownAll st ties rm) (wv_ok ?_ (.inl rfl)) fun d13 ⟨l, e13, hl13⟩ => ?_
    · refine WP.weak (wp_lcLP (PX := fun xs => Near ties rm xs) (encS := D.int) enc_int (fun o => (stAt st o).1) (fun o => ((stAt st o).2[0]?).getD 0) ((WF.wp (wf_call (PL := fun es => ∃ ns : List Int, es = ns.map .int ∧ Near ties rm ns) (by walk_at "wa") fun H2 e2 => ⟨ms, ties, rm, rfl, ok.len, rfl⟩)).weak fun d ⟨xs, e1, ns', e2, h⟩ => ⟨ns', by rw [e1, e2], h⟩) (fun xs hx => ?_) (.inl rfl) (fun xs hx o ho => ?_) fun xs hx o ho hf => ?_) fun d ⟨xs, hx, e⟩ => ⟨_, e, fun k => ?_⟩
      · rw [hx.perm.length_eq]
        have := near_le ok h8 m0 m1
        omega
      · obtain ⟨o0, o1⟩ := near_in ok (hx.perm.mem_iff.mp ho)
        exact wb_B (w_ixT (ds := [_, _]) (w_ixL (w_var rfl) (w_var rfl) o0 (map_get (st_get o0 (by omega)))) w_int (by decide) rfl)
      · obtain ⟨o0, o1⟩ := near_in ok (hx.perm.mem_iff.mp ho)
        have hne := sok.shown _ (st_mem o0 (by omega)) hf
        refine w_ixT (w_ixT (ds := [_, _]) (w_ixL (w_var rfl) (w_var rfl) o0 (map_get (st_get o0 (by omega)))) w_int (by decide) rfl) w_int (by decide) ?_
        cases h : (stAt st o).2 with
        | nil => exact absurd h hne
        | cons t ts => rfl
      · rw [sh_mem, List.mem_map]
        constructor
        · rintro ⟨o, ho, rfl⟩
          obtain ⟨ho, hf⟩ := List.mem_filter.mp ho
          refine ⟨o, hx.perm.mem_iff.mp ho, ?_⟩
          obtain ⟨o0, o1⟩ := near_in ok (hx.perm.mem_iff.mp ho)
          have hne := sok.shown _ (st_mem o0 (by omega)) hf
          unfold shownL
          rw [if_pos hf]
          cases h : (stAt st o).2 with
          | nil => exact absurd h hne
          | cons t ts => simp
        · rintro ⟨o, ho, hk⟩
          have ho' := hx.perm.mem_iff.mpr ho
          unfold shownL at hk
          by_cases hf : (stAt st o).1 = true
          · rw [if_pos hf] at hk
            refine ⟨o, List.mem_filter.mpr ⟨ho', hf⟩, ?_⟩
            cases h : (stAt st o).2 with
            | nil =>
              rw [h] at hk
              cases hk
            | cons t ts =>
              rw [h] at hk
              simp at hk
              rw [hk]
              rfl
          · rw [if_neg hf] at hk
            cases hk
    subst e13
    refine w_retE (w_pick (ds := (notIn n (shownAll st ties rm)).map D.int ++ [.int 0]) (WFD.we (wf_cat (w_eq (w_lcR enc_int (n := n) (fun i => !decide ((i : Int) ∈ l)) nInt (by walk_at "wa") (by omega) (fun i hi => wb_test (w_eq (w_inLs true (w_var rfl) (w_var rfl)) rfl)) fun i hi _ => w_var rfl) (by rw [← notIn_eq hl13]; rfl)) (w_lst (ds := [.int 0]) (by walk_at "wa")) ?_ ?_)) w_int (by decide) ?_) hkp.symm
    · rw [List.length_map]
      have := notIn_len n (shownAll st ties rm)
      show _ + 1 ≤ 100000
      omega
    · exact (nh_ints (notIn n (shownAll st ties rm) ++ [0])).of_eq (by rw [List.map_append]; rfl)
    · rw [List.length_append]
      show (0 : Int) < ((_ + 1 : Nat) : Int)
      omega
  rw [if_neg (of_decide_eq_false h)] at hkp
  clear h
  -- 5
  refine wq_whenB (b := decide (way = 5)) (wb_test (w_eqI (w_var rfl) w_int)) (fun h => ?_) fun h => ?_
  · rw [if_pos (of_decide_eq_true h)] at hkp
    exact w_retE (w_I (f := fun i j => i.fmod j) (w_int1 (w_I0 (w_var rfl) (w_I (f := fun i j => i * j) (w_var rfl) (w_var rfl) (.inl ⟨by omega, by omega⟩)))) (w_var rfl) (by omega)) hkp.symm
  rw [if_neg (of_decide_eq_false h)] at hkp
  clear h
  -- 6
  refine wq_whenB (b := decide (way = 6)) (wb_test (w_eqI (w_var rfl) w_int)) (fun h => ?_) fun h => ?_
  · rw [if_pos (of_decide_eq_true h)] at hkp
    exact w_retE (w_I (f := fun i j => i.fmod j) (w_var rfl) (w_var rfl) (by omega)) hkp.symm
  rw [if_neg (of_decide_eq_false h)] at hkp
  clear h
  have hll : left.length ≤ n := by rw [← hL]; exact notIn_len _ _
  have more : ∀ {δ : DS} {te : TE} {x : D}, δ[9]? = some (some (.d (.lst (left.map .int)))) → WE K H te δ (.lst [x]) → (∀ i, x ≠ .obj i) → Nh (left.map D.int ++ [x]) → WE K H (tOp (rIxL K) (tOp rCat (tVar 9) te) (tC (.int 0))) δ (pickD (left.map D.int ++ [x]) 0) := fun {δ te x} h9 h1 _ hn => w_pick (WFD.we (wf_cat (w_var h9) h1 (by rw [List.length_map]; show _ + 1 ≤ 100000; omega) hn)) w_int (by decide) (by rw [List.length_append]; show (0 : Int) < ((_ + 1 : Nat) : Int); omega)
  have nhI : ∀ i : Int, Nh (left.map D.int ++ [.int i]) := fun i => (nh_ints (left ++ [i])).of_eq (by rw [List.map_append]; rfl)
  have nhN : Nh (left.map D.int ++ [.non]) := by
    cases left with
    | nil => exact nh_len (by decide)
    | cons a l => exact nh_int
  -- 7
  refine wq_whenB (b := decide (way = 7)) (wb_test (w_eqI (w_var rfl) w_int)) (fun h => ?_) fun h => ?_
  · rw [if_pos (of_decide_eq_true h)] at hkp
    refine w_retE (w_ifE (d1 := pickD (left.map D.int ++ [.int (seed.fmod n)]) 0) (d2 := pickD (oddD n) (mixed % 7)) (wb_test (w_B0 (f := fun i j => decide (i > j)) (w_I (f := fun i j => i % j) (w_var rfl) w_int (by decide)) w_int)) (fun _ => more rfl (w_lst (ds := [.int (seed.fmod n)]) (wa_cons (w_I (f := fun i j => i.fmod j) (w_int1 (w_var rfl)) (w_var rfl) (by omega)) wa_nil)) (fun i e => nomatch e) (nhI _)) fun _ => ?_) ?_
    · refine w_pick (ds := oddD n) (w_lst (wa_cons w_non (wa_cons (w_var rfl) (wa_cons (w_neg w_int) (wa_cons w_bl (wa_cons w_str (wa_cons (w_tup (wa_cons w_int wa_nil)) (wa_cons (w_I (f := fun i j => i ^ j.toNat) w_int w_int ⟨by decide, by decide, by decide⟩) wa_nil)))))))) (w_I (f := fun i j => i % j) (w_var rfl) w_int (by decide)) (mix0 (by decide)).1 (mix0 (by decide)).2
    · show _ = kpL way seed ms ties n past rm
      rw [hkp]
      by_cases e : 0 < mixed % 9
      · rw [if_pos e, if_pos (by simpa using e)]
      · rw [if_neg e, if_neg (by simpa using e)]
  rw [if_neg (of_decide_eq_false h)] at hkp
  clear h
  -- 8
  refine wq_whenB (b := decide (way = 8)) (wb_test (w_eqI (w_var rfl) w_int)) (fun h => ?_) fun h => ?_
  · rw [if_pos (of_decide_eq_true h)] at hkp
    refine wq_asgE (d := .lst ((firstIn left st).map .int)) (wv_ok (w_lcLg enc_int st (fun x => .bl x.1) (fun x => .tup (x.2.map .int)) (fun x => decide (0 < x.2.length) && decide ((x.2[0]?).getD 0 ∈ left)) (fun x => (x.2[0]?).getD 0) (w_var rfl) (by omega) (.inl rfl) (fun x hx => ?_) (fun x hx hf => ?_) (by simp) (by simp)) (.inl rfl)) ?_
    walk_at "n"
    · refine wb_and (wb_test (w_eq (w_B0 (f := fun i j => decide (i > j)) (w_lenT (w_var rfl)) w_int) ?_)) fun hp => wb_test (w_inLs false (w_ixT (w_var rfl) w_int (by decide) ?_) (w_var rfl))
      · rw [npos]
      · have := of_decide_eq_true hp
        cases h : x.2 with
        | nil =>
          rw [h] at this
          exact absurd this (Nat.lt_irrefl _)
        | cons t ts => rfl
    · refine w_ixT (w_var rfl) w_int (by decide) ?_
      have := of_decide_eq_true (Bool.and_eq_true_iff.mp hf).1
      cases h : x.2 with
      | nil =>
        rw [h] at this
        exact absurd this (Nat.lt_irrefl _)
      | cons t ts => rfl
    generalize firstIn left st = sh at hkp ⊢
    refine w_retE (w_ifE (d1 := pickD (sh.map .int) (mixed.fmod (sh.length : Int))) (d2 := pickD (left.map D.int ++ [.non]) 0) (wb_test (w_B0 (w_lenL (w_var rfl)) w_int)) (fun hp => ?_) fun _ => more rfl (w_lst (ds := [.non]) (by walk_at "wa")) (fun i e => nomatch e) nhN) ?_
    · rw [npos] at hp
      have hp := of_decide_eq_true hp
      exact w_pick (w_var rfl) (w_eq (w_I (f := fun i j => i.fmod j) (w_var rfl) (w_lenL (w_var rfl)) (by rw [List.length_map]; omega)) (by rw [List.length_map])) (fdiv_ix hp).1 (by rw [List.length_map]; exact (fdiv_ix hp).2)
    · show _ = kpL way seed ms ties n past rm
      rw [hkp, npos]
      by_cases e : 0 < sh.length
      · rw [if_pos e, if_pos (by simp [e])]
      · rw [if_neg e, if_neg (by simp [e])]
  rw [if_neg (of_decide_eq_false h)] at hkp
  clear h
  -- 9
  refine wq_whenB (b := decide (way = 9)) (wb_test (w_eqI (w_var rfl) w_int)) (fun h => ?_) fun h => ?_
  · rw [if_pos (of_decide_eq_true h)] at hkp
    have el : ((left.filter fun t => !decide (t ∈ (stAt st rm).2)).map (fun t : Int => t)) = left.filter fun t => !decide (t ∈ (stAt st rm).2) := List.map_id' _
    refine wq_asgE (d := .lst ((left.filter fun t => !decide (t ∈ (stAt st rm).2)).map .int)) (wv_ok (w_eq (w_lcL enc_int left (encS := D.int) (fun t => !decide (t ∈ (stAt st rm).2)) (fun t => t) (w_var rfl) (by omega) (.inl rfl) (fun t ht => wb_test (w_ninT (w_var rfl) (w_ixT (ds := [_, _]) (w_ixL (w_var rfl) (w_var rfl) m0 hget) w_int (by decide) rfl))) fun t ht _ => w_var rfl) (by rw [el])) (.inl rfl)) ?_
    walk_at "n"
    have hel : (left.filter fun t => !decide (t ∈ (stAt st rm).2)).length ≤ n := Nat.le_trans (List.length_filter_le _ _) hll
    generalize (left.filter fun t => !decide (t ∈ (stAt st rm).2)) = elder at hkp hel ⊢
    refine w_retE (w_pick (ds := elder.map D.int ++ left.map D.int ++ [.non]) (WFD.we (wf_cat (WFD.we (wf_cat (w_var rfl) (w_var rfl) ?_ ?_)) (w_lst (ds := [.non]) (by walk_at "wa")) ?_ ?_)) w_int (by decide) ?_) hkp.symm
    · rw [List.length_map, List.length_map]
      omega
    · exact (nh_ints (elder ++ left)).of_eq (by rw [List.map_append])
    · rw [List.length_append, List.length_map, List.length_map]
      show _ + 1 ≤ 100000
      omega
    · cases elder with
      | nil => exact nhN
      | cons a l => exact nh_int
    · rw [List.length_append]
      show (0 : Int) < ((_ + 1 : Nat) : Int)
      omega
  rw [if_neg (of_decide_eq_false h)] at hkp
  refine w_retE (w_ifE (d1 := pickD (left.map D.int ++ [.int 0]) 0) (d2 := .int (mixed.fmod n)) (wb_test (w_B0 (f := fun i j => decide (i < j)) (w_lenT (w_var rfl)) (w_var rfl))) (fun _ => more rfl (w_lst (ds := [.int 0]) (by walk_at "wa")) (fun i e => nomatch e) (nhI _)) fun _ => w_I (f := fun i j => i.fmod j) (w_var rfl) (w_var rfl) (by omega)) ?_
  show _ = kpL way seed ms ties n past rm
  rw [hkp, List.length_map]
  by_cases e : (past.length : Int) < seed
  · rw [if_pos e, if_pos (by simpa using e)]
  · rw [if_neg e, if_neg (by simpa using e)]
end
end W1

set_option maxRecDepth 100000
set_option maxHeartbeats 4000000
/-! what strangers' steady keepers tell -/
namespace W1
open PySem PySem.Spec PyProof.Rows L2 NdefX LamX
local macro_rules | `(tactic| walk_at "rp") => `(tactic| first | assumption | exact Rp.int _ | exact Rp.bl _ | exact Rp.str _ | exact Rp.non | exact Rp.obj _ | (refine Rp.le (by assumption) ?_; walk_at "rp"))
local macro_rules | `(tactic| walk_at "ed") => `(tactic| first
  | exact ed_int | exact ed_str | exact ed_bl | exact ed_non
  | (refine ed_var rfl ?_; walk_at "rp")
  | (refine ed_ixT (ds := [_, _]) ?_ ed_int (by decide) rfl; walk_at "ed")
  | (refine ed_I0 ?_ ?_ <;> walk_at "ed")
  | (refine ed_B0 ?_ ?_ <;> walk_at "ed")
  | (refine ed_eqS ?_ ?_ rfl rfl rfl <;> walk_at "ed")
  | assumption)
local macro_rules | `(tactic| walk_at "ea") => `(tactic| first | exact ea_nil | (refine ea_cons ?_ ?_; walk_at "ed"; walk_at "ea"))
local macro_rules | `(tactic| walk_at "w") => `(tactic| first
  | exact w_int | exact w_str | exact w_bl | exact w_non
  | exact w_var rfl | exact w_varO rfl
  | (refine w_I0 ?_ ?_ <;> walk_at "w")
  | (refine w_B0 ?_ ?_ <;> walk_at "w")
  | (refine w_eqI ?_ ?_ <;> walk_at "w")
  | (refine w_neI ?_ ?_ <;> walk_at "w")
  | (refine w_eqStr ?_ ?_ <;> walk_at "w")
  | (refine w_neStr ?_ ?_ <;> walk_at "w")
  | (refine w_lenT ?_; walk_at "w")
  | (refine w_lenL ?_; walk_at "w")
  | (refine w_int1 ?_; walk_at "w")
  | (refine w_notV ?_; walk_at "w")
  | (refine w_ixT ?_ w_int (by decide) rfl; walk_at "w")
  | (refine w_tup ?_; walk_at "wa")
  | assumption)
local macro_rules | `(tactic| walk_at "wa") => `(tactic| first | exact wa_nil | (refine wa_cons ?_ ?_; walk_at "w"; walk_at "wa"))
local macro_rules | `(tactic| walk_at "wb") => `(tactic| first | exact wb_yes | (refine wb_test ?_; walk_at "w") | (refine wb_B ?_; walk_at "w") | (refine wb_not ?_; walk_at "wb"))
local macro_rules | `(tactic| walk_at "n") => `(tactic| try dsimp only [List.set_cons_succ, List.set_cons_zero])

abbrev s__law_steady__law_tell : Stmt := (C8.fnBody (topS 60)).getD 0 (.Pass ⟨0, 0, 0, 0⟩)
abbrev N__law_steady__law_tell : List Str := ["_law_web", "_law_k", "_law_standing_here", "_law_room", "_law_way", "_law_seed", "_law_parts_here", "_law_bars_here", "_law_left", "_law_found", "_law_mixed", "_law_tag", "_law_held", "_law_tags"]
abbrev P__law_steady__law_tell : List Str := ["_law_web", "_law_k", "_law_standing_here", "_law_room"]
abbrev F__law_steady__law_tell : List Str := ["_law_way", "_law_seed", "_law_parts_here"]
theorem sc__law_steady__law_tell : MScope N__law_steady__law_tell P__law_steady__law_tell F__law_steady__law_tell (defScope s__law_steady__law_tell) := mscope_by (by decide +kernel)
structure ATxt (mg : Str → Option Value) : Prop extends HTxt mg where
  n_sum : mg "sum" = none
def foundI (st : St1) : Int := ((st.filter fun _ => true).map fun x => 7 * (x.2.length : Int) + 3 * x.2.sum + (if x.1 then 1 else 0)).sum
def oddS (n : Nat) : List D := [.non, .int n, .bl true, .str "0", .int (-1), .int 0]
def skL (way seed : Int) (ms : List Int) (ties : List (Int × Int)) (n : Nat) (st : St1) (r : Int) : D :=
  let left := notIn n (barsL ms ties st r)
  let mixed := (seed + 31 * r + foundI st) % 1009
  if way < 2 then (if 0 < left.length then pickD (left.map .int) (if way = 0 then 0 else (left.length : Int) - 1) else .non)
  else if way = 2 ∨ way = 3 then (if 0 < left.length then pickD (left.map .int) (mixed.fmod (left.length : Int)) else pickD [.non, .int 0] (way - 2))
  else if way = 4 then pickD ((notIn n (stAt st r).2).map D.int ++ [.int 0]) 0
  else if way = 5 then (if 0 < mixed % 37 then pickD (left.map D.int ++ [.non]) 0 else pickD (oddS n) (mixed % 6))
  else .int (mixed.fmod n)
theorem skL_no (way seed : Int) (ms : List Int) (ties : List (Int × Int)) (n : Nat) (st : St1) (r : Int) : noObj (skL way seed ms ties n st r) = true := by
  unfold skL
  dsimp only
  have o : ∀ d ∈ oddS n, noObj d = true := fun d hd => by
    simp only [oddS, List.mem_cons, List.not_mem_nil, or_false] at hd
    rcases hd with rfl | rfl | rfl | rfl | rfl | rfl <;> rfl
  have o2 : ∀ d ∈ ([.non, .int 0] : List D), noObj d = true := fun d hd => by
    simp only [List.mem_cons, List.not_mem_nil, or_false] at hd
    rcases hd with rfl | rfl <;> rfl
  repeat' refine no_ite ?_ ?_
  all_goals first
    | rfl
    | exact pick_no (no_ints _)
    | exact pick_no (no_app (no_ints _) (no_one (x := .int _) rfl))
    | exact pick_no (no_app (no_ints _) (no_one (x := .non) rfl))
    | exact pick_no o
    | exact pick_no o2
def R_stell : List D → List D → Hp → D → Prop := fun es ds _ d => ∃ (way seed : Int) (ms : List Int) (ties : List (Int × Int)) (n : Nat) (st : St1) (r : Int) (web : D), es = [.int way, .int seed, eW ms ties] ∧ ds = [web, .int (n : Int), eT st, .int r] ∧ PartsOk ms ties ∧ ms.length ≤ 8 ∧ StOk st ∧ st.length = ms.length ∧ 0 ≤ r ∧ r < ms.length ∧
  1 ≤ n ∧ n ≤ 200 ∧ 0 ≤ way ∧ way ≤ 6 ∧ 0 ≤ seed ∧ seed ≤ 200 ∧ d = skL way seed ms ties n st r
section
variable {P : Program} {w : World} {K : PySem.W.Frag} {mg : Str → Option Value} {base : Heap}
theorem ok_stell (T : ATxt mg) (G_law_bars : Def P w K mg base 2 "_law_bars" ["_law_parts_here", "_law_state_here", "_law_room"] (spD K R_bars))
    {f : Addr} {q : Str} {cl : List (Str × Addr)} {c : Addr} : NokM P w K mg base CX0 4 f (NF.of s__law_steady__law_tell "_law_tell" q cl c) P__law_steady__law_tell F__law_steady__law_tell (spN K R_stell) := by
  refine nokM_data (N := N__law_steady__law_tell) sc__law_steady__law_tell (fun doc pm ctv us hu => ?_) (fun es ds H d h => ?_) (by decide) fun A outer s H E es ds d hr h => ?_
  · match us, hu with
    | [a, b, c, d], _ => rfl
  · obtain ⟨way, seed, ms, ties, n, st, r, web, rfl, rfl, _⟩ := h
    exact ⟨rfl, rfl⟩
  obtain ⟨way, seed, ms, ties, n, st, rm, web, rfl, rfl, ok, h8, sok, hl, m0, m1, n1, n2, w0, w1, s1, s2, rfl⟩ := h
  refine ⟨_, (pss_cons (ps_set (i := 7) sc__law_steady__law_tell.nd rfl (Or.inr rfl) (pe_def G_law_bars (hr.mono (by decide)) (pa_cons (pv 6) (pa_cons (pe_callTy (kc_list (K := K)) (by rfl) T.n_list boot_list (pa_cons (pv 2) pa_nil)) (pa_cons (pv 3) pa_nil)))))
    (pss_cons (ps_setLc (i := 8) (own := [("_law_tag", 11)]) rfl sc__law_steady__law_tell.nd rfl rfl (sw_true rfl rfl rfl (by decide +kernel)) (pi_range1 (by rfl) T.n_range (pa_cons (pv 1) pa_nil)) (blkOk_by (N := N__law_steady__law_tell) (sc := defScope s__law_steady__law_tell) (by decide +kernel)) (fun _ _ _ _ _ => (pg_name (i := 11) sc__law_steady__law_tell.nd rfl (Or.inl rfl))) (fun _ _ _ _ _ => (pts_one (pt_cmpR (kop_nin (K := K)) (pv 11) (pv 7) (by rfl)))) (fun _ _ _ _ _ => (pv 11)))
    (pss_cons (ps_set (i := 9) sc__law_steady__law_tell.nd rfl (Or.inl rfl) (pe_callB (cr_sum rfl) (by rfl) T.n_sum boot_sum (pa_cons (pe_lc (own := [("_law_held", 12), ("_law_tags", 13)]) rfl sc__law_steady__law_tell.nd (kpi_tup (K := K) (pv 2)) (blkOk_by (N := N__law_steady__law_tell) (sc := defScope s__law_steady__law_tell) (by decide +kernel)) (fun _ _ _ _ _ => (kpg_tup (K := K) (n := 2) rfl (pgs_cons (pg_name (i := 12) sc__law_steady__law_tell.nd rfl (Or.inl rfl)) (pgs_cons (pg_name (i := 13) sc__law_steady__law_tell.nd rfl (Or.inl rfl)) pgs_nil)))) (fun _ _ _ _ _ => pts_nil) (fun _ _ _ _ _ => (pe_op op_add (pe_op op_add (pe_op op_mul pe_int (pe_callB (kc_len (K := K)) (by rfl) T.n_len boot_len (pa_cons (pv 13) pa_nil))) (pe_op op_mul pe_int (pe_callB (kcr_sumT (K := K) rfl) (by rfl) T.n_sum boot_sum (pa_cons (pv 13) pa_nil)))) (pe_callTy call_int1 (by rfl) T.n_int boot_int (pa_cons (pv 12) pa_nil))))) pa_nil)))
    (pss_cons (ps_set (i := 10) sc__law_steady__law_tell.nd rfl (Or.inl rfl) (pe_op op_mod (pe_callTy call_int1 (by rfl) T.n_int boot_int (pa_cons (pe_op op_add (pe_op op_add (pv 5) (pe_op op_mul pe_int (pv 3))) (pv 9)) pa_nil)) pe_int))
    (pss_cons (ps_if (pt_cmpR op_lt (pv 4) pe_int (nomark _))
      (pss_one (ps_ret (pe_ifExp (pt_cmpR op_gt (pe_callB (kc_len (K := K)) (by rfl) T.n_len boot_len (pa_cons (pv 8) pa_nil)) pe_int (nomark _)) (pe_ix (kix_list (K := K)) (pv 8) (pe_op op_sub pe_int (pv 4)) (fun _ _ => rfl)) pe_non)))
      pss_nil)
    (pss_cons (ps_if (PW.pt (pw_or (pt_cmpR op_eq (pv 4) pe_int (nomark _)) (pw_or1 (pt_cmpR op_eq (pv 4) pe_int (nomark _)))))
      (pss_one (ps_ret (pe_ifExp (pt_cmpR op_gt (pe_callB (kc_len (K := K)) (by rfl) T.n_len boot_len (pa_cons (pv 8) pa_nil)) pe_int (nomark _)) (pe_ix (kix_list (K := K)) (pv 8) (pe_op op_modN (pv 10) (pe_callB (kc_len (K := K)) (by rfl) T.n_len boot_len (pa_cons (pv 8) pa_nil))) (fun _ _ => rfl)) (pe_ix (kix_list (K := K)) (pe_lst (pa_cons pe_non (pa_cons pe_int pa_nil))) (pe_op op_sub (pv 4) pe_int) (fun _ _ => rfl)))))
      pss_nil)
    (pss_cons (ps_if (pt_cmpR op_eq (pv 4) pe_int (nomark _))
      (pss_one (ps_ret (pe_ix (kix_list (K := K)) (pe_op op_cat (pe_lc (own := [("_law_tag", 11)]) rfl sc__law_steady__law_tell.nd (pi_range1 (by rfl) T.n_range (pa_cons (pv 1) pa_nil)) (blkOk_by (N := N__law_steady__law_tell) (sc := defScope s__law_steady__law_tell) (by decide +kernel)) (fun _ _ _ _ _ => (pg_name (i := 11) sc__law_steady__law_tell.nd rfl (Or.inl rfl))) (fun _ _ _ _ _ => (pts_one (pt_cmpR (kop_nin (K := K)) (pv 11) (pe_ix (kix_tup (K := K)) (pe_ix (kix_tup (K := K)) (pv 2) (pv 3) (fun _ _ => rfl)) pe_int (fun _ _ => rfl)) (by rfl)))) (fun _ _ _ _ _ => (pv 11))) (pe_lst (pa_cons pe_int pa_nil))) pe_int (fun _ _ => rfl))))
      pss_nil)
    (pss_cons (ps_if (pt_cmpR op_eq (pv 4) pe_int (nomark _))
      (pss_one (ps_ret (pe_ifExp (pt_cmpR op_gt (pe_op op_mod (pv 10) pe_int) pe_int (nomark _)) (pe_ix (kix_list (K := K)) (pe_op op_cat (pv 8) (pe_lst (pa_cons pe_non pa_nil))) pe_int (fun _ _ => rfl)) (pe_ix (kix_list (K := K)) (pe_lst (pa_cons pe_non (pa_cons (pv 1) (pa_cons pe_bl (pa_cons pe_str (pa_cons (pe_un un_neg pe_int) (pa_cons pe_int pa_nil))))))) (pe_op op_mod (pv 10) pe_int) (fun _ _ => rfl)))))
      pss_nil)
    (pss_one (ps_ret (pe_op op_modN (pv 10) (pv 1)))))))))))), ?_⟩
  show WS K H _ [some (.d web), some (.d (.int (n : Int))), some (.d (eT st)), some (.d (.int rm)), some (.d (.int way)), some (.d (.int seed)), some (.d (eW ms ties)), none, none, none, none, none, none, none] _
  have hf : 0 < n := n1
  have hkp : skL way seed ms ties n st rm = skL way seed ms ties n st rm := rfl
  conv at hkp => rhs; unfold skL
  dsimp only at hkp
  have hget : (st.map eR)[rm.toNat]? = some (eR (stAt st rm)) := map_get (st_get m0 (by omega))
  refine wq_asg (P := fun d => ∃ ns : List Int, d = .tup (ns.map .int) ∧ Bars ms ties st rm ns) (wv_ok (wp_callD (wa_cons (w_var rfl) (wa_cons (WFD.we (wf_lstOfT (ds := st.map eR) (w_var rfl) (enc_R.un _))) (wa_cons (w_var rfl) wa_nil))) fun H2 e2 => ⟨ms, ties, st, rm, rfl, ok, sok, hl, h8, m0, m1, rfl⟩) (.inl rfl)) fun d7 ⟨ns, e7, hb⟩ => ?_
  subst e7
  walk_at "n"
  have hleft : notIn n ns = notIn n (barsL ms ties st rm) := notIn_eq fun k => (hb.mem k).trans (by
    unfold barsL
    rw [List.mem_append]
    exact or_congr Iff.rfl sh_mem.symm)
  refine wq_asgE (d := .lst ((notIn n (barsL ms ties st rm)).map .int)) (wv_ok (w_eq (w_lcR enc_int (n := n) (fun i => !decide ((i : Int) ∈ ns)) nInt (by walk_at "wa") (by omega) (fun i hi => wb_test (w_ninT (w_var rfl) (w_var rfl))) fun i hi _ => w_var rfl) (by rw [← hleft]; rfl)) (.inl rfl)) ?_
  generalize hL : notIn n (barsL ms ties st rm) = left at hkp ⊢
  walk_at "n"
  refine wq_asgE (d := .int (foundI st)) (wv_ok (w_eq (w_sum (w_lcTg enc_int st (fun x => .bl x.1) (fun x => .tup (x.2.map .int)) (fun _ => true) (fun x => 7 * (x.2.length : Int) + 3 * x.2.sum + (if x.1 then 1 else 0)) (w_var rfl) (by have := sok.few; omega) (.inl rfl) (fun x hx => wb_yes) (fun x hx hf => ?_) (by simp) (by simp))) rfl) (.inl rfl)) ?_
  · exact w_I0 (w_I0 (w_eq (w_I (f := fun i j => i * j) w_int (w_lenT (w_var rfl)) (.inl ⟨by decide, by decide⟩)) (by rw [List.length_map])) (w_I (f := fun i j => i * j) w_int (w_sumT (w_var rfl)) (.inl ⟨by decide, by decide⟩))) (w_int1b (w_var rfl))
  walk_at "n"
  refine wq_asgE (d := .int ((seed + 31 * rm + foundI st) % 1009)) (wv_ok (w_I (f := fun i j => i % j) (w_int1 (w_I0 (w_I0 (w_var rfl) (w_I (f := fun i j => i * j) w_int (w_var rfl) (.inl ⟨by decide, by decide⟩))) (w_var rfl))) w_int (by decide)) (.inl rfl)) ?_
  walk_at "n"
  generalize (seed + 31 * rm + foundI st) % 1009 = mixed at hkp ⊢
  have mix0 : ∀ {m : Int}, 0 < m → 0 ≤ mixed % m ∧ mixed % m < m := fun h => ⟨Int.emod_nonneg _ (by omega), Int.emod_lt_of_pos _ h⟩
  have npos : ∀ {l : List Int}, decide (((l.map D.int).length : Int) > 0) = decide (0 < l.length) := fun {l} => decide_eq_decide.mpr (by rw [List.length_map]; omega)
  have hll : left.length ≤ n := by rw [← hL]; exact notIn_len _ _
  have nhN : Nh (left.map D.int ++ [.non]) := by
    cases left with
    | nil => exact nh_len (by decide)
    | cons a l => exact nh_int
  refine wq_whenB (b := decide (way < 2)) (wb_test (w_B0 (f := fun i j => decide (i < j)) (w_var rfl) w_int)) (fun h => ?_) fun h => ?_
  · have h2 := of_decide_eq_true h
    rw [if_pos h2] at hkp
    refine w_retE (w_ifE (d1 := pickD (left.map .int) (if way = 0 then 0 else (left.length : Int) - 1)) (d2 := .non) (wb_test (w_B0 (w_lenL (w_var rfl)) w_int)) (fun hp => ?_) fun _ => w_non) ?_
    · rw [npos] at hp
      have hp := of_decide_eq_true hp
      have hne' : left.map D.int ≠ [] := fun e => by
        have := congrArg List.length e
        rw [List.length_map] at this
        simp at this
        rw [this] at hp
        exact Nat.lt_irrefl _ hp
      rcases show way = 0 ∨ way = 1 by omega with e | e
      · subst e
        rw [if_pos rfl]
        exact w_pick (w_var rfl) (w_eq (w_I0 (f := fun i j => i - j) w_int (w_var rfl)) rfl) (by decide) (by rw [List.length_map]; omega)
      · subst e
        rw [if_neg (by decide)]
        exact w_eq (w_last (w_var rfl) (w_eq (w_I0 (f := fun i j => i - j) w_int (w_var rfl)) rfl) hne') (by rw [List.length_map])
    · show _ = skL way seed ms ties n st rm
      rw [hkp, npos]
      by_cases e : 0 < left.length
      · rw [if_pos e, if_pos (by simp [e])]
      · rw [if_neg e, if_neg (by simp [e])]
  rw [if_neg (of_decide_eq_false h)] at hkp
  have h2 := of_decide_eq_false h
  clear h
  refine wq_whenB (b := decide (way = 2) || decide (way = 3)) (wb_or (wb_test (w_eqI (w_var rfl) w_int)) fun _ => wb_test (w_eqI (w_var rfl) w_int)) (fun h => ?_) fun h => ?_
  · have h23 : way = 2 ∨ way = 3 := by simpa using h
    rw [if_pos h23] at hkp
    refine w_retE (w_ifE (d1 := pickD (left.map .int) (mixed.fmod (left.length : Int))) (d2 := pickD [.non, .int 0] (way - 2)) (wb_test (w_B0 (w_lenL (w_var rfl)) w_int)) (fun hp => ?_) fun _ => w_pick (w_lst (ds := [.non, .int 0]) (by walk_at "wa")) (w_I0 (f := fun i j => i - j) (w_var rfl) w_int) (by omega) (by show way - 2 < 2; omega)) ?_
    · rw [npos] at hp
      have hp := of_decide_eq_true hp
      exact w_pick (w_var rfl) (w_eq (w_I (f := fun i j => i.fmod j) (w_var rfl) (w_lenL (w_var rfl)) (by rw [List.length_map]; omega)) (by rw [List.length_map])) (fdiv_ix hp).1 (by rw [List.length_map]; exact (fdiv_ix hp).2)
    · show _ = skL way seed ms ties n st rm
      rw [hkp, npos]
      by_cases e : 0 < left.length
      · rw [if_pos e, if_pos (by simp [e])]
      · rw [if_neg e, if_neg (by simp [e])]
  have h23 : ¬ (way = 2 ∨ way = 3) := by simpa using h
  rw [if_neg h23] at hkp
  clear h
  refine wq_whenB (b := decide (way = 4)) (wb_test (w_eqI (w_var rfl) w_int)) (fun h => ?_) fun h => ?_
  · rw [if_pos (of_decide_eq_true h)] at hkp
    refine w_retE (w_pick (ds := (notIn n (stAt st rm).2).map D.int ++ [.int 0]) (WFD.we (wf_cat (w_eq (w_lcR enc_int (n := n) (fun i => !decide ((i : Int) ∈ (stAt st rm).2)) nInt (by walk_at "wa") (by omega) (fun i hi => wb_test (w_ninT (w_var rfl) (w_ixT (ds := [_, _]) (w_ixT (w_var rfl) (w_var rfl) m0 hget) w_int (by decide) rfl))) fun i hi _ => w_var rfl) rfl) (w_lst (ds := [.int 0]) (by walk_at "wa")) ?_ ?_)) w_int (by decide) ?_) hkp.symm
    · rw [List.length_map]
      have := notIn_len n (stAt st rm).2
      show _ + 1 ≤ 100000
      omega
    · exact (nh_ints (notIn n (stAt st rm).2 ++ [0])).of_eq (by rw [List.map_append]; rfl)
    · rw [List.length_append]
      show (0 : Int) < ((_ + 1 : Nat) : Int)
      omega
  rw [if_neg (of_decide_eq_false h)] at hkp
  clear h
  refine wq_whenB (b := decide (way = 5)) (wb_test (w_eqI (w_var rfl) w_int)) (fun h => ?_) fun h => ?_
  · rw [if_pos (of_decide_eq_true h)] at hkp
    refine w_retE (w_ifE (d1 := pickD (left.map D.int ++ [.non]) 0) (d2 := pickD (oddS n) (mixed % 6)) (wb_test (w_B0 (f := fun i j => decide (i > j)) (w_I (f := fun i j => i % j) (w_var rfl) w_int (by decide)) w_int)) (fun _ => w_pick (WFD.we (wf_cat (w_var rfl) (w_lst (ds := [.non]) (by walk_at "wa")) (by rw [List.length_map]; show _ + 1 ≤ 100000; omega) nhN)) w_int (by decide) (by rw [List.length_append]; show (0 : Int) < ((_ + 1 : Nat) : Int); omega)) fun _ => ?_) ?_
    · exact w_pick (ds := oddS n) (w_lst (wa_cons w_non (wa_cons (w_var rfl) (wa_cons w_bl (wa_cons w_str (wa_cons (w_neg w_int) (wa_cons w_int wa_nil))))))) (w_I (f := fun i j => i % j) (w_var rfl) w_int (by decide)) (mix0 (by decide)).1 (mix0 (by decide)).2
    · show _ = skL way seed ms ties n st rm
      rw [hkp]
      by_cases e : 0 < mixed % 37
      · rw [if_pos e, if_pos (by simpa using e)]
      · rw [if_neg e, if_neg (by simpa using e)]
  rw [if_neg (of_decide_eq_false h)] at hkp
  exact w_retE (w_I (f := fun i j => i.fmod j) (w_var rfl) (w_var rfl) (by omega)) hkp.symm
end
end W1

set_option maxRecDepth 100000
set_option maxHeartbeats 4000000
/-! keepers by steady ones -/
namespace W1
open PySem PySem.Spec PyProof.Rows L2 NdefX LamX
local macro_rules | `(tactic| walk_at "rp") => `(tactic| first | assumption | exact Rp.int _ | exact Rp.bl _ | exact Rp.str _ | exact Rp.non | exact Rp.obj _ | (refine Rp.le (by assumption) ?_; walk_at "rp"))
local macro_rules | `(tactic| walk_at "ed") => `(tactic| first
  | exact ed_int | exact ed_str | exact ed_bl | exact ed_non
  | (refine ed_var rfl ?_; walk_at "rp")
  | (refine ed_ixT (ds := [_, _]) ?_ ed_int (by decide) rfl; walk_at "ed")
  | (refine ed_I0 ?_ ?_ <;> walk_at "ed")
  | (refine ed_B0 ?_ ?_ <;> walk_at "ed")
  | (refine ed_eqS ?_ ?_ rfl rfl rfl <;> walk_at "ed")
  | assumption)
local macro_rules | `(tactic| walk_at "ea") => `(tactic| first | exact ea_nil | (refine ea_cons ?_ ?_; walk_at "ed"; walk_at "ea"))
local macro_rules | `(tactic| walk_at "w") => `(tactic| first
  | exact w_int | exact w_str | exact w_bl | exact w_non
  | exact w_var rfl | exact w_varO rfl
  | (refine w_I0 ?_ ?_ <;> walk_at "w")
  | (refine w_B0 ?_ ?_ <;> walk_at "w")
  | (refine w_eqI ?_ ?_ <;> walk_at "w")
  | (refine w_neI ?_ ?_ <;> walk_at "w")
  | (refine w_eqStr ?_ ?_ <;> walk_at "w")
  | (refine w_neStr ?_ ?_ <;> walk_at "w")
  | (refine w_lenT ?_; walk_at "w")
  | (refine w_lenL ?_; walk_at "w")
  | (refine w_int1 ?_; walk_at "w")
  | (refine w_notV ?_; walk_at "w")
  | (refine w_ixT ?_ w_int (by decide) rfl; walk_at "w")
  | (refine w_tup ?_; walk_at "wa")
  | assumption)
local macro_rules | `(tactic| walk_at "wa") => `(tactic| first | exact wa_nil | (refine wa_cons ?_ ?_; walk_at "w"; walk_at "wa"))
local macro_rules | `(tactic| walk_at "wb") => `(tactic| first | exact wb_yes | (refine wb_test ?_; walk_at "w") | (refine wb_B ?_; walk_at "w") | (refine wb_not ?_; walk_at "wb"))
local macro_rules | `(tactic| walk_at "n") => `(tactic| try dsimp only [List.set_cons_succ, List.set_cons_zero])

abbrev s_steadily_keeper : Stmt := (C8.fnBody (topS 38)).getD 0 (.Pass ⟨0, 0, 0, 0⟩)
abbrev N_steadily_keeper : List Str := ["web", "k", "past", "room", "steady"]
abbrev P_steadily_keeper : List Str := ["web", "k", "past", "room"]
abbrev F_steadily_keeper : List Str := ["steady"]
theorem sc_steadily_keeper : MScope N_steadily_keeper P_steadily_keeper F_steadily_keeper (defScope s_steadily_keeper) := mscope_by (by decide +kernel)
abbrev e__law_by_steady_lambda : Expr := lamAt (topS 61) 0
abbrev N__law_by_steady_lambda : List Str := ["_law_web", "_law_k", "_law_past", "_law_room", "_law_steady_here", "_law_parts_here"]
abbrev P__law_by_steady_lambda : List Str := ["_law_web", "_law_k", "_law_past", "_law_room"]
abbrev F__law_by_steady_lambda : List Str := ["_law_steady_here", "_law_parts_here"]
theorem sc__law_by_steady_lambda : MScope N__law_by_steady_lambda P__law_by_steady_lambda F__law_by_steady_lambda (lamScope e__law_by_steady_lambda) := mscope_by (by decide +kernel)
section
variable {P : Program} {w : World} {K : PySem.W.Frag} {mg : Str → Option Value} {base : Heap} {C : Addr}
/-- a steady keeper tells by standing and room -/
def R_sk (K : PySem.W.Frag) (ms : List Int) (n : Nat) (sk : St1 → Int → D) : List D → Hp → D → Prop := fun ds _ d => ∃ (web : D) (st : St1) (r : Int), ds = [web, .int (n : Int), eT st, .int r] ∧ StOk st ∧ st.length = ms.length ∧ 0 ≤ r ∧ r < ms.length ∧ d = sk st r
abbrev Steady (P : Program) (w : World) (K : PySem.W.Frag) (mg : Str → Option Value) (base : Heap) (ms : List Int) (n : Nat) (sk : St1 → Int → D) (g : Addr) (H : Hp) : Prop := Callee P w K mg base 5 g H (spD K fun ds H P => ∃ d, R_sk K ms n sk ds H d ∧ P = is d)
def kpOf (ms : List Int) (sk : St1 → Int → D) (past : List Deed) (r : Int) : D := sk (cutSt ms (stOf ms.length past)) r
/-- what it is asked -/
def R_ask (K : PySem.W.Frag) (C : Addr) (ms : List Int) (ties : List (Int × Int)) (n : Nat) (kp : List Deed → Int → D) : List D → Hp → D → Prop := fun ds H d => ∃ a past r, ds = [.obj (.ref a), .int (n : Int), .tup (past.map eD), .int r] ∧ WebAt K C H a ms ties ∧ InR ms.length past ∧ past.length ≤ 200 ∧ 0 ≤ r ∧ r < ms.length ∧ d = kp past r
def R_skeep (P : Program) (w : World) (K : PySem.W.Frag) (mg : Str → Option Value) (base : Heap) (C : Addr) (ms : List Int) (ties : List (Int × Int)) (n : Nat) (sk : St1 → Int → D) : List D → List D → Hp → D → Prop := fun es ds H d => ∃ g, es = [.obj (.ref g)] ∧ ms.length ≤ 8 ∧ Steady P w K mg base ms n sk g H ∧ R_ask K C ms ties n (kpOf ms sk) ds H d
theorem ok_skeep (Gstanding_of : Def P w K mg base 2 "standing_of" ["web", "past"] (spD K (R_so K C))) {ms : List Int} {ties : List (Int × Int)} {n : Nat} {sk : St1 → Int → D} {f : Addr} {q : Str} {cl : List (Str × Addr)} {c : Addr} :
    NokM P w K mg base CX0 6 f (NF.of s_steadily_keeper "keeper" q cl c) P_steadily_keeper F_steadily_keeper (spN K (R_skeep P w K mg base C ms ties n sk)) := by
  refine nokM_data (N := N_steadily_keeper) sc_steadily_keeper (fun doc pm ctv us hu => ?_) (fun es ds H d h => ?_) (by decide) fun A outer s H E es ds d hr h => ?_
  · match us, hu with
    | [a, b, c, d], _ => rfl
  · obtain ⟨g, rfl, _, _, a, past, r, rfl, _⟩ := h
    exact ⟨rfl, rfl⟩
  obtain ⟨g, rfl, h8, hg, a, past, r, rfl, x, hin, hpl, m0, m1, rfl⟩ := h
  refine ⟨_, (pss_one (ps_ret (pe_callV (k := 5) (i := 4) (hr.mono (by decide)) pass0 rfl (by first | exact .inl rfl | exact .inr (.inl rfl) | exact .inr (.inr rfl)) (pa_cons (pv 0) (pa_cons (pv 1) (pa_cons (pe_def Gstanding_of (hr.mono (by decide)) (pa_cons (pv 0) (pa_cons (pv 2) pa_nil))) (pa_cons (pv 3) pa_nil))))))), ?_⟩
  show WS K H _ [some (.d (.obj (.ref a))), some (.d (.int (n : Int))), some (.d (.tup (past.map eD))), some (.d (.int r)), some (.d (.obj (.ref g)))] _
  have sok := cut_ok (stOf_sok hin (by omega) (by omega)) (ms := ms)
  exact w_retE (w_callV (d := kpOf ms sk past r) rfl hg (wa_cons (w_var rfl) (wa_cons (w_var rfl) (wa_cons (w_call (d := eT (cutSt ms (stOf ms.length past))) (by walk_at "wa") fun H2 e2 => ⟨a, ms, ties, past, rfl, x.le e2, by omega, by omega, hin, rfl⟩) (wa_cons (w_var rfl) wa_nil)))) fun H2 e2 => ⟨_, ⟨_, _, r, rfl, sok, by rw [cut_len]; exact (stOf_ok past hin).1, m0, m1, rfl⟩, rfl⟩) rfl
def R_slam (P : Program) (w : World) (K : PySem.W.Frag) (mg : Str → Option Value) (base : Heap) (C : Addr) (ms : List Int) (ties : List (Int × Int)) (n : Nat) (sk : St1 → Int → D) : List D → List D → Hp → D → Prop := fun es ds H d => ∃ g, es = [.obj (.ref g), eW ms ties] ∧ PartsOk ms ties ∧ ms.length ≤ 8 ∧ Steady P w K mg base ms n sk g H ∧ R_ask K C ms ties n (kpOf ms sk) ds H d
theorem ok_slam (G_law_state : Def P w K mg base 2 "_law_state" ["_law_parts_here", "_law_past"] (spD K R_lst)) (G_law_standing : Def P w K mg base 1 "_law_standing" ["_law_parts_here", "_law_state_here"] (spD K R_lstand)) {ms : List Int} {ties : List (Int × Int)} {n : Nat} {sk : St1 → Int → D} {f : Addr} {q : Str} {cl : List (Str × Addr)} {c : Addr} :
    NokL P w K mg base CX0 6 f (lfOf e__law_by_steady_lambda q cl c) P__law_by_steady_lambda F__law_by_steady_lambda (spN K (R_slam P w K mg base C ms ties n sk)) := by
  refine nokL_data (N := N__law_by_steady_lambda) sc__law_by_steady_lambda (fun pm ctv us hu => ?_) (fun es ds H d h => ?_) (by decide) fun A outer s H E es ds d hr h => ?_
  · match us, hu with
    | [a, b, c, d], _ => rfl
  · obtain ⟨g, rfl, _, _, _, a, past, r, rfl, _⟩ := h
    exact ⟨rfl, rfl⟩
  obtain ⟨g, rfl, ok, h8, hg, a, past, r, rfl, x, hin, hpl, m0, m1, rfl⟩ := h
  refine ⟨_, (pe_callV (k := 5) (i := 4) (hr.mono (by decide)) pass0 rfl (by first | exact .inl rfl | exact .inr (.inl rfl) | exact .inr (.inr rfl)) (pa_cons (pv 0) (pa_cons (pv 1) (pa_cons (pe_def G_law_standing (hr.mono (by decide)) (pa_cons (pv 5) (pa_cons (pe_def G_law_state (hr.mono (by decide)) (pa_cons (pv 5) (pa_cons (pv 2) pa_nil))) pa_nil))) (pa_cons (pv 3) pa_nil))))), ?_⟩
  show WE K H _ [some (.d (.obj (.ref a))), some (.d (.int (n : Int))), some (.d (.tup (past.map eD))), some (.d (.int r)), some (.d (.obj (.ref g))), some (.d (eW ms ties))] _
  have hl := (stOf_ok past hin).1
  have sok := cut_ok (stOf_sok hin (by omega) (by omega)) (ms := ms)
  exact w_callV (d := kpOf ms sk past r) rfl hg (wa_cons (w_var rfl) (wa_cons (w_var rfl) (wa_cons (w_call (d := eT (cutSt ms (stOf ms.length past))) (wa_cons (w_var rfl) (wa_cons (w_call (d := eS (stOf ms.length past)) (by walk_at "wa") fun H2 e2 => ⟨ms, ties, past, rfl, by omega, by omega, hin, rfl⟩) wa_nil)) fun H2 e2 => ⟨ms, ties, _, rfl, ok, hl, rfl⟩) (wa_cons (w_var rfl) wa_nil)))) fun H2 e2 => ⟨_, ⟨_, _, r, rfl, sok, by rw [cut_len]; exact hl, m0, m1, rfl⟩, rfl⟩
/-! what they promise -/
theorem WebAt.strip {F : NF} {H : Hp} {a : Addr} {ms : List Int} {ties : List (Int × Int)} (hc : HeldC F H) (x : WebAt K C H a ms ties) : WebAt K C (L2.strip F H) a ms ties := by
  obtain ⟨dx, v1, v2, v3, h, r1, r2, r3⟩ := x
  exact ⟨dx, v1, v2, v3, by rw [strip_out (HeldC.out hc h fun φ z => HO.noConfusion z)]; exact h, r1.strip hc, r2.strip hc, r3.strip hc⟩
theorem callee_kp {kk : Nat} {f : Addr} {H : Hp} {ms : List Int} {ties : List (Int × Int)} {n : Nat} {kp : List Deed → Int → D} (h : Callee P w K mg base kk f H (spD K fun ds H P => ∃ d, R_ask K C ms ties n kp ds H d ∧ P = is d)) (hk : kk ≤ 8) : Keeper P w K mg base C ms ties (n : Int) kp f H :=
  (h.mono hk).imp fun vs H Q E _ ⟨ds, P1, r, ⟨a, past, rm, e, x, h1, h2, h3, h4, hP⟩, q⟩ => ⟨ds, P1, r, ⟨kp past rm, ⟨a, past, rm, e, x, h1, h2, h3, h4, rfl⟩, hP⟩, q⟩
end
end W1

set_option maxRecDepth 100000
set_option maxHeartbeats 4000000
/-! the law itself -/
namespace W1
open PySem PySem.Spec PyProof.Rows L2 NdefX LamX
local macro_rules | `(tactic| walk_at "rp") => `(tactic| first | assumption | exact Rp.int _ | exact Rp.bl _ | exact Rp.str _ | exact Rp.non | exact Rp.obj _ | (refine Rp.le (by assumption) ?_; walk_at "rp"))
local macro_rules | `(tactic| walk_at "ed") => `(tactic| first
  | exact ed_int | exact ed_str | exact ed_bl | exact ed_non
  | (refine ed_var rfl ?_; walk_at "rp")
  | (refine ed_ixT (ds := [_, _]) ?_ ed_int (by decide) rfl; walk_at "ed")
  | (refine ed_I0 ?_ ?_ <;> walk_at "ed")
  | (refine ed_B0 ?_ ?_ <;> walk_at "ed")
  | (refine ed_eqS ?_ ?_ rfl rfl rfl <;> walk_at "ed")
  | assumption)
local macro_rules | `(tactic| walk_at "ea") => `(tactic| first | exact ea_nil | (refine ea_cons ?_ ?_; walk_at "ed"; walk_at "ea"))
local macro_rules | `(tactic| walk_at "w") => `(tactic| first
  | exact w_int | exact w_str | exact w_bl | exact w_non
  | exact w_var rfl | exact w_varO rfl
  | (refine w_I0 ?_ ?_ <;> walk_at "w")
  | (refine w_B0 ?_ ?_ <;> walk_at "w")
  | (refine w_eqI ?_ ?_ <;> walk_at "w")
  | (refine w_neI ?_ ?_ <;> walk_at "w")
  | (refine w_eqStr ?_ ?_ <;> walk_at "w")
  | (refine w_neStr ?_ ?_ <;> walk_at "w")
  | (refine w_lenT ?_; walk_at "w")
  | (refine w_lenL ?_; walk_at "w")
  | (refine w_int1 ?_; walk_at "w")
  | (refine w_notV ?_; walk_at "w")
  | (refine w_ixT ?_ w_int (by decide) rfl; walk_at "w")
  | (refine w_tup ?_; walk_at "wa")
  | assumption)
local macro_rules | `(tactic| walk_at "wa") => `(tactic| first | exact wa_nil | (refine wa_cons ?_ ?_; walk_at "w"; walk_at "wa"))
local macro_rules | `(tactic| walk_at "wb") => `(tactic| first | exact wb_yes | (refine wb_test ?_; walk_at "w") | (refine wb_B ?_; walk_at "w") | (refine wb_not ?_; walk_at "wb"))
local macro_rules | `(tactic| walk_at "n") => `(tactic| try dsimp only [List.set_cons_succ, List.set_cons_zero])

abbrev s_law : Stmt := topS 69
abbrev N_law : List Str := ["_law_script", "_law_hand_here", "_law_turn", "_law_parts_here", "_law_k", "_law_many", "_law_web", "_law_row_here", "_law_again", "_law_keeper_here", "_law_steady_here", "_law_due", "_law_thing", "_law_index"]
theorem sc_law : FnScope N_law ["_law_script"] (defScope s_law) := ⟨rfl, rfl, rfl, by decide +kernel, rfl, by decide +kernel, by decide +kernel⟩
theorem Clo.inc {H : Hp} {g : Addr} {F : NF} {fr : List Str} {ws : List V} {B0 : Hp} (e : Le B0 H) (n : ∀ b, InC F b → B0 b = none) : ∀ {H2 : Hp}, Le H H2 → Le B0 (strip F H2) := fun e2 => le_strip (e.trans e2) n
theorem led_len {ms : List Int} {ties : List (Int × Int)} {k : Int} {kp : List Deed → Int → D} : ∀ (row : List Ask) (past : List Deed) (st : St1), (ledL ms ties k kp past st row).1.length ≤ past.length + row.length
  | [], past, st => Nat.le_refl _
  | ak :: row, past, st => by
    have hs : (stepL ms ties k kp past st ak).1.length ≤ past.length + 1 := by
      cases ak with
      | back r => exact Nat.le_of_eq (List.length_append ..)
      | give r =>
        unfold stepL
        dsimp only
        split
        · exact Nat.le_succ _
        · split
          · exact Nat.le_of_eq (List.length_append ..)
          · exact Nat.le_succ _
    unfold ledL
    split
    · have := led_len (ms := ms) (ties := ties) (k := k) (kp := kp) row (stepL ms ties k kp past st ak).1 (stepL ms ties k kp past st ak).2.1
      rw [List.length_cons]
      omega
    · rw [List.length_cons]
      show (stepL ms ties k kp past st ak).1.length ≤ _
      omega
theorem led_Dp {x : List Deed × Str} (h : x.1.length ≤ 50000) : Dp 5 (ledD x) := ⟨by show 2 ≤ 50000; decide, fun y hy => by
  simp only [List.mem_cons, List.not_mem_nil, or_false] at hy
  rcases hy with rfl | rfl
  · refine ⟨by rw [List.length_map]; exact h, fun z hz => ?_⟩
    obtain ⟨dd, _, rfl⟩ := List.mem_map.mp hz
    cases dd with
    | give r t => exact ⟨by show 3 ≤ 50000; decide, fun u hu => by
        simp only [List.mem_cons, List.not_mem_nil, or_false] at hu
        rcases hu with rfl | rfl | rfl <;> exact trivial⟩
    | back r => exact ⟨by show 2 ≤ 50000; decide, fun u hu => by
        simp only [List.mem_cons, List.not_mem_nil, or_false] at hu
        rcases hu with rfl | rfl <;> exact trivial⟩
  · exact trivial⟩
theorem sca_Dp {n : Nat} {d : D} (h : sca d = true) : Dp (n + 1) d := by
  cases d <;> first | exact trivial | cases h
theorem eK_th {H : Hp} (ak : Ask) : Th H (eK ak) := by
  cases ak <;> exact .tup (by show 2 ≤ 50000; decide) fun y hy => by
    simp only [List.mem_cons, List.not_mem_nil, or_false] at hy
    rcases hy with rfl | rfl <;> exact .sc rfl
theorem uni_K (row : List Ask) : Uni (row.map eK) := .inr fun d hd => by
  obtain ⟨ak, _, rfl⟩ := List.mem_map.mp hd
  cases ak <;> exact ⟨(fun i e => nomatch e), (fun v e => nomatch e)⟩
theorem row_th {H : Hp} (row : List Ask) : ∀ x ∈ row.map eK, Th H x := fun x hx => by
  obtain ⟨ak, _, rfl⟩ := List.mem_map.mp hx
  exact eK_th ak
theorem nonD_is (d : D) : nonD d = isNon d := by cases d <;> rfl
theorem rowB_is {n : Nat} {d : D} : rowB n d = isNon (rowD n d) := by
  unfold rowB
  cases h : isSeq d with
  | true => rfl
  | false => rw [rowD_no h]; rfl
theorem sqL_le {K : PySem.W.Frag} {H H' : Hp} {a : Addr} {ns : List Int} (e : Le H H') (h : SqL K H a (ns.map V.int)) : SqL K H' a (ns.map V.int) := by
  rcases h with (h | ⟨o, h⟩) | h
  · exact .inl (.inl (e.lst h (notH_ints _)))
  · exact .inl (.inr ⟨o, e.frz h⟩)
  · exact .inr h
def spLaw (K : PySem.W.Frag) (Tb : List NTab) : Sp := fun vs H Q _ => ∃ (a : Addr) (ns : List Int), vs = [.ref a] ∧ SqL K H a (ns.map V.int) ∧ ns.length ≤ 63 ∧ TabsN Tb H ∧ ∀ H', Q (.bl true) H'
abbrev kBody (I : DS → Prop) : DK := { nx := I, rt := fun x => x = .bl true, rf := fun _ => False, ct := I, bk := fun _ => True }
section
variable {P : Program} {w : World} {K : PySem.W.Frag} {mg : Str → Option Value} {base : Heap} {C CR fr : Addr} {Tb : List NTab} {qK qS qL qB : Str}
theorem ok_law {f : Addr} {fd : FuncData} (T : ATxt mg) (hmR : mg "_law_raising" = some (.ref fr)) (F : Fun K "law" "law" s_law f fd) (G_law_hand : Def P w K mg base 1 "_law_hand" ["_law_script"] (spD K (R_hand K))) (G_law_draw : Def P w K mg base 1 "_law_draw" ["_law_hand_here", "_law_many"] (spD K R_draw)) (G_law_parts : Def P w K mg base 2 "_law_parts" ["_law_hand_here", "_law_most", "_law_memory"] (spD K R_parts))
    (G_law_deep_parts : Def P w K mg base 3 "_law_deep_parts" ["_law_hand_here", "_law_most"] (spD K R_deep)) (G_law_made : Def P w K mg base 7 "_law_made" ["_law_parts_here"] (spD K (R_made K C))) (G_law_row : Def P w K mg base 3 "_law_row" ["_law_hand_here", "_law_parts_here", "_law_many"] (spD K R_lrow)) (G_law_is : Def P w K mg base 6 "_law_is" ["_law_told", "_law_due"] (spD K (R_is 5)))
    (Gled : DefX P w K mg base 13 "led" ["keeper", "web", "k", "row"] (spX K (R_led P w K mg base C CR))) (G_law_led : Def P w K mg base 9 "_law_led" ["_law_keeper_here", "_law_parts_here", "_law_k", "_law_row_here"] (spD K (R_lled P w K mg base C))) (G_law_bent_row : Def P w K mg base 4 "_law_bent_row" ["_law_hand_here", "_law_parts_here", "_law_row_here"] (spD K R_lbr))
    (G_law_first_none : Def P w K mg base 3 "_law_first_none" ["_law_parts_here", "_law_thing"] (spD K R_lfn)) (Gis_row : Def P w K mg base 7 "is_row" ["web", "thing"] (spD K (R_isrow K C))) (G_law_led_word : Def P w K mg base 15 "_law_led_word" ["_law_keeper_here", "_law_web", "_law_k", "_law_row_here"] (spD K (R_lledw K C))) (G_law_goes_on : Def P w K mg base 15 "_law_goes_on" ["_law_web"] (spD K (R_goes K C)))
    (G_law_state : Def P w K mg base 2 "_law_state" ["_law_parts_here", "_law_past"] (spD K R_lst)) (G_law_bars : Def P w K mg base 2 "_law_bars" ["_law_parts_here", "_law_state_here", "_law_room"] (spD K R_bars)) (G_law_near : Def P w K mg base 1 "_law_near" ["_law_parts_here", "_law_room"] (spF K R_near)) (G_law_standing : Def P w K mg base 1 "_law_standing" ["_law_parts_here", "_law_state_here"] (spD K R_lstand)) (Gstanding_of : Def P w K mg base 2 "standing_of" ["web", "past"] (spD K (R_so K C)))
    (G_law_keeper : Def P w K mg base 1 "_law_keeper" ["_law_way", "_law_seed", "_law_parts_here"] (spMk Tb 3 s__law_keeper__law_tell "_law_tell" qK F__law_keeper__law_tell fun vs => vs)) (G_law_steady : Def P w K mg base 1 "_law_steady" ["_law_way", "_law_seed", "_law_parts_here"] (spMk Tb 3 s__law_steady__law_tell "_law_tell" qS F__law_steady__law_tell fun vs => vs))
    (G_law_by_steady : Def P w K mg base 1 "_law_by_steady" ["_law_steady_here", "_law_parts_here"] (spMkL Tb 2 (lamArgs e__law_by_steady_lambda) (lamBody e__law_by_steady_lambda) (lamScope e__law_by_steady_lambda) qL F__law_by_steady_lambda fun vs => vs)) (Gsteadily : Def P w K mg base 1 "steadily" ["steady"] (spMk Tb 1 s_steadily_keeper "keeper" qB F_steadily_keeper fun vs => vs)) :
    FnOk P w K mg base CX0 16 f fd ["_law_script"] (spLaw K Tb) := by
  refine F.ok sc_law (fun vs H Q E h => ?_) (fun cdv A outer s H vs Q E hr h => ?_)
  · obtain ⟨a, ns, rfl, _⟩ := h
    rfl
  obtain ⟨a, ns, rfl, hS, hl, hT, q⟩ := h
  refine ⟨_, (pss_cons (ps_set (i := 1) sc_law.nd rfl (Or.inl rfl) (pe_def G_law_hand (hr.mono (by decide)) (pa_cons (pv 0) pa_nil)))
    (pss_cons (ps_for PassesOwn.never rfl (pi_range1 (by rfl) T.n_range (pa_cons pe_int pa_nil)) (pg_name (i := 2) sc_law.nd rfl (Or.inl rfl))
      (pss_cons (ps_par (i := 3) (j := 4) (by rfl) sc_law.nd rfl rfl (by decide) rfl rfl (pa_cons (pe_def G_law_parts (hr.mono (by decide)) (pa_cons (pv 1) (pa_cons pe_int (pa_cons pe_int pa_nil)))) (pa_cons (pe_op op_add pe_int (pe_def G_law_draw (hr.mono (by decide)) (pa_cons (pv 1) (pa_cons pe_int pa_nil)))) pa_nil)) (by rfl))
    (pss_cons (ps_set (i := 5) sc_law.nd rfl (Or.inl rfl) (pe_def G_law_draw (hr.mono (by decide)) (pa_cons (pv 1) (pa_cons pe_int pa_nil))))
    (pss_cons (ps_if (PW.pt (pw_and (pt_cmpR op_eq (pv 2) pe_int (nomark _)) (pw_and1 (pt_cmpR op_eq (pe_def G_law_draw (hr.mono (by decide)) (pa_cons (pv 1) (pa_cons pe_int pa_nil))) pe_int (nomark _)))))
      (pss_one (ps_par3 (i := 3) (j := 4) (l := 5) rfl sc_law.nd rfl rfl rfl (by decide) (by decide) (by decide) rfl rfl rfl (pa_cons (pe_def G_law_deep_parts (hr.mono (by decide)) (pa_cons (pv 1) (pa_cons pe_int pa_nil))) (pa_cons (pe_op op_add pe_int (pe_def G_law_draw (hr.mono (by decide)) (pa_cons (pv 1) (pa_cons pe_int pa_nil)))) (pa_cons (pe_op op_add pe_int (pe_def G_law_draw (hr.mono (by decide)) (pa_cons (pv 1) (pa_cons pe_int pa_nil)))) pa_nil))) (by rfl)))
      pss_nil)
    (pss_cons (ps_par (i := 6) (j := 7) (by rfl) sc_law.nd rfl rfl (by decide) rfl rfl (pa_cons (pe_def G_law_made (hr.mono (by decide)) (pa_cons (pv 3) pa_nil)) (pa_cons (pe_def G_law_row (hr.mono (by decide)) (pa_cons (pv 1) (pa_cons (pv 3) (pa_cons (pv 5) pa_nil)))) pa_nil)) (by rfl))
    (pss_cons (ps_for PassesOwn.never rfl (pi_range1 (by rfl) T.n_range (pa_cons pe_int pa_nil)) (pg_name (i := 8) sc_law.nd rfl (Or.inl rfl))
      (pss_cons (ps_set (i := 9) sc_law.nd rfl (Or.inl rfl) (pe_def G_law_keeper (hr.mono (by decide)) (pa_cons (pe_def G_law_draw (hr.mono (by decide)) (pa_cons (pv 1) (pa_cons pe_int pa_nil))) (pa_cons (pe_op op_add pe_int (pe_def G_law_draw (hr.mono (by decide)) (pa_cons (pv 1) (pa_cons pe_int pa_nil)))) (pa_cons (pv 3) pa_nil)))))
    (pss_cons (ps_if (pt_not (pt_val (pe_def G_law_is (hr.mono (by decide)) (pa_cons (pe_defX Gled (hr.mono (by decide)) passF (pa_cons (pv 9) (pa_cons (pv 6) (pa_cons (pv 4) (pa_cons (pe_ix (kix_list (K := K)) (pe_lst (pa_cons (pv 7) (pa_cons (pe_callTy (kc_list (K := K)) (by rfl) T.n_list boot_list (pa_cons (pv 7) pa_nil)) pa_nil))) (pe_def G_law_draw (hr.mono (by decide)) (pa_cons (pv 1) (pa_cons pe_int pa_nil))) (fun _ _ => rfl)) pa_nil))))) (pa_cons (pe_def G_law_led (hr.mono (by decide)) (pa_cons (pv 9) (pa_cons (pv 3) (pa_cons (pv 4) (pa_cons (pv 7) pa_nil))))) pa_nil)))))
      (pss_one (ps_ret pe_bl))
      pss_nil)
    (pss_cons (ps_set (i := 10) sc_law.nd rfl (Or.inl rfl) (pe_def G_law_steady (hr.mono (by decide)) (pa_cons (pe_def G_law_draw (hr.mono (by decide)) (pa_cons (pv 1) (pa_cons pe_int pa_nil))) (pa_cons (pe_def G_law_draw (hr.mono (by decide)) (pa_cons (pv 1) (pa_cons pe_int pa_nil))) (pa_cons (pv 3) pa_nil)))))
    (pss_cons (ps_set (i := 11) sc_law.nd rfl (Or.inl rfl) (pe_def G_law_led (hr.mono (by decide)) (pa_cons (pe_def G_law_by_steady (hr.mono (by decide)) (pa_cons (pv 10) (pa_cons (pv 3) pa_nil))) (pa_cons (pv 3) (pa_cons (pv 4) (pa_cons (pv 7) pa_nil))))))
    (pss_one (ps_if (pt_not (pt_val (pe_def G_law_is (hr.mono (by decide)) (pa_cons (pe_defX Gled (hr.mono (by decide)) passF (pa_cons (pe_def Gsteadily (hr.mono (by decide)) (pa_cons (pv 10) pa_nil)) (pa_cons (pv 6) (pa_cons (pv 4) (pa_cons (pv 7) pa_nil))))) (pa_cons (pv 11) pa_nil)))))
      (pss_one (ps_ret pe_bl))
      pss_nil)))))))
    (pss_cons (ps_for PassesOwn.never rfl (pi_range1 (by rfl) T.n_range (pa_cons pe_int pa_nil)) (pg_name (i := 8) sc_law.nd rfl (Or.inl rfl))
      (pss_cons (ps_set (i := 12) sc_law.nd rfl (Or.inl rfl) (pe_def G_law_bent_row (hr.mono (by decide)) (pa_cons (pv 1) (pa_cons (pv 3) (pa_cons (pv 7) pa_nil)))))
    (pss_cons (ps_set (i := 13) sc_law.nd rfl (Or.inl rfl) (pe_def G_law_first_none (hr.mono (by decide)) (pa_cons (pv 3) (pa_cons (pv 12) pa_nil))))
    (pss_cons (ps_if (pt_not (pt_val (pe_def G_law_is (hr.mono (by decide)) (pa_cons (pe_lst (pa_cons (pe_def Gis_row (hr.mono (by decide)) (pa_cons (pv 6) (pa_cons (pv 12) pa_nil))) pa_nil)) (pa_cons (pe_lst (pa_cons (pe_cmpR op_isN (pv 13) pe_non (nomark _)) pa_nil)) pa_nil)))))
      (pss_one (ps_ret pe_bl))
      pss_nil)
    (pss_one (ps_if (PW.pt (pw_and (pt_cmpR op_notN (pv 13) pe_non (nomark _)) (pw_and1 (pt_not (pt_val (pe_def G_law_is (hr.mono (by decide)) (pa_cons (pe_def G_law_led_word (hr.mono (by decide)) (pa_cons (pe_gl (v := .ref fr) ⟨_, hmR, rfl⟩) (pa_cons (pv 6) (pa_cons (pv 4) (pa_cons (pv 12) pa_nil))))) (pa_cons (pe_tup (pa_cons pe_str (pa_cons (pv 13) pa_nil))) pa_nil))))))))
      (pss_one (ps_ret pe_bl))
      pss_nil))))))
    (pss_one (ps_if (PW.pt (pw_or (pt_cmpR op_isnot_bl (pe_def Gis_row (hr.mono (by decide)) (pa_cons (pv 6) (pa_cons (pv 7) pa_nil))) pe_bl (nomark _)) (pw_or1 (pt_not (pt_val (pe_def G_law_goes_on (hr.mono (by decide)) (pa_cons (pv 6) pa_nil)))))))
      (pss_one (ps_ret pe_bl))
      pss_nil)))))))))
    (pss_one (ps_ret pe_bl)))), ?_⟩
  -- hand
  refine q_asg (K := K) (P := fun d H2 => ∃ h, d = .obj (.ref h) ∧ Hand H2 h) (ed_call (ea_cons (ed_var rfl (.obj (.ref a))) ea_nil) fun H1 e1 => ⟨a, ns, rfl, sqL_le e1 hS, hl, rfl⟩) fun v1 d H1 e1 p1 r1 => ?_
  obtain ⟨h, rfl, hh0⟩ := p1
  have ev := rp_obj r1
  subst ev
  have hh := hand_noT hh0
  suffices hw : WN K Tb (noT H1) _ [none, some (.d (.obj (.ref h))), none, none, none, none, none, none, none, none, none, none, none, none] { nx := fun _ => False, rt := fun x => x = .bl true, rf := fun _ => False } from
    hw (noT H1) (Le.refl _) (flat_noT H1) _ _ H1 ⟨fun _ _ _ _ x => x.elim, fun _ _ _ _ x => x.elim, fun _ _ _ _ x => x.elim, fun v d H2 _ e r => by rw [e] at r; rw [rp_bl r]; exact q H2⟩
      ⟨⟨noT H1, Le.refl _, fun a o h => .inl (noT_some h).1, ⟨rfl, fun i v s h1 h2 => by
        match i, h1, h2 with
        | 0, h1, h2 =>
          cases h2
          trivial
        | 1, h1, h2 =>
          cases h1
          cases h2
          exact ⟨_, rfl, .obj _⟩
        | 2, h1, h2 | 3, h1, h2 | 4, h1, h2 | 5, h1, h2 | 6, h1, h2 | 7, h1, h2 | 8, h1, h2 | 9, h1, h2 | 10, h1, h2 | 11, h1, h2 | 12, h1, h2 | 13, h1, h2 =>
          cases h2
          trivial, fun i j a ds es h1 => absurd h1 (no_own rfl i ds)⟩⟩, rfl, tabsN_le hT e1⟩
  clear r1
  have dr : ∀ {δ : DS} {m : Int} {B : Hp}, Le (noT H1) B → δ[1]? = some (some (.d (.obj (.ref h)))) → 1 ≤ m ∧ m ≤ 1000000 → WP K B (tCall (spD K R_draw) [] E0 (tCons (tVar 1) (tCons (tC (.int m)) tNil))) δ (isI0 fun r => 0 ≤ r ∧ r < m) := fun e hs hm => wp_draw (hh.le e) (wa_cons (w_var hs) (wa_cons w_int wa_nil)) hm
  refine wn_cut (fun _ => True) (wn_forR (n := 3) (by walk_at "wa") (by omega) (fun _ δ' => sub [none, some (.d (.obj (.ref h))), none, none, none, none, none, none, none, none, none, none, none, none] δ') ⟨rfl, trivial⟩ (fun m δ' hm no hs => ?_) fun _ _ => trivial) fun δ' _ => wn_ret (P := fun x => x = .bl true) w_bl fun x e => e
  refine wn_sub (δ' := [none, some (.d (.obj (.ref h))), some (.d (.int (m : Int))), none, none, none, none, none, none, none, none, none, none, none]) ?_ rfl ?_
  · match δ', hs with
    | [_, some _, _, _, _, _, _, _, _, _, _, _, _, _], hs => exact ⟨hs.1, rfl, trivial⟩
  clear hs no δ'
  -- parts and k
  refine wn_seq (wn_of (w_par (PA := fun ds => ∃ (ms : List Int) (ties : List (Int × Int)) (n : Int), ds = [eW ms ties, .int n] ∧ PartsOk ms ties ∧ ms.length ≤ 8 ∧ 1 ≤ n ∧ n ≤ 8) ?_ (.inl rfl) fun ds ⟨ms, ties, n, e, ok, h8, n1, n2⟩ => ⟨_, _, e, rfl, ?_⟩))
  · refine WA.weak (wa_consP (P := fun d => ∃ ms ties, d = eW ms ties ∧ PartsOk ms ties ∧ (ms.length : Int) ≤ 8 ∧ ∀ z ∈ ms, z ≤ 3) (wp_callD (by walk_at "wa") fun H2 e2 => ⟨h, 8, 3, rfl, hh.le e2, by omega, by omega, by omega, by omega, rfl⟩) (wa_consP (wp_plus (c := 1) (dr (Le.refl _) rfl (by omega))) wa_nil)) ?_
    rintro ds ⟨d1, r1, rfl, ⟨ms, ties, rfl, ok, h8, _⟩, d2, r2, rfl, ⟨n, rfl, n1, n2⟩, rfl⟩
    exact ⟨ms, ties, n, rfl, ok, by omega, by omega, by omega⟩
  subst e
  walk_at "n"
  refine wn_seq (wn_of (w_asg (P := isI0 fun r => 0 ≤ r ∧ r < 31) (wv_ok (dr (Le.refl _) rfl (by omega)) (.inl rfl)) fun x ⟨many, e, y0, y1⟩ => ⟨rfl, ?_⟩))
  subst e
  walk_at "n"
  refine wn_cut (fun δ' => ∃ (ms : List Int) (ties : List (Int × Int)) (n many : Int), δ' = [none, some (.d (.obj (.ref h))), some (.d (.int (m : Int))), some (.d (eW ms ties)), some (.d (.int n)), some (.d (.int many)), none, none, none, none, none, none, none, none] ∧ PartsOk ms ties ∧ ms.length ≤ 8 ∧ 1 ≤ n ∧ n ≤ 45 ∧ 0 ≤ many ∧ many ≤ 80) ?_ ?_
  · refine wn_if (P := fun _ => True) ((wt_and (wb_test (w_eqI (w_var rfl) w_int)) fun _ => wt_draw0 hh (by walk_at "wa") (by omega)).weak fun _ _ => trivial) (fun _ => ?_) fun _ => wn_next ⟨ms, ties, n, many, rfl, ok, h8, n1, by omega, y0, by omega⟩
    refine wn_of (w_par3 (PA := fun ds => ∃ (ms : List Int) (ties : List (Int × Int)) (n many : Int), ds = [eW ms ties, .int n, .int many] ∧ PartsOk ms ties ∧ ms.length ≤ 8 ∧ 1 ≤ n ∧ n ≤ 45 ∧ 0 ≤ many ∧ many ≤ 80) ?_ (.inl rfl) fun ds ⟨ms, ties, n, many, e, rest⟩ => ⟨_, _, _, e, rfl, ms, ties, n, many, rfl, rest⟩)
    refine WA.weak (wa_consP (P := fun d => ∃ ms ties, d = eW ms ties ∧ PartsOk ms ties ∧ (ms.length : Int) ≤ 3) (wp_callD (by walk_at "wa") fun H2 e2 => ⟨h, 3, rfl, hh.le e2, by omega, by omega, rfl⟩) (wa_consP (wp_plus (c := 6) (dr (Le.refl _) rfl (by omega))) (wa_consP (wp_plus (c := 50) (dr (Le.refl _) rfl (by omega))) wa_nil))) ?_
    rintro ds ⟨d1, r1, rfl, ⟨ms, ties, rfl, ok, h8⟩, d2, r2, rfl, ⟨n, rfl, n1, n2⟩, d3, r3, rfl, ⟨y, rfl, y1, y2⟩, rfl⟩
    exact ⟨ms, ties, n, y, rfl, ok, by omega, by omega, by omega, by omega, by omega⟩
  rintro δ' ⟨ms, ties, n, many, rfl, ok, h8, n1, n2, y0, y1⟩
  have few := ok.few
  have some1 := ok.some
  -- web and row
  refine wn_par (PA := fun ds H2 => ∃ a row, ds = [.obj (.ref a), .tup (row.map eK)] ∧ WebAt K C H2 a ms ties ∧ row.length = many.toNat ∧ InA ms.length row ∧ fb 0 (List.replicate ms.length (false, [])) (row.map eK) = .non) (fun B σ H e S => ?_) fun ds B2 f2 e2 ⟨H2, ⟨wa, row, e, x2, rl, hin, hfb⟩, eB⟩ => ⟨_, _, e, ?_⟩
  · have b := e.trans S.bh
    refine EA_weak (ep_cons (P := fun d H2 => ∃ a, d = .obj (.ref a) ∧ WebAt K C H2 a ms ties) (ed_call (K := K) (ds := [eW ms ties]) ((wa_cons (w_var rfl) wa_nil : WL K (noT H1) _ _ _) B σ H e S) fun H2 _ => ⟨ms, ties, rfl, ok, rfl⟩) (ep_cons (P := fun d _ => ∃ row : List Ask, d = .tup (row.map eK) ∧ row.length = many.toNat ∧ InA ms.length row ∧ fb 0 (List.replicate ms.length (false, [])) (row.map eK) = .non) (ed_call (K := K) (ds := [.obj (.ref h), eW ms ties, .int many]) ((wa_cons (w_var rfl) (wa_cons (w_var rfl) (wa_cons (w_var rfl) wa_nil)) : WL K (noT H1) _ _ _) B σ H e S) fun H2 e2 => ⟨h, ms, ties, many, rfl, hh.le (b.trans e2), some1, few, y0, by omega, rfl⟩) ea_nil)) ?_
    rintro ds H3 ⟨d1, r1, H4, rfl, e4, ⟨a, rfl, x⟩, d2, r2, _, rfl, e5, ⟨row, rfl, c1, c2, c3⟩, rfl⟩
    exact ⟨a, row, rfl, x.le e4, c1, c2, c3⟩
  subst e
  have x : WebAt K C B2 wa ms ties := by rw [eB]; exact web_noT x2
  clear x2 eB H2
  walk_at "n"
  have hb := hh.le e2
  have rl2 : row.length ≤ 200 := by omega
  have hrow : ∀ {H : Hp}, Rw H (.tup (row.map eK)) := fun {H} => .tup (by rw [List.length_map]; omega) (row_th row)
  have hrowL : ∀ {H : Hp}, Rw H (.lst (row.map eK)) := fun {H} => .lst (by rw [List.length_map]; omega) (row_th row)
  have hrB : rowB ms.length (.tup (row.map eK)) = true := by
    rw [rowB_is]
    show isNon (fb 0 _ _) = true
    rw [hfb]
    rfl
  have hrBL : rowB ms.length (.lst (row.map eK)) = true := by
    rw [rowB_is]
    show isNon (fb 0 _ _) = true
    rw [hfb]
    rfl
  obtain ⟨nn, rfl⟩ : ∃ nn : Nat, n = (nn : Int) := ⟨n.toNat, by omega⟩
  -- what is led by a keeper is alike
  have same : ∀ {kp : List Deed → Int → D}, Dp 5 (ledD (ledL ms ties (nn : Int) kp [] (List.replicate ms.length (false, [])) row)) := fun {kp} => led_Dp (by
    have := led_len (ms := ms) (ties := ties) (k := (nn : Int)) (kp := kp) row [] (List.replicate ms.length (false, []))
    simp only [List.length_nil] at this
    omega)
  have isT : ∀ {B : Hp} {δ : DS} {t1 t2 : TE} {d : D}, WE K B t1 δ d → WE K B t2 δ d → Dp 5 d → WB K B (tNot (tTest (tCall (spD K (R_is 5)) [] E0 (tCons t1 (tCons t2 tNil))))) δ false := fun h1 h2 hd => wb_eq (a := !true) (wb_not (wb_test (w_call (R := R_is 5) (d := .bl true) (wa_cons h1 (wa_cons h2 wa_nil)) fun H2 _ => ⟨rfl, .inl ⟨_, rfl, hd⟩⟩))) rfl
  have lled : ∀ {B : Hp} {δ : DS} {ti : TE} {g : Addr} {kp : List Deed → Int → D}, Keeper P w K mg base C ms ties (nn : Int) kp g B → (∀ p r, noObj (kp p r) = true) → WE K B ti δ (.obj (.ref g)) → δ[3]? = some (some (.d (eW ms ties))) → δ[4]? = some (some (.d (.int (nn : Int)))) → δ[7]? = some (some (.d (.tup (row.map eK)))) →
      WE K B (tCall (spD K (R_lled P w K mg base C)) [] E0 (tCons ti (tCons (tVar 3) (tCons (tVar 4) (tCons (tVar 7) tNil))))) δ (ledD (ledL ms ties (nn : Int) kp [] (List.replicate ms.length (false, [])) row)) := fun hk hno h0 h3 h4 h7 =>
    w_call (wa_cons h0 (wa_cons (w_var h3) (wa_cons (w_var h4) (wa_cons (w_var h7) wa_nil)))) fun H2 e2 => ⟨ms, ties, _, _, _, row, rfl, ok, h8, hk.le e2, hno, hin, rl2, rfl⟩
  have pled : ∀ {B : Hp} {δ : DS} {ti tr : TE} {E : XK} {g : Addr} {kp : List Deed → Int → D} , Le B2 B → Keeper P w K mg base C ms ties (nn : Int) kp g B → (∀ p r, noObj (kp p r) = true) → WE K B ti δ (.obj (.ref g)) → δ[6]? = some (some (.d (.obj (.ref wa)))) → δ[4]? = some (some (.d (.int (nn : Int)))) → WP K B tr δ (fun d => d = .tup (row.map eK) ∨ d = .lst (row.map eK)) →
      WE K B (tCall (spX K (R_led P w K mg base C CR)) [] E (tCons ti (tCons (tVar 6) (tCons (tVar 4) (tCons tr tNil))))) δ (ledD (ledL ms ties (nn : Int) kp [] (List.replicate ms.length (false, [])) row)) := fun {B δ ti tr E g kp} eB hk hno h0 h6 h4 hr =>
    wp_callX (PA := fun ds => ∃ d, ds = [.obj (.ref g), .obj (.ref wa), .int (nn : Int), d] ∧ (d = .tup (row.map eK) ∨ d = .lst (row.map eK))) (WA.weak (wa_consP h0 (wa_consP (w_var h6) (wa_consP (w_var h4) (wa_consP hr wa_nil)))) (by
      rintro ds ⟨d1, r1, rfl, p1, d2, r2, rfl, p2, d3, r3, rfl, p3, d4, r4, rfl, p4, rfl⟩
      subst p1 p2 p3
      exact ⟨d4, rfl, p4⟩)) fun ds H2 e2 ⟨d, e, hd⟩ => by
        subst e
        have hrw : Rw H2 d := by rcases hd with rfl | rfl <;> first | exact hrow | exact hrowL
        have hbb : rowB ms.length d = true := by rcases hd with rfl | rfl <;> first | exact hrB | exact hrBL
        exact ⟨wa, ms, ties, (nn : Int), g, d, rfl, x.le (eB.trans e2), ok, h8, n1, by omega, hrw, (fun hf => by rw [hbb] at hf; cases hf), fun _ => ⟨kp, row, hd, hk.le e2, hno, hin, rl2, rfl⟩⟩
  refine wn_cut (fun δ' => sub [none, some (.d (.obj (.ref h))), none, some (.d (eW ms ties)), some (.d (.int (nn : Int))), none, some (.d (.obj (.ref wa))), some (.d (.tup (row.map eK))), none, none, none, none, none, none] δ') ?_ ?_
  · -- keepers
    refine wn_forR (n := 3) (by walk_at "wa") (by omega) (fun _ δ' => sub [none, some (.d (.obj (.ref h))), none, some (.d (eW ms ties)), some (.d (.int (nn : Int))), none, some (.d (.obj (.ref wa))), some (.d (.tup (row.map eK))), none, none, none, none, none, none] δ') ⟨rfl, rfl, rfl, rfl, rfl, trivial⟩ (fun m2 δ' hm2 no hs => ?_) fun δ' hs => hs
    refine wn_sub (sub_set hs fun y => by intro z; cases z) rfl ?_
    clear hs no δ'
    -- a keeper
    refine wn_mk (cont := fun v => tSeq (tAsg (tC v) (gName 9)) _) (fun _ _ _ => rfl) (PA := fun ds => ∃ way seed : Int, ds = [.int way, .int seed, eW ms ties] ∧ 0 ≤ way ∧ way ≤ 10 ∧ 1 ≤ seed ∧ seed ≤ 100) (WA.weak (wa_consP (dr e2 rfl (by omega)) (wa_consP (wp_plus (c := 1) (dr e2 rfl (by omega))) (wa_consP (w_var rfl) wa_nil))) ?_) (fun ds ⟨_, _, e, _⟩ => by rw [e]; rfl) fun ds vs B3 g F ⟨way, seed, e, w0, w1, s1, s2⟩ f3 e3 rr eF clo lost => ?_
    · rintro ds ⟨d1, r1, rfl, ⟨way, rfl, w0, w1⟩, d2, r2, rfl, ⟨seed, rfl, s1, s2⟩, d3, r3, rfl, p3, rfl⟩
      exact ⟨way, seed, by rw [p3], w0, by omega, by omega, by omega⟩
    subst e
    have O := ok_tell (P := P) (w := w) (base := base) T.toHTxt G_law_state G_law_bars G_law_near (f := g) (q := qK) (cl := F.cl) (c := F.c)
    rw [← eF] at O
    have hk : Keeper P w K mg base C ms ties (nn : Int) (kpL way seed ms ties nn) g B3 := callee_kp (calleeM O clo rr (R0 := R_ask K C ms ties nn (kpL way seed ms ties nn)) fun H ds d _ _ ⟨a, past, r, e, _, h1, h2, h3, h4, h5⟩ => ⟨way, seed, ms, ties, nn, past, r, _, rfl, e, ok, h8, h1, h2, h3, h4, by omega, by omega, w0, w1, s1, s2, h5⟩) (by decide)
    refine wn_seq (wn_of (w_asgE (wv_ok w_obj (.inl rfl)) ⟨rfl, ?_⟩))
    walk_at "n"
    refine wnq_no (isT (pled e3 hk (kpL_no _ _ _ _ _) (w_var rfl) rfl rfl (WP.weak (wp_ixLp (ds := [.tup (row.map eK), .lst (row.map eK)]) (w_lst (wa_cons (w_var rfl) (wa_cons (WFD.we (wf_lstOfT (ds := row.map eK) (w_var rfl) (uni_K row))) wa_nil))) (dr (e2.trans e3) rfl (by omega))) fun d hd => by simpa using hd)) (lled hk (kpL_no _ _ _ _ _) (w_var rfl) rfl rfl rfl) same) ?_
    clear clo O hk lost eF rr
    -- a steady one
    refine wn_mk (cont := fun v => tSeq (tAsg (tC v) (gName 10)) _) (fun _ _ _ => rfl) (PA := fun ds => ∃ way seed : Int, ds = [.int way, .int seed, eW ms ties] ∧ 0 ≤ way ∧ way ≤ 6 ∧ 0 ≤ seed ∧ seed ≤ 200) (WA.weak (wa_consP (dr (e2.trans e3) rfl (by omega)) (wa_consP (dr (e2.trans e3) rfl (by omega)) (wa_consP (w_var rfl) wa_nil))) ?_) (fun ds ⟨_, _, e, _⟩ => by rw [e]; rfl) fun ds vs B4 g2 F2 ⟨way, seed, e, w0, w1, s1, s2⟩ f4 e4 rr eF clo lost => ?_
    · rintro ds ⟨d1, r1, rfl, ⟨way, rfl, w0, w1⟩, d2, r2, rfl, ⟨seed, rfl, s1, s2⟩, d3, r3, rfl, p3, rfl⟩
      exact ⟨way, seed, by rw [p3], w0, by omega, s1, by omega⟩
    subst e
    have O := ok_stell (P := P) (w := w) (base := base) T G_law_bars (f := g2) (q := qS) (cl := F2.cl) (c := F2.c)
    rw [← eF] at O
    have hsk : Steady P w K mg base ms nn (skL way seed ms ties nn) g2 B4 := (calleeM O clo rr (R0 := R_sk K ms nn (skL way seed ms ties nn)) fun H ds d _ _ ⟨web, st, r, e, h1, h2, h3, h4, h5⟩ => ⟨way, seed, ms, ties, nn, st, r, web, rfl, e, ok, h8, h1, h2, h3, h4, by omega, by omega, w0, w1, s1, s2, h5⟩).mono (by decide)
    have hno : ∀ p r, noObj (kpOf ms (skL way seed ms ties nn) p r) = true := fun p r => skL_no _ _ _ _ _ _ _
    clear clo O lost eF rr
    refine wn_seq (wn_of (w_asgE (wv_ok w_obj (.inl rfl)) ⟨rfl, ?_⟩))
    walk_at "n"
    -- by the law's own
    refine wn_mkL (cont := fun v => tSeq (tAsg (tCall (spD K (R_lled P w K mg base C)) [] E0 (tCons (tC v) (tCons (tVar 3) (tCons (tVar 4) (tCons (tVar 7) tNil))))) (gName 11)) _) (fun _ _ _ => rfl) (PA := fun ds => ds = [.obj (.ref g2), eW ms ties]) (wa_cons (w_var rfl) (wa_cons (w_var rfl) wa_nil)) (fun ds e => by rw [e]; rfl) fun ds vs B5 g3 F3 e f5 e5 rr eF clo lost => ?_
    subst e
    have O := ok_slam (P := P) (w := w) (mg := mg) (base := base) (C := C) (ms := ms) (ties := ties) (n := nn) (sk := skL way seed ms ties nn) G_law_state G_law_standing (f := g3) (q := qL) (cl := F3.cl) (c := F3.c)
    have hk : Keeper P w K mg base C ms ties (nn : Int) (kpOf ms (skL way seed ms ties nn)) g3 B5 := callee_kp (calleeL (R := R_slam P w K mg base C ms ties nn (skL way seed ms ties nn)) (by rw [eF]; exact O) clo rr (R0 := R_ask K C ms ties nn (kpOf ms (skL way seed ms ties nn))) fun H ds d e hc ⟨a, past, r, h0, h1, h2⟩ => ⟨g2, rfl, ok, h8, hsk.le (le_strip (e5.trans e) lost), a, past, r, h0, h1.strip hc, h2⟩) (by decide)
    refine wn_seq (wn_of (w_asgE (wv_ok (lled hk hno w_obj rfl rfl rfl) (.inl rfl)) ⟨rfl, ?_⟩))
    clear clo O lost eF rr hk
    walk_at "n"
    -- by steadily
    refine wn_mk (cont := fun v => tIfS (tNot (tTest (tCall (spD K (R_is 5)) [] E0 (tCons (tCall (spX K (R_led P w K mg base C CR)) [] _ (tCons (tC v) (tCons (tVar 6) (tCons (tVar 4) (tCons (tVar 7) tNil))))) (tCons (tVar 11) tNil))))) _ tNext) (fun _ _ _ => rfl) (PA := fun ds => ds = [.obj (.ref g2)]) (wa_cons (w_var rfl) wa_nil) (fun ds e => by rw [e]; rfl) fun ds vs B6 g4 F4 e f6 e6 rr eF clo lost => ?_
    subst e
    have O := ok_skeep (P := P) (w := w) (mg := mg) (base := base) (C := C) (ms := ms) (ties := ties) (n := nn) (sk := skL way seed ms ties nn) Gstanding_of (f := g4) (q := qB) (cl := F4.cl) (c := F4.c)
    have hk : Keeper P w K mg base C ms ties (nn : Int) (kpOf ms (skL way seed ms ties nn)) g4 B6 := callee_kp (calleeM (R := R_skeep P w K mg base C ms ties nn (skL way seed ms ties nn)) (by rw [eF]; exact O) clo rr (R0 := R_ask K C ms ties nn (kpOf ms (skL way seed ms ties nn))) fun H ds d e hc ⟨a, past, r, h0, h1, h2⟩ => ⟨g2, rfl, h8, (hsk.le e5).le (le_strip (e6.trans e) lost), a, past, r, h0, h1.strip hc, h2⟩) (by decide)
    exact wn_no (isT (pled (((e3.trans e4).trans e5).trans e6) hk hno w_obj rfl rfl ((w_var rfl).weak fun d e => .inl e)) (w_var rfl) same) ⟨rfl, rfl, rfl, rfl, rfl, trivial⟩
  intro δ' hs
  refine wn_sub hs rfl ?_
  clear hs δ'
  refine wn_cut (fun δ' => sub [none, some (.d (.obj (.ref h))), none, some (.d (eW ms ties)), some (.d (.int (nn : Int))), none, some (.d (.obj (.ref wa))), some (.d (.tup (row.map eK))), none, none, none, none, none, none] δ') ?_ ?_
  · -- rows bent
    refine wn_forR (n := 4) (by walk_at "wa") (by omega) (fun _ δ' => sub [none, some (.d (.obj (.ref h))), none, some (.d (eW ms ties)), some (.d (.int (nn : Int))), none, some (.d (.obj (.ref wa))), some (.d (.tup (row.map eK))), none, none, none, none, none, none] δ') ⟨rfl, rfl, rfl, rfl, rfl, trivial⟩ (fun m2 δ' hm2 no hs => ?_) fun δ' hs => hs
    refine wn_sub (sub_set hs fun y => by intro z; cases z) rfl ?_
    clear hs no δ'
    refine wn_asg (P := RwP) (fun B σ H e S => ed_call (K := K) (ds := [.obj (.ref h), eW ms ties, .tup (row.map eK)]) ((wa_cons (w_var rfl) (wa_cons (w_var rfl) (wa_cons (w_var rfl) wa_nil)) : WL K B2 _ _ _) B σ H e S) fun H2 e3 => ⟨h, ms, ties, row, rfl, hb.le ((e.trans S.bh).trans e3), some1, few, rl2, rfl⟩) fun th B3 f3 e3 ⟨H3, hp, eB⟩ => ?_
    have hth : Rw B3 th := by rw [eB]; exact rw_noT hp
    clear hp eB H3
    walk_at "n"
    refine wn_seq (wn_of (w_asgE (d := rowD ms.length th) (wv_ok (w_call (wa_cons (w_var rfl) (wa_cons (w_var rfl) wa_nil)) fun H2 e4 => ⟨ms, ties, th, rfl, some1, few, hth.le e4, rfl⟩) (.inl rfl)) ⟨rfl, ?_⟩))
    walk_at "n"
    have nsc := sca_no (rowD_sca (n := ms.length) (d := th))
    refine wnq_no (isT (d := .lst [.bl (rowB ms.length th)]) (w_lst (wa_cons (w_call (wa_cons (w_var rfl) (wa_cons (w_var rfl) wa_nil)) fun H2 e4 => ⟨wa, ms, ties, th, rfl, x.le (e3.trans e4), some1, few, hth.le e4, rfl⟩) wa_nil)) (w_lst (wa_cons (w_eq (w_isN (w_var rfl) nsc) (by rw [nonD_is, rowB_is])) wa_nil)) ⟨by show 1 ≤ 50000; decide, fun y hy => by rw [List.mem_singleton.mp hy]; exact trivial⟩) ?_
    refine wn_no (wb_eq (wb_and (a := !nonD (rowD ms.length th)) (b := false) (wb_test (w_notN (w_var rfl) nsc)) fun hne => isT (d := .tup [.str "row", rowD ms.length th]) (w_call (wa_cons w_obj (wa_cons (w_var rfl) (wa_cons (w_var rfl) (wa_cons (w_var rfl) wa_nil)))) fun H2 e4 => ⟨wa, ms, ties, (nn : Int), fr, th, rfl, x.le (e3.trans e4), ok, h8, n1, by omega, hth.le e4, ?_, rfl⟩) (w_tup (wa_cons w_str (wa_cons (w_var rfl) wa_nil))) ⟨by show 2 ≤ 50000; decide, fun y hy => ?_⟩) (Bool.and_false _)) ⟨rfl, rfl, rfl, rfl, rfl, trivial⟩
    · rw [rowB_is, ← nonD_is]
      simpa using hne
    · simp only [List.mem_cons, List.not_mem_nil, or_false] at hy
      rcases hy with rfl | rfl
      · exact trivial
      · exact sca_Dp rowD_sca
  intro δ' hs
  refine wn_sub hs rfl ?_
  refine wn_no (wb_eq (wb_or (a := false) (b := false) (wb_test (w_eq (w_isnB (w_call (wa_cons (w_var rfl) (wa_cons (w_var rfl) wa_nil)) fun H2 e4 => ⟨wa, ms, ties, _, rfl, x.le e4, some1, few, hrow, rfl⟩) w_bl) (by rw [hrB]; rfl))) fun _ => wb_not (wb_test (w_call (d := .bl true) (wa_cons (w_var rfl) wa_nil) fun H2 e4 => ⟨wa, ms, ties, rfl, x.le e4, some1, few, rfl⟩))) rfl) ⟨rfl, trivial⟩
end
end W1

set_option maxRecDepth 100000
set_option maxHeartbeats 4000000
namespace W1
open PySem PySem.Spec PyProof.Rows L2 RZ
abbrev s_NoRow___init__ : Stmt := inClass (topS 5) 0
abbrev N_NoRow___init__ : List Str := ["self", "index"]
theorem sc_NoRow___init__ : FnScope N_NoRow___init__ ["self", "index"] (defScope s_NoRow___init__) := ⟨rfl, rfl, rfl, by decide +kernel, rfl, by decide +kernel, by decide +kernel⟩
section
variable {P : Program} {w : World} {K : PySem.W.Frag} {mg : Str → Option Value} {base : Heap}
theorem ok_NoRow {f : Addr} {fd : FuncData} (F : Fun K "__init__" "NoRow.__init__" s_NoRow___init__ f fd) : FnOk P w K mg base CX0 1 f fd ["self", "index"] (spFld K "index") := by
  refine F.ok sc_NoRow___init__ (fun vs H Q E h => ?_) (fun cdv A outer s H vs Q E hr h => ?_)
  · obtain ⟨a, C, v, rfl, _⟩ := h
    rfl
  obtain ⟨a, C, v, rfl, ha, T, hno, k⟩ := h
  refine ⟨_, pss_one (ps_ost (pv 0) (pv 1)), ?_⟩
  exact ⟨_, rfl, _, rfl, a, C, rfl, T, hno, .inl ⟨ha, fun dx hdx hne => k dx hdx hne⟩⟩
end
abbrev s__law_keeper : Stmt := topS 56
abbrev N__law_keeper : List Str := ["_law_way", "_law_seed", "_law_parts_here", "_law_tell"]
theorem sc__law_keeper : FnScope N__law_keeper ["_law_way", "_law_seed", "_law_parts_here"] (defScope s__law_keeper) := ⟨rfl, rfl, rfl, by decide +kernel, rfl, by decide +kernel, by decide +kernel⟩
abbrev s__law_steady : Stmt := topS 60
abbrev N__law_steady : List Str := ["_law_way", "_law_seed", "_law_parts_here", "_law_tell"]
theorem sc__law_steady : FnScope N__law_steady ["_law_way", "_law_seed", "_law_parts_here"] (defScope s__law_steady) := ⟨rfl, rfl, rfl, by decide +kernel, rfl, by decide +kernel, by decide +kernel⟩
abbrev s_steadily : Stmt := topS 38
abbrev N_steadily : List Str := ["steady", "keeper"]
theorem sc_steadily : FnScope N_steadily ["steady"] (defScope s_steadily) := ⟨rfl, rfl, rfl, by decide +kernel, rfl, by decide +kernel, by decide +kernel⟩
abbrev s__law_by_steady : Stmt := topS 61
abbrev N__law_by_steady : List Str := ["_law_steady_here", "_law_parts_here"]
theorem sc__law_by_steady : FnScope N__law_by_steady ["_law_steady_here", "_law_parts_here"] (defScope s__law_by_steady) := ⟨rfl, rfl, rfl, by decide +kernel, rfl, by decide +kernel, by decide +kernel⟩
open NdefX LamX
theorem mk__law_keeper {P : Program} {w : World} {K : PySem.W.Frag} {mg : Str → Option Value} {base : Heap} {f c PT : Addr} {kV doc pm ct oc : Value} {an od : Option Addr} {osl : Array (Option Value)} {T : List NTab}
    (lk : K.lookup f = some ⟨oc, od, .func (PySem.W.fnOf "_law_keeper" "_law_keeper" (defArgs s__law_keeper) (defBody s__law_keeper) (defScope s__law_keeper) .none kV doc pm an (.ref c) ct), osl⟩) (hcd : PySem.W.codeIn K (.ref c) "_law_keeper" = true) (TB : TabB base mg c PT) (hm : (PT, fun _ _ => ((("_law_keeper" : Str) ++ ".<locals>.") ++ "_law_tell")) ∈ T) (hu : ∀ p ∈ T, p.1 = PT → p.2 = fun _ _ => ((("_law_keeper" : Str) ++ ".<locals>.") ++ "_law_tell")) :
    FnOk P w K mg base CX0 1 f (PySem.W.fnOf "_law_keeper" "_law_keeper" (defArgs s__law_keeper) (defBody s__law_keeper) (defScope s__law_keeper) .none kV doc pm an (.ref c) ct) ["_law_way", "_law_seed", "_law_parts_here"] (spMk T 3 s__law_keeper__law_tell "_law_tell" ((("_law_keeper" : Str) ++ ".<locals>.") ++ "_law_tell") F__law_keeper__law_tell (fun vs => vs)) := by
  obtain ⟨p2, pos2, hb⟩ : ∃ p2 pos2, defBody s__law_keeper = [s__law_keeper__law_tell, .Return (some (.Name "_law_tell" p2)) pos2] := ⟨_, _, rfl⟩
  obtain ⟨pos, hst⟩ : ∃ pos, s__law_keeper__law_tell = .FunctionDef "_law_tell" (C8.fnArgs s__law_keeper__law_tell) (C8.fnBody s__law_keeper__law_tell) [] none [] (C8.fnScope s__law_keeper__law_tell) none "_law_tell" pos := ⟨_, rfl⟩
  rw [hb] at lk ⊢
  exact mk_ok (k := 0) (i := 3) (js := [0, 1, 2]) (W := fun vs => vs) lk hcd sc__law_keeper hst TB hm (fun _ => rfl) hu (by decide +kernel) (by decide +kernel) rfl rfl (fun _ => rfl) sc__law_keeper.nd rfl rfl (by decide) (by decide) (by decide) rfl (fun vs g hv => by
    match vs, hv with
    | [x0, x1, x2], _ => rfl) (fun vs hv => by
    match vs, hv with
    | [x0, x1, x2], _ => rfl)

theorem mk__law_steady {P : Program} {w : World} {K : PySem.W.Frag} {mg : Str → Option Value} {base : Heap} {f c PT : Addr} {kV doc pm ct oc : Value} {an od : Option Addr} {osl : Array (Option Value)} {T : List NTab}
    (lk : K.lookup f = some ⟨oc, od, .func (PySem.W.fnOf "_law_steady" "_law_steady" (defArgs s__law_steady) (defBody s__law_steady) (defScope s__law_steady) .none kV doc pm an (.ref c) ct), osl⟩) (hcd : PySem.W.codeIn K (.ref c) "_law_steady" = true) (TB : TabB base mg c PT) (hm : (PT, fun _ _ => ((("_law_steady" : Str) ++ ".<locals>.") ++ "_law_tell")) ∈ T) (hu : ∀ p ∈ T, p.1 = PT → p.2 = fun _ _ => ((("_law_steady" : Str) ++ ".<locals>.") ++ "_law_tell")) :
    FnOk P w K mg base CX0 1 f (PySem.W.fnOf "_law_steady" "_law_steady" (defArgs s__law_steady) (defBody s__law_steady) (defScope s__law_steady) .none kV doc pm an (.ref c) ct) ["_law_way", "_law_seed", "_law_parts_here"] (spMk T 3 s__law_steady__law_tell "_law_tell" ((("_law_steady" : Str) ++ ".<locals>.") ++ "_law_tell") F__law_steady__law_tell (fun vs => vs)) := by
  obtain ⟨p2, pos2, hb⟩ : ∃ p2 pos2, defBody s__law_steady = [s__law_steady__law_tell, .Return (some (.Name "_law_tell" p2)) pos2] := ⟨_, _, rfl⟩
  obtain ⟨pos, hst⟩ : ∃ pos, s__law_steady__law_tell = .FunctionDef "_law_tell" (C8.fnArgs s__law_steady__law_tell) (C8.fnBody s__law_steady__law_tell) [] none [] (C8.fnScope s__law_steady__law_tell) none "_law_tell" pos := ⟨_, rfl⟩
  rw [hb] at lk ⊢
  exact mk_ok (k := 0) (i := 3) (js := [0, 1, 2]) (W := fun vs => vs) lk hcd sc__law_steady hst TB hm (fun _ => rfl) hu (by decide +kernel) (by decide +kernel) rfl rfl (fun _ => rfl) sc__law_steady.nd rfl rfl (by decide) (by decide) (by decide) rfl (fun vs g hv => by
    match vs, hv with
    | [x0, x1, x2], _ => rfl) (fun vs hv => by
    match vs, hv with
    | [x0, x1, x2], _ => rfl)

theorem mk_steadily {P : Program} {w : World} {K : PySem.W.Frag} {mg : Str → Option Value} {base : Heap} {f c PT : Addr} {kV doc pm ct oc : Value} {an od : Option Addr} {osl : Array (Option Value)} {T : List NTab}
    (lk : K.lookup f = some ⟨oc, od, .func (PySem.W.fnOf "steadily" "steadily" (defArgs s_steadily) (defBody s_steadily) (defScope s_steadily) .none kV doc pm an (.ref c) ct), osl⟩) (hcd : PySem.W.codeIn K (.ref c) "steadily" = true) (TB : TabB base mg c PT) (hm : (PT, fun _ _ => ((("steadily" : Str) ++ ".<locals>.") ++ "keeper")) ∈ T) (hu : ∀ p ∈ T, p.1 = PT → p.2 = fun _ _ => ((("steadily" : Str) ++ ".<locals>.") ++ "keeper")) :
    FnOk P w K mg base CX0 1 f (PySem.W.fnOf "steadily" "steadily" (defArgs s_steadily) (defBody s_steadily) (defScope s_steadily) .none kV doc pm an (.ref c) ct) ["steady"] (spMk T 1 s_steadily_keeper "keeper" ((("steadily" : Str) ++ ".<locals>.") ++ "keeper") F_steadily_keeper (fun vs => vs)) := by
  obtain ⟨p2, pos2, hb⟩ : ∃ p2 pos2, defBody s_steadily = [s_steadily_keeper, .Return (some (.Name "keeper" p2)) pos2] := ⟨_, _, rfl⟩
  obtain ⟨pos, hst⟩ : ∃ pos, s_steadily_keeper = .FunctionDef "keeper" (C8.fnArgs s_steadily_keeper) (C8.fnBody s_steadily_keeper) [] none [] (C8.fnScope s_steadily_keeper) none "keeper" pos := ⟨_, rfl⟩
  rw [hb] at lk ⊢
  exact mk_ok (k := 0) (i := 1) (js := [0]) (W := fun vs => vs) lk hcd sc_steadily hst TB hm (fun _ => rfl) hu (by decide +kernel) (by decide +kernel) rfl rfl (fun _ => rfl) sc_steadily.nd rfl rfl (by decide) (by decide) (by decide) rfl (fun vs g hv => by
    match vs, hv with
    | [x0], _ => rfl) (fun vs hv => by
    match vs, hv with
    | [x0], _ => rfl)

theorem mk__law_by_steady {P : Program} {w : World} {K : PySem.W.Frag} {mg : Str → Option Value} {base : Heap} {f c PT : Addr} {kV doc pm ct oc : Value} {an od : Option Addr} {osl : Array (Option Value)} {T : List NTab}
    (lk : K.lookup f = some ⟨oc, od, .func (PySem.W.fnOf "_law_by_steady" "_law_by_steady" (defArgs s__law_by_steady) (defBody s__law_by_steady) (defScope s__law_by_steady) .none kV doc pm an (.ref c) ct), osl⟩) (hcd : PySem.W.codeIn K (.ref c) "_law_by_steady" = true) (TB : TabB base mg c PT) (hm : (PT, fun _ _ => ((("_law_by_steady" : Str) ++ ".<locals>.") ++ "<lambda>")) ∈ T) (hu : ∀ p ∈ T, p.1 = PT → p.2 = fun _ _ => ((("_law_by_steady" : Str) ++ ".<locals>.") ++ "<lambda>")) :
    FnOk P w K mg base CX0 1 f (PySem.W.fnOf "_law_by_steady" "_law_by_steady" (defArgs s__law_by_steady) (defBody s__law_by_steady) (defScope s__law_by_steady) .none kV doc pm an (.ref c) ct) ["_law_steady_here", "_law_parts_here"] (spMkL T 2 (lamArgs e__law_by_steady_lambda) (lamBody e__law_by_steady_lambda) (lamScope e__law_by_steady_lambda) ((("_law_by_steady" : Str) ++ ".<locals>.") ++ "<lambda>") F__law_by_steady_lambda (fun vs => vs)) := by
  obtain ⟨lpos, pos2, hb⟩ : ∃ lpos pos2, defBody s__law_by_steady = [.Return (some (.Lambda (lamArgs e__law_by_steady_lambda) (lamBody e__law_by_steady_lambda) (lamScope e__law_by_steady_lambda) lpos)) pos2] := ⟨_, _, rfl⟩
  rw [hb] at lk ⊢
  exact mk_okL (k := 0) (js := [0, 1]) (W := fun vs => vs) lk hcd sc__law_by_steady TB hm (fun _ => rfl) hu (by decide +kernel) (by decide +kernel) (fun _ => rfl) (by decide) rfl (fun vs hv => by
    match vs, hv with
    | [x0, x1], _ => rfl) (fun vs hv => by
    match vs, hv with
    | [x0, x1], _ => rfl)
end W1

set_option maxRecDepth 100000
set_option maxHeartbeats 4000000
namespace W1
open PySem PySem.Spec PyProof.Rows L2 NdefX LamX
/-- what of the text a def must have -/
def Fact (K : PySem.W.Frag) (x : Str) (st : Stmt) : Prop := ∃ (f : Addr) (od an : Option Addr) (sl : Array (Option Value)) (oc kV dc pm cd ct : Value), PySem.W.nsIn K mainGlobals x = some (some (.ref f)) ∧
  K.lookup f = some ⟨oc, od, .func (PySem.W.fnOf x x (defArgs st) (defBody st) (defScope st) .none kV dc pm an cd ct), sl⟩ ∧ PySem.W.codeIn K cd x = true ∧ PySem.W.keepIn K (.ref f) = true
theorem fact_mk {K : PySem.W.Frag} {x : Str} {st : Stmt} {f : Addr} {od an : Option Addr} {sl : Array (Option Value)} {oc kV dc pm cd ct : Value} (a : PySem.W.nsIn K mainGlobals x = some (some (.ref f)))
    (l : K.lookup f = some ⟨oc, od, .func (PySem.W.fnOf x x (defArgs st) (defBody st) (defScope st) .none kV dc pm an cd ct), sl⟩) (c : PySem.W.codeIn K cd x = true) (k : PySem.W.keepIn K (.ref f) = true) : Fact K x st := ⟨f, od, an, sl, oc, kV, dc, pm, cd, ct, a, l, c, k⟩
theorem Fact.g {K : PySem.W.Frag} {h : Heap} {mg : Str → Option Value} {x : Str} {st : Stmt} {ps : List Str} (F : Fact K x st) (X : K.In h) (G : h.Ns mainGlobals mg)
    (hb : ∀ (kV doc pm : Value) (an : Option Addr) (cdv ct : Value) (us : List Value), us.length = ps.length → bindArgs (PySem.W.fnOf x x (defArgs st) (defBody st) (defScope st) .none kV doc pm an cdv ct) ⟨us, []⟩ = pure (ps.zip us)) : GDef K mg x st ps := by
  obtain ⟨f, od, an, sl, oc, kV, dc, pm, cd, ct, a, l, c, k⟩ := F
  have F := fun_mk (st := st) l c k
  exact ⟨f, _, PySem.W.mg_of X G a, F, F.binds hb⟩
def WebFact (K : PySem.W.Frag) : Prop := ∃ (C f : Addr) (od an : Option Addr) (sl : Array (Option Value)) (oc kV dc pm cd ct : Value), PySem.W.nsIn K mainGlobals "Web" = some (some (.ref C)) ∧ PySem.W.findIn K (.ref C) "__init__" = some (some (.ref f)) ∧ PySem.W.isFn K (.ref f) = true ∧
  K.lookup f = some ⟨oc, od, .func (PySem.W.fnOf "__init__" "Web.__init__" (defArgs s_Web___init__) (defBody s_Web___init__) (defScope s_Web___init__) .none kV dc pm an cd ct), sl⟩ ∧ PySem.W.codeIn K cd "Web.__init__" = true ∧ PySem.W.keepIn K (.ref f) = true ∧
  PySem.W.plainGet K C Str.empty = true ∧ PySem.W.hasDictIn K C = true ∧ PySem.W.plainOver K C = true ∧ PySem.W.findIn K (.ref C) "__setattr__" = some (some (.builtin "object.__setattr__")) ∧ PySem.W.makesIn K C = true ∧ PySem.W.keepIn K (.ref C) = true ∧
  PySem.W.findIn K (.ref C) "memories" = some none ∧ PySem.W.findIn K (.ref C) "ties" = some none ∧ PySem.W.findIn K (.ref C) "near" = some none
theorem web_mk {K : PySem.W.Frag} {C f : Addr} {od an : Option Addr} {sl : Array (Option Value)} {oc kV dc pm cd ct : Value} (aC : PySem.W.nsIn K mainGlobals "Web" = some (some (.ref C))) (ai : PySem.W.findIn K (.ref C) "__init__" = some (some (.ref f))) (ii : PySem.W.isFn K (.ref f) = true)
    (li : K.lookup f = some ⟨oc, od, .func (PySem.W.fnOf "__init__" "Web.__init__" (defArgs s_Web___init__) (defBody s_Web___init__) (defScope s_Web___init__) .none kV dc pm an cd ct), sl⟩) (ci : PySem.W.codeIn K cd "Web.__init__" = true) (ki : PySem.W.keepIn K (.ref f) = true)
    (pg : PySem.W.plainGet K C Str.empty = true) (hd : PySem.W.hasDictIn K C = true) (po : PySem.W.plainOver K C = true) (sa : PySem.W.findIn K (.ref C) "__setattr__" = some (some (.builtin "object.__setattr__"))) (mk : PySem.W.makesIn K C = true) (kc : PySem.W.keepIn K (.ref C) = true)
    (nM : PySem.W.findIn K (.ref C) "memories" = some none) (nT : PySem.W.findIn K (.ref C) "ties" = some none) (nN : PySem.W.findIn K (.ref C) "near" = some none) : WebFact K := ⟨C, f, od, an, sl, oc, kV, dc, pm, cd, ct, aC, ai, ii, li, ci, ki, pg, hd, po, sa, mk, kc, nM, nT, nN⟩
def NumFact (K : PySem.W.Frag) (x : Str) (n : Int) : Prop := ∃ u, PySem.W.nsIn K mainGlobals x = some (some u) ∧ RelV (.int n) u
theorem num_mk {K : PySem.W.Frag} {x : Str} {n : Int} {u : Value} (a : PySem.W.nsIn K mainGlobals x = some (some u)) (r : RelV (.int n) u) : NumFact K x n := ⟨u, a, r⟩
theorem NumFact.g {K : PySem.W.Frag} {h : Heap} {mg : Str → Option Value} {x : Str} {n : Int} (F : NumFact K x n) (X : K.In h) (G : h.Ns mainGlobals mg) : ∃ u, mg x = some u ∧ RelV (.int n) u := by
  obtain ⟨u, a, r⟩ := F
  exact ⟨u, PySem.W.mg_of X G a, r⟩
/-- what the written part says of an error class, told by one test -/
def clsB (K : PySem.W.Frag) (C D : Addr) : Bool :=
  decide (PySem.W.findIn K (.ref C) "__setattr__" = some (some (.builtin "object.__setattr__"))) && (decide (PySem.W.subIn K (.ref C) (.type "BaseException") = some true) && (decide (PySem.W.typeIn K (.ref C) = some (.type "type")) && (PySem.W.keepIn K (.ref C) &&
  (decide (PySem.W.findIn K (.ref C) "__getattribute__" = some (some (.builtin "BaseException.__getattribute__"))) && (decide (PySem.W.findIn K (.ref C) "__getattr__" = some none) && (PySem.W.hasDictIn K C && (decide (PySem.W.findIn K (.ref C) "__class__" = some (some (.builtin "object.__class__"))) &&
  (decide (PySem.W.specialIn K (.builtin "object.__class__") "__get__" = some (some (.builtin "getset_descriptor.__get__"))) && (decide (PySem.W.takesIn K (.builtin "object.__class__") = some true) && (decide (PySem.W.mroIn K C (.type "object") = some true) && (decide (PySem.W.mroIn K C (.ref D) = some true) &&
  (decide (PySem.W.ks_superIn K C D "__init__" = some (some (.builtin "ValueError.__init__"))) && (decide (PySem.W.subIn K (.ref C) (.type "ValueError") = some true) && decide (PySem.W.kitOne K (.ref C) (.type "ValueError") = some true))))))))))))))
structure CF (K : PySem.W.Frag) (x : Str) (C D : Addr) : Prop where
  a : PySem.W.nsIn K mainGlobals x = some (some (.ref C))
  ox : OexC K C
  xf : XfC K C
  ec : ExcC K C
  sc : PySem.W.mroIn K C (.ref D) = some true ∧ PySem.W.ks_superIn K C D "__init__" = some (some (.builtin "ValueError.__init__")) ∧ PySem.W.subIn K (.ref C) (.type "ValueError") = some true
  ve : PySem.W.kitOne K (.ref C) (.type "ValueError") = some true
theorem cf_mk {K : PySem.W.Frag} {x : Str} {C D : Addr} {nm q : Str} {N : Addr} {bs bm : List Value} {sn : List Str} {sub : List Value} {ab : Bool} {col : Option Bool} {dd : Option Addr} {k0 k1 k2 k3 k5 : Option Value} (a : PySem.W.nsIn K mainGlobals x = some (some (.ref C)))
    (lk : K.lookup C = some (excClassObj nm q C N bs bm true sn sub ab col dd k0 k1 k2 k3 k5 "ValueError.__new__")) (hb : PySem.HandSPX.refsVE bm = true) (b : clsB K C D = true) : CF K x C D := by
  unfold clsB at b
  simp only [Bool.and_eq_true, decide_eq_true_eq] at b
  obtain ⟨b1, b2, b3, b4, b5, b6, b7, b8, b9, b10, b11, b12, b13, b14, b15⟩ := b
  exact ⟨a, ⟨⟨nm, q, N, bs, bm, sn, sub, ab, col, dd, k0, k1, k2, k3, k5, lk, hb⟩, b1, b2, b3, b4⟩, ⟨b5, b6, b2, b7⟩, ⟨b5, b6, b2, b7, b8, b9, b10, b11⟩, ⟨b12, b13, b14⟩, b15⟩
structure FF (K : PySem.W.Frag) (x q f : Str) (st : Stmt) (C D : Addr) : Prop where
  c : CF K x C D
  no : PySem.W.findIn K (.ref C) f = some none
  ex : ∃ fi fd, PySem.W.findIn K (.ref C) "__init__" = some (some (.ref fi)) ∧ PySem.W.typeIn K (.ref fi) = some (.type "function") ∧ Fun K "__init__" q st fi fd
theorem ff_mk {K : PySem.W.Frag} {x q f : Str} {st : Stmt} {C D fi : Addr} {od an : Option Addr} {sl : Array (Option Value)} {oc kV dc pm cd ct : Value} (c : CF K x C D) (no : PySem.W.findIn K (.ref C) f = some none) (i : PySem.W.findIn K (.ref C) "__init__" = some (some (.ref fi))) (t : PySem.W.typeIn K (.ref fi) = some (.type "function"))
    (l : K.lookup fi = some ⟨oc, od, .func (PySem.W.fnOf "__init__" q (defArgs st) (defBody st) (defScope st) .none kV dc pm an cd ct), sl⟩) (k1 : PySem.W.codeIn K cd q = true) (k2 : PySem.W.keepIn K (.ref fi) = true) : FF K x q f st C D := ⟨c, no, fi, _, i, t, fun_mk l k1 k2⟩
/-- a def whose code and table are told -/
structure FactC (K : PySem.W.Frag) (x : Str) (st : Stmt) (cc Pt : Addr) : Prop where
  ex : ∃ (f : Addr) (od an : Option Addr) (sl : Array (Option Value)) (oc kV dc pm ct : Value), PySem.W.nsIn K mainGlobals x = some (some (.ref f)) ∧ K.lookup f = some ⟨oc, od, .func (PySem.W.fnOf x x (defArgs st) (defBody st) (defScope st) .none kV dc pm an (.ref cc) ct), sl⟩ ∧ PySem.W.codeIn K (.ref cc) x = true ∧ PySem.W.keepIn K (.ref f) = true
  tab : ∃ (e : Value) (dd : Option Addr) (vs : Array Value) (sl : Array (Option Value)), K.lookup cc = some ⟨e, dd, .fields vs, sl⟩ ∧ vs[11]? = some (.ref Pt)
  hd : PySem.W.codeHdIn K cc Pt = true
  out : K.lookup Pt = none
theorem factC_mk {K : PySem.W.Frag} {x : Str} {st : Stmt} {f cc Pt : Addr} {od an dd : Option Addr} {sl sl2 : Array (Option Value)} {oc kV dc pm ct e : Value} {vs : Array Value} (a : PySem.W.nsIn K mainGlobals x = some (some (.ref f)))
    (lf : K.lookup f = some ⟨oc, od, .func (PySem.W.fnOf x x (defArgs st) (defBody st) (defScope st) .none kV dc pm an (.ref cc) ct), sl⟩) (c : PySem.W.codeIn K (.ref cc) x = true) (k : PySem.W.keepIn K (.ref f) = true) (lc : K.lookup cc = some ⟨e, dd, .fields vs, sl2⟩) (v : vs[11]? = some (.ref Pt)) (hd : PySem.W.codeHdIn K cc Pt = true) (out : K.lookup Pt = none) : FactC K x st cc Pt :=
  ⟨⟨f, od, an, sl, oc, kV, dc, pm, ct, a, lf, c, k⟩, ⟨e, dd, vs, sl2, lc, v⟩, hd, out⟩

theorem all_ok {l : PySem.W.OpenLaw} {w : World} {K : PySem.W.Frag} {h : Heap} {mg : Str → Option Value} {fa : Addr} {C_TagError CR c0 P0 c1 P1 c2 P2 c3 P3 : Addr} (X : K.In h) (G : h.Ns mainGlobals mg) (hfa : mg "law" = some (.ref fa))
    (z_len : PySem.W.nsIn K mainGlobals "len" = some none)
    (z_abs : PySem.W.nsIn K mainGlobals "abs" = some none)
    (z_int : PySem.W.nsIn K mainGlobals "int" = some none)
    (z_range : PySem.W.nsIn K mainGlobals "range" = some none)
    (z_tuple : PySem.W.nsIn K mainGlobals "tuple" = some none)
    (z_list : PySem.W.nsIn K mainGlobals "list" = some none)
    (z_sorted : PySem.W.nsIn K mainGlobals "sorted" = some none)
    (z_set : PySem.W.nsIn K mainGlobals "set" = some none)
    (z_enumerate : PySem.W.nsIn K mainGlobals "enumerate" = some none)
    (z_isinstance : PySem.W.nsIn K mainGlobals "isinstance" = some none)
    (z_all : PySem.W.nsIn K mainGlobals "all" = some none)
    (z_max : PySem.W.nsIn K mainGlobals "max" = some none)
    (z_min : PySem.W.nsIn K mainGlobals "min" = some none)
    (z_bool : PySem.W.nsIn K mainGlobals "bool" = some none)
    (z_zip : PySem.W.nsIn K mainGlobals "zip" = some none)
    (z_str : PySem.W.nsIn K mainGlobals "str" = some none)
    (z_sum : PySem.W.nsIn K mainGlobals "sum" = some none)
    (z_ValueError : PySem.W.nsIn K mainGlobals "ValueError" = some none)
    (z_KeyError : PySem.W.nsIn K mainGlobals "KeyError" = some none)
    (v_r : NumFact K "MOST_ROOMS" 60) (v_m : NumFact K "MOST_MEMORY" 30) (v_t : NumFact K "MOST_TAGS" 200) (wf : WebFact K)
    (aT : PySem.W.nsIn K mainGlobals "TagError" = some (some (.ref C_TagError)))
    (c_NoRow : FF K "NoRow" "NoRow.__init__" "index" s_NoRow___init__ CR C_TagError) (x_NoRow : PySem.W.exmOne K (.ref CR) (.ref CR) = some true) (s_NoRow : PySem.W.kitOne K (.ref CR) (.ref C_TagError) = some true)
    (h__law_keeper : FactC K "_law_keeper" s__law_keeper c0 P0) (own0 : ∀ ga, mg "_law_keeper" = some (.ref ga) → OwnTab K ga h)
    (h__law_steady : FactC K "_law_steady" s__law_steady c1 P1) (own1 : ∀ ga, mg "_law_steady" = some (.ref ga) → OwnTab K ga h)
    (h_steadily : FactC K "steadily" s_steadily c2 P2) (own2 : ∀ ga, mg "steadily" = some (.ref ga) → OwnTab K ga h)
    (h__law_by_steady : FactC K "_law_by_steady" s__law_by_steady c3 P3) (own3 : ∀ ga, mg "_law_by_steady" = some (.ref ga) → OwnTab K ga h)
    (apart : [P0, P1, P2, P3].Nodup)
    (h_is_integer : Fact K "is_integer" s_is_integer)
    (h_is_between : Fact K "is_between" s_is_between)
    (h_check_tags : Fact K "check_tags" s_check_tags)
    (h_check_memories : Fact K "check_memories" s_check_memories)
    (h_check_ties : Fact K "check_ties" s_check_ties)
    (h_is_tie : Fact K "is_tie" s_is_tie)
    (h_near_lots : Fact K "near_lots" s_near_lots)
    (h_is_room : Fact K "is_room" s_is_room)
    (h_check_room : Fact K "check_room" s_check_room)
    (h_tied : Fact K "tied" s_tied)
    (h_begun : Fact K "begun" s_begun)
    (h_is_ask : Fact K "is_ask" s_is_ask)
    (h_with_deed : Fact K "with_deed" s_with_deed)
    (h_kept_tags : Fact K "kept_tags" s_kept_tags)
    (h_standing_of : Fact K "standing_of" s_standing_of)
    (h_newest : Fact K "newest" s_newest)
    (h_barred : Fact K "barred" s_barred)
    (h_gives_barred : Fact K "gives_barred" s_gives_barred)
    (h_is_row : Fact K "is_row" s_is_row)
    (h_check_row : Fact K "check_row" s_check_row)
    (h_first_no_ask : Fact K "first_no_ask" s_first_no_ask)
    (h_led : Fact K "led" s_led)
    (h_led_on : Fact K "led_on" s_led_on)
    (h_deed_of : Fact K "deed_of" s_deed_of)
    (h__law_hand : Fact K "_law_hand" s__law_hand)
    (h__law_draw : Fact K "_law_draw" s__law_draw)
    (h__law_any : Fact K "_law_any" s__law_any)
    (h__law_is : Fact K "_law_is" s__law_is)
    (h__law_nested : Fact K "_law_nested" s__law_nested)
    (h__law_pairs : Fact K "_law_pairs" s__law_pairs)
    (h__law_parts : Fact K "_law_parts" s__law_parts)
    (h__law_made : Fact K "_law_made" s__law_made)
    (h__law_near : Fact K "_law_near" s__law_near)
    (h__law_start : Fact K "_law_start" s__law_start)
    (h__law_done : Fact K "_law_done" s__law_done)
    (h__law_state : Fact K "_law_state" s__law_state)
    (h__law_standing : Fact K "_law_standing" s__law_standing)
    (h__law_bars : Fact K "_law_bars" s__law_bars)
    (h__law_asks : Fact K "_law_asks" s__law_asks)
    (h__law_row : Fact K "_law_row" s__law_row)
    (h__law_word : Fact K "_law_word" s__law_word)
    (h__law_led : Fact K "_law_led" s__law_led)
    (h__law_int : Fact K "_law_int" s__law_int)
    (h__law_first_none : Fact K "_law_first_none" s__law_first_none)
    (h__law_bent_row : Fact K "_law_bent_row" s__law_bent_row)
    (h__law_led_word : Fact K "_law_led_word" s__law_led_word)
    (h__law_raising : Fact K "_law_raising" s__law_raising)
    (h__law_goes_on : Fact K "_law_goes_on" s__law_goes_on)
    (h__law_is_ask : Fact K "_law_is_ask" s__law_is_ask)
    (h__law_deep_parts : Fact K "_law_deep_parts" s__law_deep_parts)
    (h_law : Fact K "law" s_law) :
    LawAtS l w K CX0 16 63 "_law_script" mg fa h := by
  have TA : ATxt mg := ⟨⟨⟨⟨PySem.W.mg_none_of X G z_len, PySem.W.mg_none_of X G z_abs, PySem.W.mg_none_of X G z_int, PySem.W.mg_none_of X G z_range, PySem.W.mg_none_of X G z_tuple, PySem.W.mg_none_of X G z_list, PySem.W.mg_none_of X G z_sorted, PySem.W.mg_none_of X G z_set, PySem.W.mg_none_of X G z_enumerate, PySem.W.mg_none_of X G z_isinstance, PySem.W.mg_none_of X G z_all, PySem.W.mg_none_of X G z_max, PySem.W.mg_none_of X G z_min, PySem.W.mg_none_of X G z_bool⟩, v_r.g X G, v_m.g X G⟩, PySem.W.mg_none_of X G z_zip, PySem.W.mg_none_of X G z_str, PySem.W.mg_none_of X G z_ValueError, v_t.g X G⟩, PySem.W.mg_none_of X G z_sum⟩
  have T := TA.toHTxt
  have TS : STxt mg := ⟨T.toTxt, T.n_zip⟩
  obtain ⟨C, fi, odi, ani, sli, oci, kVi, dci, pmi, cdi, cti, aC, ai, ii, li, ci, ki, pg, hd, po, sa, mk, kc, nM, nT, nN⟩ := wf
  have W : WTxt K C := ⟨⟨pg, hd, po, sa⟩, nM, nT, nN⟩
  have FI := fun_mk (st := s_Web___init__) li ci ki
  have bI : Binds K _ ["self", "memories", "ties"] [] := FI.binds fun _ _ _ _ _ _ us hl => match us, hl with | [_, _, _], _ => rfl
  have g_is_integer := h_is_integer.g (ps := ["thing"]) X G fun _ _ _ _ _ _ us hl => match us, hl with | [_], _ => rfl
  have g_is_between := h_is_between.g (ps := ["least", "most", "thing"]) X G fun _ _ _ _ _ _ us hl => match us, hl with | [_, _, _], _ => rfl
  have g_check_tags := h_check_tags.g (ps := ["k"]) X G fun _ _ _ _ _ _ us hl => match us, hl with | [_], _ => rfl
  have g_check_memories := h_check_memories.g (ps := ["memories"]) X G fun _ _ _ _ _ _ us hl => match us, hl with | [_], _ => rfl
  have g_check_ties := h_check_ties.g (ps := ["many", "ties"]) X G fun _ _ _ _ _ _ us hl => match us, hl with | [_, _], _ => rfl
  have g_is_tie := h_is_tie.g (ps := ["many", "thing"]) X G fun _ _ _ _ _ _ us hl => match us, hl with | [_, _], _ => rfl
  have g_near_lots := h_near_lots.g (ps := ["many", "ties"]) X G fun _ _ _ _ _ _ us hl => match us, hl with | [_, _], _ => rfl
  have g_is_room := h_is_room.g (ps := ["web", "thing"]) X G fun _ _ _ _ _ _ us hl => match us, hl with | [_, _], _ => rfl
  have g_check_room := h_check_room.g (ps := ["web", "room"]) X G fun _ _ _ _ _ _ us hl => match us, hl with | [_, _], _ => rfl
  have g_tied := h_tied.g (ps := ["web", "room"]) X G fun _ _ _ _ _ _ us hl => match us, hl with | [_, _], _ => rfl
  have g_begun := h_begun.g (ps := ["web"]) X G fun _ _ _ _ _ _ us hl => match us, hl with | [_], _ => rfl
  have g_is_ask := h_is_ask.g (ps := ["web", "standing", "thing"]) X G fun _ _ _ _ _ _ us hl => match us, hl with | [_, _, _], _ => rfl
  have g_with_deed := h_with_deed.g (ps := ["web", "standing", "deed"]) X G fun _ _ _ _ _ _ us hl => match us, hl with | [_, _, _], _ => rfl
  have g_kept_tags := h_kept_tags.g (ps := ["web", "room"]) X G fun _ _ _ _ _ _ us hl => match us, hl with | [_, _], _ => rfl
  have g_standing_of := h_standing_of.g (ps := ["web", "past"]) X G fun _ _ _ _ _ _ us hl => match us, hl with | [_, _], _ => rfl
  have g_newest := h_newest.g (ps := ["tags", "many"]) X G fun _ _ _ _ _ _ us hl => match us, hl with | [_, _], _ => rfl
  have g_barred := h_barred.g (ps := ["web", "standing", "room"]) X G fun _ _ _ _ _ _ us hl => match us, hl with | [_, _, _], _ => rfl
  have g_gives_barred := h_gives_barred.g (ps := ["web", "standing", "deed"]) X G fun _ _ _ _ _ _ us hl => match us, hl with | [_, _, _], _ => rfl
  have g_is_row := h_is_row.g (ps := ["web", "thing"]) X G fun _ _ _ _ _ _ us hl => match us, hl with | [_, _], _ => rfl
  have g_check_row := h_check_row.g (ps := ["web", "row"]) X G fun _ _ _ _ _ _ us hl => match us, hl with | [_, _], _ => rfl
  have g_first_no_ask := h_first_no_ask.g (ps := ["web", "things"]) X G fun _ _ _ _ _ _ us hl => match us, hl with | [_, _], _ => rfl
  have g_led := h_led.g (ps := ["keeper", "web", "k", "row"]) X G fun _ _ _ _ _ _ us hl => match us, hl with | [_, _, _, _], _ => rfl
  have g_led_on := h_led_on.g (ps := ["keeper", "web", "k", "past", "standing", "ask"]) X G fun _ _ _ _ _ _ us hl => match us, hl with | [_, _, _, _, _, _], _ => rfl
  have g_deed_of := h_deed_of.g (ps := ["web", "k", "standing", "ask", "tag"]) X G fun _ _ _ _ _ _ us hl => match us, hl with | [_, _, _, _, _], _ => rfl
  have g__law_hand := h__law_hand.g (ps := ["_law_script"]) X G fun _ _ _ _ _ _ us hl => match us, hl with | [_], _ => rfl
  have g__law_draw := h__law_draw.g (ps := ["_law_hand_here", "_law_many"]) X G fun _ _ _ _ _ _ us hl => match us, hl with | [_, _], _ => rfl
  have g__law_any := h__law_any.g (ps := ["_law_hand_here", "_law_items"]) X G fun _ _ _ _ _ _ us hl => match us, hl with | [_, _], _ => rfl
  have g__law_is := h__law_is.g (ps := ["_law_told", "_law_due"]) X G fun _ _ _ _ _ _ us hl => match us, hl with | [_, _], _ => rfl
  have g__law_nested := h__law_nested.g (ps := ["_law_hand_here"]) X G fun _ _ _ _ _ _ us hl => match us, hl with | [_], _ => rfl
  have g__law_pairs := h__law_pairs.g (ps := ["_law_many"]) X G fun _ _ _ _ _ _ us hl => match us, hl with | [_], _ => rfl
  have g__law_parts := h__law_parts.g (ps := ["_law_hand_here", "_law_most", "_law_memory"]) X G fun _ _ _ _ _ _ us hl => match us, hl with | [_, _, _], _ => rfl
  have g__law_made := h__law_made.g (ps := ["_law_parts_here"]) X G fun _ _ _ _ _ _ us hl => match us, hl with | [_], _ => rfl
  have g__law_near := h__law_near.g (ps := ["_law_parts_here", "_law_room"]) X G fun _ _ _ _ _ _ us hl => match us, hl with | [_, _], _ => rfl
  have g__law_start := h__law_start.g (ps := ["_law_parts_here"]) X G fun _ _ _ _ _ _ us hl => match us, hl with | [_], _ => rfl
  have g__law_done := h__law_done.g (ps := ["_law_state_here", "_law_deed"]) X G fun _ _ _ _ _ _ us hl => match us, hl with | [_, _], _ => rfl
  have g__law_state := h__law_state.g (ps := ["_law_parts_here", "_law_past"]) X G fun _ _ _ _ _ _ us hl => match us, hl with | [_, _], _ => rfl
  have g__law_standing := h__law_standing.g (ps := ["_law_parts_here", "_law_state_here"]) X G fun _ _ _ _ _ _ us hl => match us, hl with | [_, _], _ => rfl
  have g__law_bars := h__law_bars.g (ps := ["_law_parts_here", "_law_state_here", "_law_room"]) X G fun _ _ _ _ _ _ us hl => match us, hl with | [_, _, _], _ => rfl
  have g__law_asks := h__law_asks.g (ps := ["_law_state_here"]) X G fun _ _ _ _ _ _ us hl => match us, hl with | [_], _ => rfl
  have g__law_row := h__law_row.g (ps := ["_law_hand_here", "_law_parts_here", "_law_many"]) X G fun _ _ _ _ _ _ us hl => match us, hl with | [_, _, _], _ => rfl
  have g__law_word := h__law_word.g (ps := ["_law_parts_here", "_law_k", "_law_state_here", "_law_room", "_law_tag"]) X G fun _ _ _ _ _ _ us hl => match us, hl with | [_, _, _, _, _], _ => rfl
  have g__law_led := h__law_led.g (ps := ["_law_keeper_here", "_law_parts_here", "_law_k", "_law_row_here"]) X G fun _ _ _ _ _ _ us hl => match us, hl with | [_, _, _, _], _ => rfl
  have g__law_int := h__law_int.g (ps := ["_law_thing", "_law_least", "_law_most"]) X G fun _ _ _ _ _ _ us hl => match us, hl with | [_, _, _], _ => rfl
  have g__law_first_none := h__law_first_none.g (ps := ["_law_parts_here", "_law_thing"]) X G fun _ _ _ _ _ _ us hl => match us, hl with | [_, _], _ => rfl
  have g__law_bent_row := h__law_bent_row.g (ps := ["_law_hand_here", "_law_parts_here", "_law_row_here"]) X G fun _ _ _ _ _ _ us hl => match us, hl with | [_, _, _], _ => rfl
  have g__law_led_word := h__law_led_word.g (ps := ["_law_keeper_here", "_law_web", "_law_k", "_law_row_here"]) X G fun _ _ _ _ _ _ us hl => match us, hl with | [_, _, _, _], _ => rfl
  have g__law_raising := h__law_raising.g (ps := ["_law_web", "_law_k", "_law_past", "_law_room"]) X G fun _ _ _ _ _ _ us hl => match us, hl with | [_, _, _, _], _ => rfl
  have g__law_goes_on := h__law_goes_on.g (ps := ["_law_web"]) X G fun _ _ _ _ _ _ us hl => match us, hl with | [_], _ => rfl
  have g__law_is_ask := h__law_is_ask.g (ps := ["_law_state_here", "_law_thing"]) X G fun _ _ _ _ _ _ us hl => match us, hl with | [_, _], _ => rfl
  have g__law_deep_parts := h__law_deep_parts.g (ps := ["_law_hand_here", "_law_most"]) X G fun _ _ _ _ _ _ us hl => match us, hl with | [_, _], _ => rfl
  obtain ⟨f, od, an, sl, oc, kV, dc, pm, cd, ct, a, lk, c, k⟩ := h_law
  have e := hfa.symm.trans (PySem.W.mg_of X G a)
  cases e
  have F := fun_mk (st := s_law) lk c k
  obtain ⟨f0, d0, n0, l0, o0, k0, y0, m0, t0, a0, lk0, cd0, kp0⟩ := h__law_keeper.ex
  obtain ⟨te0, td0, tv0, ts0, tl0, tx0⟩ := h__law_keeper.tab
  have hm0 := PySem.W.mg_of X G a0
  have F0 := fun_mk (st := s__law_keeper) lk0 cd0 kp0
  have empt0 := own0 f0 hm0 c0 P0 _ _ te0 td0 tv0 ts0 lk0 rfl rfl tl0 tx0
  obtain ⟨f1, d1, n1, l1, o1, k1, y1, m1, t1, a1, lk1, cd1, kp1⟩ := h__law_steady.ex
  obtain ⟨te1, td1, tv1, ts1, tl1, tx1⟩ := h__law_steady.tab
  have hm1 := PySem.W.mg_of X G a1
  have F1 := fun_mk (st := s__law_steady) lk1 cd1 kp1
  have empt1 := own1 f1 hm1 c1 P1 _ _ te1 td1 tv1 ts1 lk1 rfl rfl tl1 tx1
  obtain ⟨f2, d2, n2, l2, o2, k2, y2, m2, t2, a2, lk2, cd2, kp2⟩ := h_steadily.ex
  obtain ⟨te2, td2, tv2, ts2, tl2, tx2⟩ := h_steadily.tab
  have hm2 := PySem.W.mg_of X G a2
  have F2 := fun_mk (st := s_steadily) lk2 cd2 kp2
  have empt2 := own2 f2 hm2 c2 P2 _ _ te2 td2 tv2 ts2 lk2 rfl rfl tl2 tx2
  obtain ⟨f3, d3, n3, l3, o3, k3, y3, m3, t3, a3, lk3, cd3, kp3⟩ := h__law_by_steady.ex
  obtain ⟨te3, td3, tv3, ts3, tl3, tx3⟩ := h__law_by_steady.tab
  have hm3 := PySem.W.mg_of X G a3
  have F3 := fun_mk (st := s__law_by_steady) lk3 cd3 kp3
  have empt3 := own3 f3 hm3 c3 P3 _ _ te3 td3 tv3 ts3 lk3 rfl rfl tl3 tx3
  have apart2 := apart
  simp only [List.nodup_cons, List.mem_cons, List.not_mem_nil, or_false, not_or, List.nodup_nil, and_true, not_false_iff] at apart2
  obtain ⟨⟨n01, n02, n03⟩, ⟨n12, n13⟩, n23⟩ := apart2
  obtain ⟨t0, ht0⟩ : ∃ t : NTab, t = (P0, fun _ _ => ((("_law_keeper" : Str) ++ ".<locals>.") ++ "_law_tell")) := ⟨_, rfl⟩
  obtain ⟨t1, ht1⟩ : ∃ t : NTab, t = (P1, fun _ _ => ((("_law_steady" : Str) ++ ".<locals>.") ++ "_law_tell")) := ⟨_, rfl⟩
  obtain ⟨t2, ht2⟩ : ∃ t : NTab, t = (P2, fun _ _ => ((("steadily" : Str) ++ ".<locals>.") ++ "keeper")) := ⟨_, rfl⟩
  obtain ⟨t3, ht3⟩ : ∃ t : NTab, t = (P3, fun _ _ => ((("_law_by_steady" : Str) ++ ".<locals>.") ++ "<lambda>")) := ⟨_, rfl⟩
  have fourN : ∀ {p : NTab}, p ∈ [t0, t1, t2, t3] → p = t0 ∨ p = t1 ∨ p = t2 ∨ p = t3 := fun hp => by simpa using hp
  have four : ∀ {p : Addr × Addr}, p ∈ [(c0, P0), (c1, P1), (c2, P2), (c3, P3)] → p = (c0, P0) ∨ p = (c1, P1) ∨ p = (c2, P2) ∨ p = (c3, P3) := fun hp => by simpa using hp
  refine ⟨PySem.W.fnOf "law" "law" (defArgs s_law) (defBody s_law) (defScope s_law) .none kV dc pm an cd ct, [(c0, P0), (c1, P1), (c2, P2), (c3, P3)], spLaw K [t0, t1, t2, t3], fun p hp => ?_, fun p hp => ?_, fun p hp => ?_, fun s v => .of_eq rfl, fun H a ns hl _ hH hS => ?_, fun base _ _ TB => ?_⟩
  · rcases four hp with rfl | rfl | rfl | rfl
    · exact empt0
    · exact empt1
    · exact empt2
    · exact empt3
  · rcases four hp with rfl | rfl | rfl | rfl
    · exact h__law_keeper.out
    · exact h__law_steady.out
    · exact h_steadily.out
    · exact h__law_by_steady.out
  · rcases four hp with rfl | rfl | rfl | rfl
    · exact PySem.W.codeHd_of_K X h__law_keeper.hd
    · exact PySem.W.codeHd_of_K X h__law_steady.hd
    · exact PySem.W.codeHd_of_K X h_steadily.hd
    · exact PySem.W.codeHd_of_K X h__law_by_steady.hd
  · refine ⟨a, ns, rfl, hS, hl, fun p hp => ?_, fun _ => rfl⟩
    have hp2 : p.1 = P0 ∨ p.1 = P1 ∨ p.1 = P2 ∨ p.1 = P3 := by
      rcases fourN hp with e | e | e | e <;> rw [e]
      · exact .inl (by rw [ht0])
      · exact .inr (.inl (by rw [ht1]))
      · exact .inr (.inr (.inl (by rw [ht2])))
      · exact .inr (.inr (.inr (by rw [ht3])))
    refine TabN.nil ?_
    rcases hp2 with e | e | e | e <;> rw [e]
    · exact hH (c0, P0) (by simp)
    · exact hH (c1, P1) (by simp)
    · exact hH (c2, P2) (by simp)
    · exact hH (c3, P3) (by simp)
  have TB0 := TB (c0, P0) (by simp)
  have TB1 := TB (c1, P1) (by simp)
  have TB2 := TB (c2, P2) (by simp)
  have TB3 := TB (c3, P3) (by simp)
  have B : FC l.prog w K mg base "NoRow" "index" CR := by
    obtain ⟨bi, bd, i, t, FB⟩ := c_NoRow.ex
    exact ⟨PySem.W.mg_of X G c_NoRow.c.a, c_NoRow.c.ox, c_NoRow.c.xf, c_NoRow.no, bi, bd, i, t, ok_NoRow FB, FB.binds fun _ _ _ _ _ _ us hl => match us, hl with | [_, _], _ => rfl⟩
  have t0P : t0.1 = P0 := by rw [ht0]
  have t1P : t1.1 = P1 := by rw [ht1]
  have t2P : t2.1 = P2 := by rw [ht2]
  have t3P : t3.1 = P3 := by rw [ht3]
  have only : ∀ {p : NTab} {i : Addr}, p ∈ [t0, t1, t2, t3] → p.1 = i → (i = P0 → p = t0) ∧ (i = P1 → p = t1) ∧ (i = P2 → p = t2) ∧ (i = P3 → p = t3) := fun {p i} hp e => by
    subst e
    rcases fourN hp with z | z | z | z <;> subst z
    · exact ⟨fun _ => rfl, fun h => absurd (t0P.symm.trans h) n01, fun h => absurd (t0P.symm.trans h) n02, fun h => absurd (t0P.symm.trans h) n03⟩
    · exact ⟨fun h => absurd (h.symm.trans t1P) n01, fun _ => rfl, fun h => absurd (t1P.symm.trans h) n12, fun h => absurd (t1P.symm.trans h) n13⟩
    · exact ⟨fun h => absurd (h.symm.trans t2P) n02, fun h => absurd (h.symm.trans t2P) n12, fun _ => rfl, fun h => absurd (t2P.symm.trans h) n23⟩
    · exact ⟨fun h => absurd (h.symm.trans t3P) n03, fun h => absurd (h.symm.trans t3P) n13, fun h => absurd (h.symm.trans t3P) n23, fun _ => rfl⟩
  have M0 := mk__law_keeper (P := l.prog) (w := w) (mg := mg) (base := base) (T := [t0, t1, t2, t3]) lk0 cd0 TB0 (ht0 ▸ (.head _ : t0 ∈ [t0, t1, t2, t3])) fun p hp e => by
    rw [(only hp e).1 rfl, ht0]
  have G_law_keeper := (⟨f0, _, hm0, kp0, F0.binds fun _ _ _ _ _ _ us hl => match us, hl with | [_, _, _], _ => rfl, M0⟩ : Def l.prog w K mg base 1 "_law_keeper" ["_law_way", "_law_seed", "_law_parts_here"] _)
  have M1 := mk__law_steady (P := l.prog) (w := w) (mg := mg) (base := base) (T := [t0, t1, t2, t3]) lk1 cd1 TB1 (ht1 ▸ (.tail _ (.head _) : t1 ∈ [t0, t1, t2, t3])) fun p hp e => by
    rw [(only hp e).2.1 rfl, ht1]
  have G_law_steady := (⟨f1, _, hm1, kp1, F1.binds fun _ _ _ _ _ _ us hl => match us, hl with | [_, _, _], _ => rfl, M1⟩ : Def l.prog w K mg base 1 "_law_steady" ["_law_way", "_law_seed", "_law_parts_here"] _)
  have M2 := mk_steadily (P := l.prog) (w := w) (mg := mg) (base := base) (T := [t0, t1, t2, t3]) lk2 cd2 TB2 (ht2 ▸ (.tail _ (.tail _ (.head _)) : t2 ∈ [t0, t1, t2, t3])) fun p hp e => by
    rw [(only hp e).2.2.1 rfl, ht2]
  have Gsteadily := (⟨f2, _, hm2, kp2, F2.binds fun _ _ _ _ _ _ us hl => match us, hl with | [_], _ => rfl, M2⟩ : Def l.prog w K mg base 1 "steadily" ["steady"] _)
  have M3 := mk__law_by_steady (P := l.prog) (w := w) (mg := mg) (base := base) (T := [t0, t1, t2, t3]) lk3 cd3 TB3 (ht3 ▸ (.tail _ (.tail _ (.tail _ (.head _))) : t3 ∈ [t0, t1, t2, t3])) fun p hp e => by
    rw [(only hp e).2.2.2 rfl, ht3]
  have G_law_by_steady := (⟨f3, _, hm3, kp3, F3.binds fun _ _ _ _ _ _ us hl => match us, hl with | [_, _], _ => rfl, M3⟩ : Def l.prog w K mg base 1 "_law_by_steady" ["_law_steady_here", "_law_parts_here"] _)
  have mKE := PySem.W.mg_none_of X G z_KeyError
  have Gis_integer := ok_isint (P := l.prog) (w := w) (base := base) T.toTxt g_is_integer
  have Gis_between := ok_btw (P := l.prog) (w := w) (base := base) T.toTxt g_is_between Gis_integer
  have Gcheck_memories := ok_cmem (P := l.prog) (w := w) (base := base) T.toGTxt g_check_memories Gis_between
  have Gis_tie := ok_istie (P := l.prog) (w := w) (base := base) T.toTxt g_is_tie Gis_between
  have Gcheck_ties := ok_cties (P := l.prog) (w := w) (base := base) T.toGTxt g_check_ties Gis_tie
  have Gnear_lots := ok_nlots (P := l.prog) (w := w) (base := base) T.toGTxt g_near_lots
  have M : WMk l.prog w K mg base C := ⟨PySem.W.mg_of X G aC, fi, _, ⟨mk, ai, ii, kc⟩, ok_web (P := l.prog) (w := w) (base := base) T.toGTxt W FI Gcheck_memories Gcheck_ties Gnear_lots, bI⟩
  have G_law_made := ok_made (P := l.prog) (w := w) (base := base) M g__law_made
  have Gis_room := ok_isroom (P := l.prog) (w := w) (base := base) T.toGTxt W g_is_room Gis_between
  have Gcheck_room := ok_chroom (P := l.prog) (w := w) (base := base) g_check_room Gis_room
  have Gtied := ok_tied (P := l.prog) (w := w) (base := base) W g_tied Gcheck_room
  have Gbegun := ok_begun (P := l.prog) (w := w) (base := base) T.toGTxt W g_begun
  have Gkept_tags := ok_kept (P := l.prog) (w := w) (base := base) T.toGTxt W g_kept_tags
  have Gnewest := ok_newest (P := l.prog) (w := w) (base := base) T.toGTxt g_newest
  have Gbarred := ok_barred (P := l.prog) (w := w) (base := base) T.toGTxt W g_barred Gtied
  have Ggives_barred := ok_gb (P := l.prog) (w := w) (base := base) T.toGTxt g_gives_barred Gbarred
  have Gstanding_of := ok_so (P := l.prog) (w := w) (base := base) T.toGTxt W g_standing_of Gkept_tags Gnewest
  have Gis_ask := ok_isaskD (P := l.prog) (w := w) (base := base) T W g_is_ask Gis_room
  have Gwith_deed := ok_wdX (P := l.prog) (w := w) (base := base) T.toGTxt W g_with_deed Gkept_tags
  have Gfirst_no_ask := ok_fna (P := l.prog) (w := w) (base := base) T g_first_no_ask Gbegun Gis_ask Gwith_deed
  have Gis_row := ok_isrow (P := l.prog) (w := w) (base := base) T g_is_row Gfirst_no_ask
  have Gcheck_tags := ok_ctags (P := l.prog) (w := w) (base := base) T g_check_tags Gis_between
  have Gcheck_row := ok_crow (P := l.prog) (w := w) (base := base) T B g_check_row Gfirst_no_ask
  have Gdeed_of := ok_deed (P := l.prog) (w := w) (base := base) T g_deed_of Gis_between Ggives_barred
  have Gled_on := ok_ledon (P := l.prog) (w := w) (base := base) T g_led_on Gdeed_of Gwith_deed
  have Gled := ok_led (P := l.prog) (w := w) (base := base) T g_led Gcheck_tags Gcheck_row Gbegun Gled_on
  have G_law_raising := ok_raising (P := l.prog) (w := w) (base := base) mKE g__law_raising
  obtain ⟨fr, hmRz, Rz⟩ := raiser_of G_law_raising
  have Gled_on_R := ok_ledonR (P := l.prog) (w := w) (base := base) T Rz g_led_on Gdeed_of Gwith_deed
  have Gled_R := ok_ledR (P := l.prog) (w := w) (base := base) T g_led Gcheck_tags Gcheck_row Gbegun Gled_on_R
  have G_law_hand := ok_hand (P := l.prog) (w := w) (base := base) T.toTxt g__law_hand
  have G_law_draw := ok_draw (P := l.prog) (w := w) (base := base) T.toTxt g__law_draw
  have G_law_any := ok_any (P := l.prog) (w := w) (base := base) T.toTxt g__law_any G_law_draw
  have G_law_pairs := ok_pairs (P := l.prog) (w := w) (base := base) T.toTxt g__law_pairs
  have G_law_parts := ok_parts (P := l.prog) (w := w) (base := base) T.toTxt g__law_parts G_law_draw G_law_pairs
  have G_law_deep_parts := ok_deep (P := l.prog) (w := w) (base := base) T.toTxt g__law_deep_parts G_law_draw G_law_any G_law_pairs
  have G_law_near := ok_near (P := l.prog) (w := w) (base := base) T.toTxt g__law_near
  have G_law_start := ok_start (P := l.prog) (w := w) (base := base) T.toTxt g__law_start
  have G_law_done := ok_done (P := l.prog) (w := w) (base := base) T.toTxt g__law_done
  have G_law_asks := ok_asks (P := l.prog) (w := w) (base := base) T.toTxt g__law_asks
  have G_law_bars := ok_bars (P := l.prog) (w := w) (base := base) T.toTxt g__law_bars G_law_near
  have G_law_state := ok_lst (P := l.prog) (w := w) (base := base) T.toTxt g__law_state G_law_start G_law_done
  have G_law_standing := ok_lstand (P := l.prog) (w := w) (base := base) T g__law_standing
  have G_law_int := ok_lint (P := l.prog) (w := w) (base := base) T g__law_int
  have G_law_word := ok_lword (P := l.prog) (w := w) (base := base) T.toTxt g__law_word G_law_bars
  have G_law_is_ask := ok_lask (P := l.prog) (w := w) (base := base) T g__law_is_ask G_law_int
  have G_law_first_none := ok_lfn (P := l.prog) (w := w) (base := base) T g__law_first_none G_law_start G_law_is_ask G_law_done
  have G_law_led := ok_lled (P := l.prog) (w := w) (base := base) T g__law_led G_law_made G_law_start G_law_word G_law_done
  have G_law_row := ok_lrow (P := l.prog) (w := w) (base := base) T g__law_row G_law_draw G_law_any G_law_start G_law_asks G_law_done
  have G_law_is := ok_is (P := l.prog) (w := w) (base := base) TS g__law_is 5
  have G_law_nested := ok_nestedT (P := l.prog) (w := w) (base := base) TS g__law_nested G_law_any
  have G_law_bent_row := ok_lbr (P := l.prog) (w := w) (base := base) T g__law_bent_row G_law_draw G_law_any G_law_nested
  have G_law_led_word := ok_lledw (P := l.prog) (w := w) (base := base) T B c_NoRow.c.ec (PySem.W.mg_of X G c_NoRow.c.a) (PySem.W.mg_of X G aT) x_NoRow s_NoRow g__law_led_word Gled
  have G_law_goes_on := ok_goes (P := l.prog) (w := w) (base := base) T mKE hmRz g__law_goes_on Gled_R
  exact ok_law (P := l.prog) (w := w) (base := base) TA hmRz F G_law_hand G_law_draw G_law_parts G_law_deep_parts G_law_made G_law_row G_law_is Gled G_law_led G_law_bent_row G_law_first_none Gis_row G_law_led_word G_law_goes_on G_law_state G_law_bars G_law_near G_law_standing Gstanding_of G_law_keeper G_law_steady G_law_by_steady Gsteadily
/-- the end, where another def's table must be known -/
theorem walk_tab {l : PySem.W.OpenLaw} {q : Program} {loose : List Str} {XP : (Str → Option Value) → Heap → Prop} {YP : World → Heap → Prop} {d : DefRec} {K : Params → PySem.W.Frag} {nms : List Str} (hm : l.most = some 63) (h0 : d.params.defaults = []) (hin : nms.all (fun nm => (recsOf q).any fun e => e.name == nm) = true)
    (hK : ∀ (w : World) (h : Heap), YP w h → (K w.params).In h)
    (F : ∀ (w : World) (mg : Str → Option Value) (fa : Addr) (h : Heap), (K w.params).In h → h.Ns mainGlobals mg → mg d.name = some (.ref fa) → (∀ nm ∈ nms, ∀ ga, mg nm = some (.ref ga) → LamX.OwnTab (K w.params) ga h) → LamX.LawAtS l w (K w.params) CX0 16 63 "_law_script" mg fa h) :
    PySem.W.WalkO q loose XP YP l.row.toRowW d [] (fun f vs => PySem.call f vs) := by
  refine Att.attach_callB hm h0 fun w sa sb m1 m2 fl ob pv cv dv la us is T Y h1 h2 h3 h4 h5 h6 h7 h8 h9 => ?_
  have inK := hK w _ Y
  have tabs : ∀ nm ∈ nms, ∀ ga, m1 nm = some (.ref ga) → LamX.OwnTab (K w.params) ga sb.heap := fun nm hnm ga hga c P o1 fd1 e dd vs1 sl k1 k2 k3 k4 k5 => by
    obtain ⟨r, hr, hrn⟩ := List.any_eq_true.mp (List.all_eq_true.mp hin nm hnm)
    obtain ⟨a', o', fd', c', P', t1, t2, t3, t4, _, ⟨⟨oc, vc, t5, _, t6, t7⟩, t8⟩⟩ := T.T.tab r hr
    rw [show r.name = nm from beq_iff_eq.mp hrn, hga] at t1
    cases t1
    rw [inK _ _ k1] at t2
    cases t2
    rw [k2] at t3
    cases t3
    rw [k3] at t4
    cases t4
    rw [inK _ _ k4] at t5
    cases t5
    cases t6
    rw [k5] at t7
    cases t7
    exact t8
  obtain ⟨fd, cs, sp, y1, y2, y3, y4, y5, y6⟩ := F w m1 fl _ inK T.T.g h4 tabs
  exact LamX.law_callTs inK T.T.g T.T.b T.T.builtins T.T.nolimit h9 y1 y2 y3 T.T.bmain h5 h6 (Nat.le_trans h7 (by decide)) ⟨rfl, by decide, by decide⟩ y6 y4 (fun H hH hS => y5 H la is h7 h8 hH hS) fun _ _ _ z => z
end W1

set_option maxRecDepth 100000
open PySem PySem.W PyProof.Rows
local macro_rules | `(tactic| walk_at "fact") => `(tactic| (refine' W1.fact_mk ?a ?l ?c ?k; (case a => k_is); (case l => k_is); (case c => k_is); (case k => k_is)))
local macro_rules | `(tactic| walk_at "cf") => `(tactic| (refine' W1.cf_mk ?a ?lk ?hb ?b; (case a => k_is); (case lk => k_is); (case hb => first | rfl | decide +kernel | k_is); (case b => first | kernel_rfl | rfl | decide +kernel)))
local macro_rules | `(tactic| walk_at "ff") => `(tactic| (refine' W1.ff_mk ?c ?no ?i ?t ?l ?k1 ?k2; (case c => walk_at "cf"); (case no => k_is); (case i => k_is); (case t => k_is); (case l => k_is); (case k1 => k_is); (case k2 => k_is)))
local macro_rules | `(tactic| walk_at "tf") => `(tactic| (refine' W1.factC_mk ?a ?lf ?c ?k ?lc ?v ?hd ?out; (case a => k_is); (case lf => k_is); (case c => k_is); (case k => k_is); (case lc => k_is); (case v => first | rfl | k_is); (case hd => first | kernel_rfl | rfl | k_is); (case out => first | kernel_rfl | rfl | k_is)))
set_option maxHeartbeats 0 in
theorem PySem.Challenge.cw_staletags_k05_whole_keepers_led_holds : PySem.Challenge.rw_staletags_k05_whole_keepers_led.Holds := by
  w_on; o_law; k_head; (case hw => w_witness2)
  k_fill
  refine W1.walk_tab (l := PySem.Challenge.rw_staletags_k05_whole_keepers_led) (nms := ["_law_keeper", "_law_steady", "steadily", "_law_by_steady"]) rfl rfl ?R (fun w h Y => PySem.W.km_in_of Y) ?F
  case R => first | kernel_rfl | rfl | decide +kernel
  case F =>
    intro w mg fa h KX G hmg own
    refine' W1.all_ok (l := PySem.Challenge.rw_staletags_k05_whole_keepers_led) KX G hmg ?z_len ?z_abs ?z_int ?z_range ?z_tuple ?z_list ?z_sorted ?z_set ?z_enumerate ?z_isinstance ?z_all ?z_max ?z_min ?z_bool ?z_zip ?z_str ?z_sum ?z_ValueError ?z_KeyError ?vr ?vm ?vt ?wf ?aT ?cN ?xN ?sN ?m0 (own "_law_keeper" (by simp)) ?m1 (own "_law_steady" (by simp)) ?m2 (own "steadily" (by simp)) ?m3 (own "_law_by_steady" (by simp)) ?ap ?h_is_integer ?h_is_between ?h_check_tags ?h_check_memories ?h_check_ties ?h_is_tie ?h_near_lots ?h_is_room ?h_check_room ?h_tied ?h_begun ?h_is_ask ?h_with_deed ?h_kept_tags ?h_standing_of ?h_newest ?h_barred ?h_gives_barred ?h_is_row ?h_check_row ?h_first_no_ask ?h_led ?h_led_on ?h_deed_of ?h__law_hand ?h__law_draw ?h__law_any ?h__law_is ?h__law_nested ?h__law_pairs ?h__law_parts ?h__law_made ?h__law_near ?h__law_start ?h__law_done ?h__law_state ?h__law_standing ?h__law_bars ?h__law_asks ?h__law_row ?h__law_word ?h__law_led ?h__law_int ?h__law_first_none ?h__law_bent_row ?h__law_led_word ?h__law_raising ?h__law_goes_on ?h__law_is_ask ?h__law_deep_parts ?h_law
    (case z_len => k_is)
    (case z_abs => k_is)
    (case z_int => k_is)
    (case z_range => k_is)
    (case z_tuple => k_is)
    (case z_list => k_is)
    (case z_sorted => k_is)
    (case z_set => k_is)
    (case z_enumerate => k_is)
    (case z_isinstance => k_is)
    (case z_all => k_is)
    (case z_max => k_is)
    (case z_min => k_is)
    (case z_bool => k_is)
    (case z_zip => k_is)
    (case z_str => k_is)
    (case z_sum => k_is)
    (case z_ValueError => k_is)
    (case z_KeyError => k_is)
    (case vr => refine' W1.num_mk ?a ?r; (case a => k_is); (case r => exact ⟨_, rfl⟩))
    (case vm => refine' W1.num_mk ?a ?r; (case a => k_is); (case r => exact ⟨_, rfl⟩))
    (case vt => refine' W1.num_mk ?a ?r; (case a => k_is); (case r => exact ⟨_, rfl⟩))
    (case wf => refine' W1.web_mk ?aC ?ai ?ii ?li ?ci ?ki ?pg ?hd ?po ?sa ?mk ?kc ?nM ?nT ?nN; (case aC => k_is); (case ai => k_is); (case ii => k_is); (case li => k_is); (case ci => k_is); (case ki => k_is); (case pg => k_is); (case hd => k_is); (case po => k_is); (case sa => k_is); (case mk => k_is); (case kc => k_is); (case nM => k_is); (case nT => k_is); (case nN => k_is))
    (case aT => k_is)
    (case cN => walk_at "ff")
    (case xN => first | kernel_rfl | rfl | k_is)
    (case sN => first | kernel_rfl | rfl | k_is)
    (case m0 => walk_at "tf")
    (case m1 => walk_at "tf")
    (case m2 => walk_at "tf")
    (case m3 => walk_at "tf")
    (case ap => first | decide | kernel_rfl | decide +kernel)
    (case h_is_integer => walk_at "fact")
    (case h_is_between => walk_at "fact")
    (case h_check_tags => walk_at "fact")
    (case h_check_memories => walk_at "fact")
    (case h_check_ties => walk_at "fact")
    (case h_is_tie => walk_at "fact")
    (case h_near_lots => walk_at "fact")
    (case h_is_room => walk_at "fact")
    (case h_check_room => walk_at "fact")
    (case h_tied => walk_at "fact")
    (case h_begun => walk_at "fact")
    (case h_is_ask => walk_at "fact")
    (case h_with_deed => walk_at "fact")
    (case h_kept_tags => walk_at "fact")
    (case h_standing_of => walk_at "fact")
    (case h_newest => walk_at "fact")
    (case h_barred => walk_at "fact")
    (case h_gives_barred => walk_at "fact")
    (case h_is_row => walk_at "fact")
    (case h_check_row => walk_at "fact")
    (case h_first_no_ask => walk_at "fact")
    (case h_led => walk_at "fact")
    (case h_led_on => walk_at "fact")
    (case h_deed_of => walk_at "fact")
    (case h__law_hand => walk_at "fact")
    (case h__law_draw => walk_at "fact")
    (case h__law_any => walk_at "fact")
    (case h__law_is => walk_at "fact")
    (case h__law_nested => walk_at "fact")
    (case h__law_pairs => walk_at "fact")
    (case h__law_parts => walk_at "fact")
    (case h__law_made => walk_at "fact")
    (case h__law_near => walk_at "fact")
    (case h__law_start => walk_at "fact")
    (case h__law_done => walk_at "fact")
    (case h__law_state => walk_at "fact")
    (case h__law_standing => walk_at "fact")
    (case h__law_bars => walk_at "fact")
    (case h__law_asks => walk_at "fact")
    (case h__law_row => walk_at "fact")
    (case h__law_word => walk_at "fact")
    (case h__law_led => walk_at "fact")
    (case h__law_int => walk_at "fact")
    (case h__law_first_none => walk_at "fact")
    (case h__law_bent_row => walk_at "fact")
    (case h__law_led_word => walk_at "fact")
    (case h__law_raising => walk_at "fact")
    (case h__law_goes_on => walk_at "fact")
    (case h__law_is_ask => walk_at "fact")
    (case h__law_deep_parts => walk_at "fact")
    (case h_law => walk_at "fact")

