import PyProof.Rows.All
import Wide.All
import OpenK.AllK
import Wide.FinOn
import HandS.ForMost
import HandS.Walk
import HandS.SetFor
import HandS.Strs
import HandS.TupMul
import HandS.TupAny
import HandS.TupLe
import HandS.Style
import HandS.SortInts
import HandS.IsInst
import HandS.Conv
import KE.GoesEnum
import HandS.Evl
import PySem.Challenge.RW_staletags_k00_errors_of_the_package
import HandS.Zip
import HandS.Base
import HandS.Call
import HandS.Words
import HandS.ExcInit
import KE.KExcSuper
import HandS.ExcValue
import HandS.ExcIs
import HandS.ExcField
import KE.KExcIs
import KE.DataFind
import HandS.ExcBuiltin
set_option Elab.async false
set_option linter.all false
set_option maxRecDepth 100000
set_option maxHeartbeats 4000000
/-! own rules: enumerate over a tuple, set of a list of ints, a tuple times one -/
namespace PySem
section
open Builtin
theorem en1_new {v : Value} {o : Obj} {G : Heap → Prop} (B : Begins v o G) :
    Meets (Builtin.«enumerate.__new__» ⟨[.type "enumerate", v], []⟩) (fun _ R s => G s.heap ∧
      R (.ok (.ret (.ref (s.heap.push o).objs.size)))
        { s with heap := (s.heap.push o).push { cls := .type "enumerate", data := .fields #[.none, .bool false, .ref s.heap.objs.size, rawInt 0, .none, .none] } }) := by
  refine .of_wp fun prog w A R s h => ?_
  obtain ⟨hp, g, d, tk, os⟩ := s
  obtain ⟨h1, h⟩ := h
  have hsb := sub_enumerate
  have qi : ∀ {A' : Around} {E : Value → Shared → Prop} {Q : Value → Shared → Prop},
      Q (.ref hp.objs.size) ⟨hp.push o, g, d, tk, os⟩ → wpAny (model prog w) A' (pyIter v) Q E ⟨hp, g, d, tk, os⟩ := fun {A'} {E} {Q} q =>
    B.iter prog w _ _ ⟨hp, g, d, tk, os⟩ _ h1 q
  wp_walk using qi
  refine wpAny_stack_any fun st => ?_
  refine wpAny_pure ?_
  split
  · rename_i c _ _ _ _ _
    cases (c == Value.type "enumerate") <;> (wp_walk using qi; exact ⟨_, rfl, h⟩)
  · wp_walk using qi
    exact ⟨_, rfl, h⟩
end
theorem en1_call {prog : Program} {w : World} {A : Around} {E : Value → Shared → Prop} {s : Shared} {v : Value} {o : Obj} {G : Heap → Prop} {Q : Value → Shared → Prop} (B : Begins v o G) (hG : G s.heap)
    (hq : ∀ h', IsEnum h' (s.heap.objs.size + 1) s.heap.objs.size 0 .none → h'.get? s.heap.objs.size = some o → (∀ b u, s.heap.get? b = some u → h'.get? b = some u) →
      Q (.ref (s.heap.objs.size + 1)) { s with heap := h' }) :
    wpAny (model prog w) A (call (.type "enumerate") [v]) Q E s := by
  have hz : (s.heap.push o).objs.size = s.heap.objs.size + 1 := Heap.size_push ..
  refine callType_new F.called_enumerate (by decide) (F.typeCall_enumerate_1 v) (F.newCall_enumerate_1 v)
    (fun obj => F.args_object_init_2 obj v) F.entry_enumerate_new (en1_new B) ⟨hG, ?_⟩
  show _ ∧ _
  rw [hz]
  have e0 := Heap.get?_push_size (s.heap.push o)
    (o := { cls := .type "enumerate", data := .fields #[.none, .bool false, .ref s.heap.objs.size, rawInt 0, .none, .none] }) rfl
  rw [hz] at e0
  have he : IsEnum ((s.heap.push o).push { cls := .type "enumerate", data := .fields #[.none, .bool false, .ref s.heap.objs.size, rawInt 0, .none, .none] })
    (s.heap.objs.size + 1) s.heap.objs.size 0 .none := e0
  refine ⟨⟨_, he, rfl⟩, hq _ he ?_ ?_⟩
  · exact Heap.get?_push_of_some _ (Heap.get?_push_size _ B.free)
  · intro b u x
    exact Heap.get?_push_of_some _ (Heap.get?_push_of_some _ x)
end PySem
namespace L2
open PySem PySem.Spec PyProof.Rows
/-- the tuple at a, each item in a new pair with its place -/
def IteT (K : PySem.W.Frag) (a : Addr) : It where
  go := fun i H => ∃ (xs : List V) (x : V), SqT K H a xs ∧ xs[i]? = some x
  yld := fun i H v H' => ∃ T x, v = .ref T ∧ H T = none ∧ H' = upd H T (.tup [.int (i : Nat), x]) ∧ ∀ xs, SqT K H a xs → xs[i]? = some x
  stop := fun i H => ∃ xs : List V, SqT K H a xs ∧ xs.length ≤ i
theorem isTup_isTuple {h : Heap} {a : Addr} {its : Array Value} (x : IsTup h a its) : h.IsTuple a its := by
  obtain ⟨o, ho, hc, n, hd⟩ := x
  exact ⟨o, ho, hc, n, hd⟩

theorem turn_enT {P : Program} {w : World} {K : PySem.W.Frag} {elts : List Expr} {kk : Nat} {tp : Pos} (a e it : Addr) (hai : a ≠ it) (hea : e ≠ a) :
    Turn P w K (.Tuple elts kk tp) (IteT K a) [e, it] e (fun i h => (∃ old, IsEnum h e it ((i : Nat) : Int) old) ∧ h.IsTupleIter it a i ∧ e ≠ it) := by
  refine ⟨by simp, ?_, ?_, ?_, ?_, ?_⟩
  · rintro i h ⟨⟨old, he⟩, hit, _⟩ b hb
    have hb2 : b = e ∨ b = it := by simpa using hb
    rcases hb2 with rfl | rfl
    · exact ⟨_, he, fun v q => nomatch q⟩
    · obtain ⟨o, ho, _, hd⟩ := hit
      exact ⟨o, ho, fun v q => by rw [hd] at q; cases q⟩
  · rintro i h h' ⟨⟨old, he⟩, hit, hne⟩ k
    refine ⟨⟨old, k e (by simp) _ he⟩, ?_, hne⟩
    obtain ⟨o, ho, r⟩ := hit
    exact ⟨o, k it (by simp) o ho, r⟩
  · intro X hP hw hK hc i pins s σ H E I hf st hg
    subst hP hw hK
    obtain ⟨⟨old, he⟩, hit, hne⟩ := st
    obtain ⟨xs, x, hq, hx⟩ := hg
    obtain ⟨its, rv, pt, hz⟩ := I.tuple hq
    obtain ⟨u, hu, ru⟩ := rv.get hx
    have hel : e < s.heap.objs.size := Heap.lt_size he
    have hil : it < s.heap.objs.size := by
      obtain ⟨_, q, _⟩ := hit
      exact Heap.lt_size q
    have hin : i < its.toArray.size := by
      have h2 := (List.getElem?_eq_some_iff.mp hu).1
      simpa using h2
    have hh1 : X.A.in1.handled = none := by
      have h0 := I.ok.hd hc
      simpa using h0
    refine wpAny_pyNext_enum_itemD (Draws.tuple hh1 it a hai its.toArray) he ⟨hit, isTup_isTuple pt⟩ hin hne (by simp [hne, hea]) fun y h1 tk hy hout hst hT hsz hk => ?_
    have ey : y = u := by
      have h3 : its.toArray[i]? = some u := by simpa using hu
      exact Option.some.inj (hy.symm.trans h3)
    subst ey
    refine ⟨_, rfl, wpAny_letOwnedTupleGo_enum (s := { s with heap := h1, toks := tk + 1 }) hout fun h2 he2 sb => ?_⟩
    have hT2 : h2.get? s.heap.objs.size = some { cls := .type "tuple", data := .seq #[.int i tk, y] } := (sb.2 _ (Nat.ne_of_gt hel)).trans hT
    have new : ObjOk X.prog X.w (upd H s.heap.objs.size (.tup [.int (i : Nat), x])) h2 s.heap.objs.size (.tup [.int (i : Nat), x]) := by
      refine ⟨?_, [.int i tk, y], ?_, ?_⟩
      · show 2 ≤ sizeLine
        decide
      · exact .cons ⟨_, rfl⟩ (.cons ru .nil)
      · exact ⟨_, hT2, rfl, _, rfl⟩
    have I1 : Inv X pins σ (upd H s.heap.objs.size (.tup [.int (i : Nat), x])) { s with heap := h2, toks := tk + 1 } := by
      refine I.turnedNew (ch := [e, it]) (fun b ob hb q => ?_) hf (Nat.le_refl _) new
      have nbe : b ≠ e := fun z => hb (by simp [z])
      have nbi : b ≠ it := fun z => hb (by simp [z])
      exact (sb.2 b nbe).trans (hk b ob nbe nbi q)
    refine ⟨.ref s.heap.objs.size, _, I1, rfl, ⟨_, x, rfl, I.hok.fresh (Nat.le_refl _), rfl, fun ys hy2 => ?_⟩, ⟨⟨y, ?_⟩, ?_, hne⟩, fun b hb => ?_⟩
    · rw [I.tuple_inj hy2 hq]
      exact hx
    · have e1 : ((i + 1 : Nat) : Int) = (i : Int) + 1 := by omega
      rw [e1]
      exact he2
    · obtain ⟨o, ho, r⟩ := hst.1
      exact ⟨o, (sb.2 it (Ne.symm hne)).trans ho, r⟩
    · have hlt : b < s.heap.objs.size := by
        have hb2 : b = e ∨ b = it := by simpa using hb
        rcases hb2 with rfl | rfl
        · exact hel
        · exact hil
      rw [upd_ne (Nat.ne_of_lt hlt)]
      exact (hf b hb).1
  · intro X hP hw hK hc i pins s σ H E I hf st hg
    subst hP hw hK
    obtain ⟨⟨old, he⟩, hit, hne⟩ := st
    obtain ⟨xs, hq, hx⟩ := hg
    obtain ⟨its, rv, pt, hz⟩ := I.tuple hq
    obtain ⟨f0, f1, f2, f3, f4, f5⟩ := hf it (by simp)
    have hh1 : X.A.in1.handled = none := by
      have h0 := I.ok.hd hc
      simpa using h0
    have hl := rv.length
    have hend : ∀ h', Heap.ExtBut it s.heap h' → (fun (r : Option Value) (s1 : Shared) => r = none ∧ Inv X pins σ H s1) none { s with heap := h' } := fun h' eb =>
      ⟨rfl, I.turned (t' := s.toks) (fun b o hb q => eb b o hb q) f0 f1 f3 f4 f5⟩
    have hT : s.TypeIs (.ref e) "enumerate" := ⟨_, he, rfl⟩
    unfold pyNext
    refine wpAny_bind (wpAny_attempt (wpAny_callSpecial?_slot (name := Str.ofString "__next__") hT F.slot_enumerate_next
      (wpAny_call_entry F.slot_enumerate_next hT F.entry_enumerate_next ?_ (F.args_enumerate_next_1 _))))
    show wpAny _ _ (field (.ref e) 2 >>= _) _ _ _
    refine wpAny_bind (wpAny_field he rfl (x := .ref it) rfl ?_)
    refine wpAny_bind (wpAny_nextOf_tuple_end hh1 hit (isTup_isTuple pt) (by simp; omega) fun h' y he' hy => ?_)
    obtain ⟨o, ho, hcl⟩ := hy
    refine wpAny_bind (wpAny_isInstance (T := "StopIteration") (b := true) ⟨o, ho, hcl⟩ isSubtype_stop ?_)
    exact wpAny_pure (hend _ he')
  · rintro A i s Q E ⟨⟨old, he⟩, _⟩ h
    exact wpAny_pyIter_enum he h
def iEnumT (K : PySem.W.Frag) (ta : TA) : TI := fun σ H R => ta σ H fun vs H1 => ∃ a xs, vs = [.ref a] ∧ SqT K H1 a xs ∧ R (IteT K a) H1
theorem pi_enumT {X : Cx} {e : Expr} {ta : TA} {p pos tp : Pos} {elts : List Expr} {kk : Nat} (hg : Gl X "enumerate") (hm : X.mg "enumerate" = none) (ha : PA X [e] ta)
    (hs : starEach [e] X.env = [(false, eval e X.env)] := by rfl) : PI X (.Tuple elts kk tp) (.Call (.Name "enumerate" p) [e] [] pos) (iEnumT X.K ta) := by
  constructor
  intro pins s σ H R I h
  refine Call_ (ld_blt I hg hm boot_enumerate ?_)
  refine PyProof.Rows.callWith_type1 (thn (ha.run pos pins s σ H _ I h) fun us s1 hh => ?_) hs rfl
  obtain ⟨vs, H1, I1, r1, a, xs, rfl, hq, q⟩ := hh
  cases r1 with
  | cons r rr =>
    cases rr
    cases r
    obtain ⟨its, rv, pt, hz⟩ := I1.tuple hq
    have ht := isTup_isTuple pt
    have hlt : a < s1.heap.objs.size := by
      obtain ⟨o, ho, _⟩ := pt
      exact Heap.lt_size ho
    refine en1_call (begins_tuple a its.toArray) ht fun h' he hit hk => ?_
    refine wpAny_pyIter_enum he ?_
    have I2 : Inv X pins σ H1 { s1 with heap := h' } := I1.kept (t' := s1.toks) hk
    have T := turn_enT (P := X.prog) (w := X.w) (K := X.K) (elts := elts) (kk := kk) (tp := tp) a (s1.heap.objs.size + 1) s1.heap.objs.size (Nat.ne_of_lt hlt) (by
      intro z
      rw [← z] at hlt
      exact absurd hlt (Nat.not_lt.mpr (Nat.le_succ _)))
    refine ⟨s1.heap.objs.size + 1, [s1.heap.objs.size + 1, s1.heap.objs.size], _, _, H1, rfl, I2, T, ⟨⟨.none, he⟩, ⟨_, hit, rfl, rfl⟩, Nat.succ_ne_self _⟩, fun b hb => ?_, q⟩
    have hb2 : b = s1.heap.objs.size + 1 ∨ b = s1.heap.objs.size := by simpa using hb
    have hle : s1.heap.objs.size ≤ b := by
      rcases hb2 with z | z <;> rw [z]
      · exact Nat.le_succ _
      · exact Nat.le_refl _
    exact I1.fpOk hle (I1.hok.fresh hle)
theorem walk_enT {K : PySem.W.Frag} {a : Addr} {xs : List V} : Walk (IteT K a) xs.length (fun H => SqT K H a xs) (YPair (fun i => some (.int (i : Nat))) (fun i => xs[i]?)) := by
  constructor
  · intro i H hi q
    exact ⟨xs, xs[i], q, by simp [hi]⟩
  · intro H q
    exact ⟨xs, q, Nat.le_refl _⟩
  · rintro i H v H' _ q ⟨T, x, h1, h2, h3, h4⟩
    exact ⟨T, .int (i : Nat), x, h1, h2, h3, rfl, h4 xs q⟩

/-! ### set(a list of ints) -/
section
variable {P : Program} {w : World} {A : Around} {E : Value → Shared → Prop} {s : Shared}
abbrev set0 (w : World) : Obj := { cls := .type "set", dict := none, data := .set #[] 0 (.fresh 0 0 (!w.params.followText "set-order")) }
theorem setL_call {l : Addr} {items : Array Value} (ns : List Int) {Q : Value → Shared → Prop} (hh : A.handled = none) (hl : s.heap.IsList l items) (hit : IntsAre items.toList ns) (hb : ns.length + 1 < scanBound)
    (hq : ∀ (h' : Heap) (tk c : Nat), SetR w h' s.heap.objs.size (fun j => decide (j ∈ ns)) c → c ≤ ns.length → (∀ b o, s.heap.get? b = some o → h'.get? b = some o) →
      Q (.ref s.heap.objs.size) { s with heap := h', toks := tk }) :
    wpAny (model P w) A (call (.type "set") [.ref l]) Q E s := by
  have hisz : items.size = ns.length := by simpa using IntsAre.length hit
  obtain ⟨cm, tl, hmro⟩ := F.called_set.mro
  have hmade := F.called_set.made
  have hsb := F.called_set.sub
  refine wpAny_call (codeAny_of_tree ?_)
  show wpAny _ _ (callAny (.type "set") _) _ _ _
  refine wpAny_pure ⟨Code.quiet_builtin _ (by decide +kernel), ?_⟩
  refine codeAny_builtin F.entry_type_call ?_
  rw [Around.under_plain (weight_type_call_type "set" [.ref l] []) rfl]
  have f1 := F.called_set.notType
  have f2 := F.called_set.canCreate
  have f3 := F.typeCall_set_1 (.ref l)
  repeat (any_goals (first | assumption | wp_step))
  refine codeAny_mono (code_set_led1 (.ref l) (E := E) (Q₁ := fun obj s₁ => obj = .ref s.heap.objs.size ∧ s₁ = { s with heap := s.heap.push (set0 w) }) ⟨rfl, rfl⟩) fun r s₁ hr => ?_
  cases r with
  | error e => exact hr
  | ok fl =>
    cases fl with
    | next => exact hr.elim
    | brk => exact hr.elim
    | cont => exact hr.elim
    | ret obj =>
      obtain ⟨rfl, rfl⟩ := hr
      have hS : (s.heap.push (set0 w)).get? s.heap.objs.size = some (set0 w) := Heap.get?_push_size _ rfl
      have hT : Shared.TypeIs { s with heap := s.heap.push (set0 w) } (.ref s.heap.objs.size) "set" := ⟨_, hS, rfl⟩
      have f4 := F.called_set.init.lookup
      have f5 := F.called_set.init.bind (.ref s.heap.objs.size)
      repeat (any_goals (first | assumption | wp_step))
      refine codeAny_mono (codeAny_call_builtin (R := wants (fun r s₂ => r = .none ∧ ∃ h' tk c, s₂ = { s with heap := h', toks := tk } ∧ SetR w h' s.heap.objs.size (fun j => decide (j ∈ ns)) c ∧
          c ≤ ns.length ∧ ∀ b o, s.heap.get? b = some o → h'.get? b = some o) E) F.called_set.init.plain F.entry_set_init (check_set_init_1 hT ?_)) fun r₂ s₂ hr₂ => ?_
      · obtain ⟨⟨oc, od, odt, osl⟩, hol, hcl, nl, hdl⟩ := hl
        replace hcl : oc = .type "list" := hcl
        replace hdl : odt = .seq items nl := hdl
        subst hcl hdl
        have hol1 : (s.heap.push (set0 w)).get? l = some { cls := .type "list", dict := od, data := .seq items nl, slots := osl } := Heap.get?_push_of_some _ hol
        have f6 := F.sub_list_set
        have f7 := F.sub_list_frozenset
        have hne : (Value.type "list" == Value.type "dict") = false := by decide
        have hl1 : (s.heap.push (set0 w)).IsList l items := ⟨_, hol1, rfl, nl, rfl⟩
        unfold Builtin.«set.__init__» noKeywords Builtin.Frozenset.updateFrom
        generalize hPI : pyIter = PI
        wp_walk
        subst hPI
        refine wpAny_pyIter_list hl1 ?_
        refine wpAny_bind (wpAny_runValue ?_)
        have hlS : l < s.heap.objs.size := Heap.lt_size hol
        have hh3 : A.in1.in1.in1.handled = none := by simp [hh]
        have hsz1 : (s.heap.push (set0 w)).objs.size = s.heap.objs.size + 1 := Heap.size_push ..
        have hneI : l ≠ (s.heap.push (set0 w)).objs.size := by
          rw [hsz1]
          exact Nat.ne_of_lt (Nat.lt_succ_of_lt hlS)
        have hSf : s.heap.objs.size ∉ [(s.heap.push (set0 w)).objs.size, l] := by
          rw [hsz1]
          intro hm
          rcases List.mem_cons.mp hm with z | z
          · exact absurd z (Nat.ne_of_lt (Nat.lt_succ_self _))
          · exact absurd (List.mem_singleton.mp z) (Nat.ne_of_gt hlS)
        have hval : ∀ (i : Nat) (v : Value), items[i]? = some v → ∃ k t, ns[i]? = some k ∧ v = .int k t := fun i v hv => by
          have hi : i < ns.length := by
            rw [← hisz]
            exact (Array.getElem?_eq_some_iff.mp hv).1
          obtain ⟨t, e⟩ := IntsAre.int_at hit i v (by simpa using hv)
          exact ⟨ns[i], t, List.getElem?_eq_getElem hi, by rw [e]; simp [hi]⟩
        refine set_update_ints ((Walks.list hh3 _ l hneI items).toS) s.heap.objs.size hSf ns hisz hb hval (items.size - 0) 0 _ (by omega) (Nat.zero_le _)
          ⟨⟨_, Heap.get?_push_size _ rfl, rfl, rfl⟩, (hl1.push _)⟩ ?hA ?hB
        case hA =>
          have hget := Heap.get?_push_of_some { cls := .type "list_iterator", data := .fields #[.ref l, .int 0 0] } hS
          exact ⟨0, Nat.le_refl 0, setR_new_at hget⟩
        case hB =>
          intro s' c' hm hc' hS'
          obtain ⟨h', g2, d', tk', os'⟩ := s'
          have eg : g2 = s.gens := hm.gens
          have ed : d' = s.drawn := hm.drawn
          have eo : os' = s.os := hm.os
          subst eg ed eo
          show wpAny _ _ _ _ _ _
          refine wpAny_pure ?_
          show wpAny _ _ (ret Value.none) _ _ _
          rw [hisz] at hc'
          refine wpAny_pure ⟨rfl, h', tk', c', rfl, hS', hc', fun b o e => ?_⟩
          have hb0 : b < s.heap.objs.size := Heap.lt_size e
          have hb3 : b ∉ [s.heap.objs.size, (s.heap.push (set0 w)).objs.size] := by
            rw [hsz1]
            intro hm
            rcases List.mem_cons.mp hm with z | z
            · exact absurd z (Nat.ne_of_lt hb0)
            · exact absurd (List.mem_singleton.mp z) (Nat.ne_of_lt (Nat.lt_succ_of_lt hb0))
          exact hm.heap b o hb3 (Heap.get?_push_of_some _ (Heap.get?_push_of_some _ e))
      · cases r₂ with
        | error e => exact hr₂
        | ok fl₂ =>
          cases fl₂ with
          | next => exact hr₂.elim
          | brk => exact hr₂.elim
          | cont => exact hr₂.elim
          | ret r =>
            obtain ⟨rfl, h', tk, c', rfl, hS', hc', hk'⟩ := hr₂
            repeat (any_goals (first | assumption | wp_step))
            exact hq _ _ _ hS' hc' hk'
end
/-- set(xs), xs a list of ints: its members, at most as many as the list is long -/
def rSetOfL (K : PySem.W.Frag) (w : World) : List V → Hp → VK → Prop := fun vs H Q => ∃ (l : Addr) (ns : List Int), vs = [.ref l] ∧ SqL K H l (ns.map V.int) ∧ ns.length ≤ 4000 ∧
  ∀ p n, H p = none → n ≤ ns.length → Q (.ref p) (upd H p (SetO w p (fun j => decide (j ∈ ns)) n))
theorem cr_setL {X : Cx} (hc : X.calm = true) : CallR X (.type "set") (rSetOfL X.K X.w) := by
  intro pins s σ H vs us Q I r h
  obtain ⟨l, ns, rfl, hq, hl, q⟩ := h
  rw [Vals.ref1 r]
  obtain ⟨its, rv, pl, hz⟩ := I.list hq
  have hi := ints_of_vals rv
  refine setL_call ns (I.ok.hd hc) pl.isList (by simpa using hi) (by unfold scanBound; omega) fun h' tk c hS hcn hk => ?_
  have hn : H s.heap.objs.size = none := I.hok.fresh (Nat.le_refl _)
  exact ⟨.ref _, upd H s.heap.objs.size (SetO X.w s.heap.objs.size (fun j => decide (j ∈ ns)) c), I.laid (t' := tk) hk (Nat.le_refl _) (setO_new hS), rfl, q _ _ hn hcn⟩
end L2

set_option maxRecDepth 100000
set_option maxHeartbeats 4000000
/-! data, and what an expression evaluates to in data -/
namespace W1
open PySem L2

inductive D where
  | non | bl (b : Bool) | int (i : Int) | str (s : Str) | tup (xs : List D) | lst (xs : List D) | obj (v : V)

/-- the shape of the law's own hand: it alone changes while others look on -/
def Handy (xs : List V) : Prop := ∃ c p x s n, xs = [.ref c, .int p, .int x, .int s, .int n] ∧ 0 ≤ p ∧ 0 ≤ x
def Le (H H' : Hp) : Prop := ∀ a o, H a = some o → H' a = some o ∨
  ∃ c p x s n p' x' s' n', o = .lst [.ref c, .int p, .int x, .int s, .int n] ∧ H' a = some (.lst [.ref c, .int p', .int x', .int s', .int n']) ∧ 0 ≤ p' ∧ 0 ≤ x'
theorem Le.refl (H : Hp) : Le H H := fun _ _ h => .inl h
theorem Le.trans {H H1 H2 : Hp} (a : Le H H1) (b : Le H1 H2) : Le H H2 := fun x o h => by
  rcases a x o h with h1 | ⟨c, p, q, s, n, p', q', s', n', rfl, h1, u, v⟩
  · exact b x o h1
  · rcases b x _ h1 with h2 | ⟨c2, p2, q2, s2, n2, p3, q3, s3, n3, e, h2, u2, v2⟩
    · exact .inr ⟨c, p, q, s, n, p', q', s', n', rfl, h2, u, v⟩
    · injection e with e
      injection e with e1 e
      injection e1 with e1
      subst e1
      exact .inr ⟨c, p, q, s, n, p3, q3, s3, n3, rfl, h2, u2, v2⟩
theorem Le.ex {H H' : Hp} (e : Evl.Ex H H') : Le H H' := fun a o h => .inl (e a o h)
theorem Le.new {H : Hp} {p : Addr} {o : HO} (h : H p = none) : Le H (upd H p o) := Le.ex (Evl.Ex.new h)
/-- what H does not know may change -/
theorem Le.mut {H H' : Hp} {p : Addr} {o : HO} (e : Le H H') (h : H p = none) : Le H (upd H' p o) := fun a u ha => by
  rw [upd_ne (ne_of_none ha h)]
  exact e a u ha
theorem Le.tup {H H' : Hp} {a : Addr} {xs : List V} (e : Le H H') (h : H a = some (.tup xs)) : H' a = some (.tup xs) := by
  rcases e a _ h with h1 | ⟨_, _, _, _, _, _, _, _, _, z, _⟩
  · exact h1
  · cases z
theorem Le.ins {H H' : Hp} {a C dx : Addr} {fs : List (Str × V)} (e : Le H H') (h : H a = some (.ins C dx fs)) : H' a = some (.ins C dx fs) := by
  rcases e a _ h with h1 | ⟨_, _, _, _, _, _, _, _, _, z, _⟩
  · exact h1
  · cases z
theorem Le.frz {H H' : Hp} {a : Addr} {o : Obj} {u : HO} (e : Le H H') (h : H a = some (.frz o u)) : H' a = some (.frz o u) := by
  rcases e a _ h with h1 | ⟨_, _, _, _, _, _, _, _, _, z, _⟩
  · exact h1
  · cases z
def NotH (xs : List V) : Prop := ∀ c p x s n, xs ≠ [.ref c, .int p, .int x, .int s, .int n]
theorem Le.lst {H H' : Hp} {a : Addr} {xs : List V} (e : Le H H') (h : H a = some (.lst xs)) (n : NotH xs) : H' a = some (.lst xs) := by
  rcases e a _ h with h1 | ⟨c, p, x, s, m, _, _, _, _, z, _⟩
  · exact h1
  · injection z with z
    exact absurd z (n c p x s m)
theorem Le.sqt {K : PySem.W.Frag} {H H' : Hp} {a : Addr} {xs : List V} (e : Le H H') (h : SqT K H a xs) : SqT K H' a xs := by
  rcases h with (h | ⟨o, h⟩) | h
  · exact .inl (.inl (e.tup h))
  · exact .inl (.inr ⟨o, e.frz h⟩)
  · exact .inr h
theorem Le.fresh {H H' : Hp} {p : Addr} (e : Le H H') (h : H' p = none) : H p = none := by
  cases h1 : H p with
  | none => rfl
  | some o =>
    rcases e p o h1 with h2 | ⟨_, _, _, _, _, _, _, _, _, _, h2, _⟩
    · rw [h] at h2
      cases h2
    · rw [h] at h2
      cases h2

/-! ### what stands for data -/
mutual
inductive Rp (K : PySem.W.Frag) (H : Hp) : V → D → Prop
  | non : Rp K H .non .non
  | bl (b : Bool) : Rp K H (.bl b) (.bl b)
  | int (i : Int) : Rp K H (.int i) (.int i)
  | str (x : Str) : Rp K H (.str x) (.str x)
  | obj (v : V) : Rp K H v (.obj v)
  | tup {a : Addr} {xs : List V} {ds : List D} : SqT K H a xs → Rps K H xs ds → Rp K H (.ref a) (.tup ds)
  | lst {a : Addr} {xs : List V} {ds : List D} : H a = some (.lst xs) → NotH xs → Rps K H xs ds → Rp K H (.ref a) (.lst ds)
inductive Rps (K : PySem.W.Frag) (H : Hp) : List V → List D → Prop
  | nil : Rps K H [] []
  | cons {v : V} {vs : List V} {d : D} {ds : List D} : Rp K H v d → Rps K H vs ds → Rps K H (v :: vs) (d :: ds)
end
section
variable {K : PySem.W.Frag} {H H' : Hp}
mutual
theorem Rp.le (e : Le H H') {v : V} {d : D} : Rp K H v d → Rp K H' v d
  | .non => .non
  | .bl b => .bl b
  | .int i => .int i
  | .str x => .str x
  | .obj v => .obj v
  | .tup h r => .tup (e.sqt h) (Rps.le e r)
  | .lst h n r => .lst (e.lst h n) n (Rps.le e r)
theorem Rps.le (e : Le H H') {vs : List V} {ds : List D} : Rps K H vs ds → Rps K H' vs ds
  | .nil => .nil
  | .cons h r => .cons (Rp.le e h) (Rps.le e r)
end
theorem Rps.len : ∀ {vs : List V} {ds : List D}, Rps K H vs ds → vs.length = ds.length
  | _, _, .nil => rfl
  | _, _, .cons _ r => by rw [List.length_cons, List.length_cons, Rps.len r]
theorem Rps.at : ∀ {vs : List V} {ds : List D} {i : Nat} {d : D}, Rps K H vs ds → ds[i]? = some d → ∃ v, vs[i]? = some v ∧ Rp K H v d
  | _, _, _, _, .nil, h => by simp at h
  | _, _, 0, _, .cons h _, e => by
    simp at e
    subst e
    exact ⟨_, rfl, h⟩
  | _, _, i + 1, d, .cons _ r, e => by
    obtain ⟨v, h1, h2⟩ := Rps.at (i := i) (d := d) r (by simpa using e)
    exact ⟨v, by simpa using h1, h2⟩
theorem Rps.at' : ∀ {vs : List V} {ds : List D} {i : Nat} {v : V}, Rps K H vs ds → vs[i]? = some v → ∃ d, ds[i]? = some d ∧ Rp K H v d
  | _, _, _, _, .nil, h => by simp at h
  | _, _, 0, _, .cons h _, e => by
    simp at e
    subst e
    exact ⟨_, rfl, h⟩
  | _, _, i + 1, d, .cons _ r, e => by
    obtain ⟨v, h1, h2⟩ := Rps.at' (i := i) (v := d) r (by simpa using e)
    exact ⟨v, by simpa using h1, h2⟩
theorem Rps.app : ∀ {vs ws : List V} {ds es : List D}, Rps K H vs ds → Rps K H ws es → Rps K H (vs ++ ws) (ds ++ es)
  | _, _, _, _, .nil, s => s
  | _, _, _, _, .cons h r, s => .cons h (Rps.app r s)
theorem Rps.take : ∀ {vs : List V} {ds : List D} (n : Nat), Rps K H vs ds → Rps K H (vs.take n) (ds.take n)
  | _, _, 0, _ => .nil
  | _, _, _ + 1, .nil => .nil
  | _, _, n + 1, .cons h r => .cons h (Rps.take n r)
theorem Rps.drop : ∀ {vs : List V} {ds : List D} (n : Nat), Rps K H vs ds → Rps K H (vs.drop n) (ds.drop n)
  | _, _, 0, r => r
  | _, _, _ + 1, .nil => .nil
  | _, _, n + 1, .cons _ r => Rps.drop n r
theorem Rps.rep {v : V} {d : D} (h : Rp K H v d) : ∀ n : Nat, Rps K H (List.replicate n v) (List.replicate n d)
  | 0 => .nil
  | n + 1 => .cons h (Rps.rep h n)
theorem Rps.flat {vs : List V} {ds : List D} (h : Rps K H vs ds) : ∀ n : Nat, Rps K H (List.replicate n vs).flatten (List.replicate n ds).flatten
  | 0 => .nil
  | n + 1 => by
    rw [List.replicate_succ, List.replicate_succ, List.flatten_cons, List.flatten_cons]
    exact h.app (Rps.flat h n)
theorem Rps.set : ∀ {vs : List V} {ds : List D} {v : V} {d : D} (i : Nat), Rps K H vs ds → Rp K H v d → Rps K H (vs.set i v) (ds.set i d)
  | _, _, _, _, _, .nil, _ => .nil
  | _, _, _, _, 0, .cons _ r, h => .cons h r
  | _, _, _, _, i + 1, .cons g r, h => .cons g (Rps.set i r h)
theorem rps_ints : ∀ ns : List Int, Rps K H (ns.map V.int) (ns.map D.int)
  | [] => .nil
  | n :: ns => .cons (.int n) (rps_ints ns)
theorem ints_rps : ∀ {ns : List Int} {vs : List V}, Rps K H vs (ns.map D.int) → vs = ns.map V.int
  | [], _, h => by
    cases h
    rfl
  | n :: ns, _, h => by
    cases h with
    | cons a r =>
      cases a
      rw [ints_rps r]
      rfl
theorem rps_bls : ∀ bs : List Bool, Rps K H (bs.map V.bl) (bs.map D.bl)
  | [] => .nil
  | b :: bs => .cons (.bl b) (rps_bls bs)
theorem bls_rps : ∀ {bs : List Bool} {vs : List V}, Rps K H vs (bs.map D.bl) → vs = bs.map V.bl
  | [], _, h => by
    cases h
    rfl
  | b :: bs, _, h => by
    cases h with
    | cons a r =>
      cases a
      rw [bls_rps r]
      rfl
end
theorem notH_len {xs : List V} (h : xs.length ≠ 5) : NotH xs := fun c p x s n e => h (by rw [e]; rfl)
theorem notH_int {x : Int} {xs : List V} : NotH (.int x :: xs) := fun _ _ _ _ _ e => by injection e with e _; cases e
theorem notH_ints (ns : List Int) : NotH (ns.map V.int) := by
  cases ns with
  | nil => exact notH_len (by decide)
  | cons n ns => exact notH_int
theorem notH_bls (bs : List Bool) : NotH (bs.map V.bl) := fun c p x s n e => by
  cases bs with
  | nil => cases e
  | cons b bs =>
    injection e with e _
    cases e
/-- items that are all references, or none an int behind the first -/
theorem notH_of {xs : List V} (h : ∀ v, xs[1]? = some v → ∀ i, v ≠ .int i) : NotH xs := fun c p x s n e => by
  subst e
  exact h (.int p) rfl p rfl

/-! ### evaluation -/
abbrev Pd := D → Hp → Prop
/-- e evaluates to something that stands for data of which P holds -/
def EP (K : PySem.W.Frag) (te : TE) (σ : L2.St) (H : Hp) (P : Pd) : Prop := ∀ H1, Le H H1 → ∀ Q : VK, (∀ v d H2, Le H1 H2 → P d H2 → Rp K H2 v d → Q v H2) → te σ H1 Q
abbrev is (d : D) : Pd := fun x _ => x = d
abbrev ED (K : PySem.W.Frag) (te : TE) (σ : L2.St) (H : Hp) (d : D) : Prop := EP K te σ H (is d)
def EA (K : PySem.W.Frag) (ta : TA) (σ : L2.St) (H : Hp) (P : List D → Hp → Prop) : Prop := ∀ H1, Le H H1 → ∀ Q : List V → Hp → Prop, (∀ vs ds H2, Le H1 H2 → P ds H2 → Rps K H2 vs ds → Q vs H2) → ta σ H1 Q
abbrev EDA (K : PySem.W.Frag) (ta : TA) (σ : L2.St) (H : Hp) (ds : List D) : Prop := EA K ta σ H fun x _ => x = ds
def ET (tt : TT) (σ : L2.St) (H : Hp) (P : Bool → Prop) : Prop := ∀ H1, Le H H1 → ∀ Q : Bool → Hp → Prop, (∀ b H2, Le H1 H2 → P b → Q b H2) → tt σ H1 Q
abbrev EB (tt : TT) (σ : L2.St) (H : Hp) (b : Bool) : Prop := ET tt σ H fun x => x = b
def EO (to : TO) (σ : L2.St) (H : Hp) (o : Option Int) : Prop := ∀ H1, Le H H1 → ∀ Q : Option Int → Hp → Prop, (∀ H2, Le H1 H2 → Q o H2) → to σ H1 Q

section
variable {K : PySem.W.Frag} {σ : L2.St} {H H' : Hp} {ta tb tc te : TE} {t u : TT} {x y z v : V} {d d1 d2 d3 : D} {P P1 P2 P3 : Pd}
theorem EP.le (e : Le H H') (h : EP K te σ H P) : EP K te σ H' P := fun H1 a Q q => h H1 (e.trans a) Q q
theorem EA.le {ta : TA} {P : List D → Hp → Prop} (e : Le H H') (h : EA K ta σ H P) : EA K ta σ H' P := fun H1 a Q q => h H1 (e.trans a) Q q
theorem ET.le {P : Bool → Prop} (e : Le H H') (h : ET t σ H P) : ET t σ H' P := fun H1 a Q q => h H1 (e.trans a) Q q
theorem EP.weak (h : EP K te σ H P) (w : ∀ d H2, Le H H2 → P d H2 → P1 d H2) : EP K te σ H P1 := fun H1 a Q q => h H1 a Q fun v d H2 b p r => q v d H2 b (w d H2 (a.trans b) p) r
theorem ed_eq (h : ED K te σ H d) (e : d = d1) : ED K te σ H d1 := e ▸ h
theorem eb_eq {a b : Bool} (h : EB t σ H a) (e : a = b) : EB t σ H b := e ▸ h
/-- then: what comes behind may lean on what was found -/
theorem ed_var {i : Nat} (h : σ[i]? = some (some v)) (r : Rp K H v d) : ED K (tVar i) σ H d := fun H1 e Q q => ⟨v, h, q v d H1 (Le.refl _) rfl (r.le e)⟩
theorem ed_int {i : Int} : ED K (tC (.int i)) σ H (.int i) := fun H1 _ Q q => q _ _ H1 (Le.refl _) rfl (.int i)
theorem ed_bl {b : Bool} : ED K (tC (.bl b)) σ H (.bl b) := fun H1 _ Q q => q _ _ H1 (Le.refl _) rfl (.bl b)
theorem ed_str {s : Str} : ED K (tC (.str s)) σ H (.str s) := fun H1 _ Q q => q _ _ H1 (Le.refl _) rfl (.str s)
theorem ed_non : ED K (tC .non) σ H .non := fun H1 _ Q q => q _ _ H1 (Le.refl _) rfl .non
theorem ed_obj : ED K (tC v) σ H (.obj v) := fun H1 _ Q q => q _ _ H1 (Le.refl _) rfl (.obj v)
/-- two operands -/
theorem ep_op {r : R2} (ha : EP K ta σ H P1) (hb : EP K tb σ H P2)
    (hr : ∀ x y d1 d2 H1 H2, Le H H1 → Le H1 H2 → P1 d1 H1 → P2 d2 H2 → Rp K H2 x d1 → Rp K H2 y d2 → ∀ Q : VK, (∀ v d H3, Le H2 H3 → P d H3 → Rp K H3 v d → Q v H3) → r x y H2 Q) : EP K (tOp r ta tb) σ H P := fun H1 e Q q =>
  ha H1 e _ fun x d1 H2 e2 p1 r1 => hb H2 (e.trans e2) _ fun y d2 H3 e3 p2 r2 =>
    hr x y d1 d2 H2 H3 (e.trans e2) e3 p1 p2 (r1.le e3) r2 Q fun v d H4 e4 p r => q v d H4 ((e2.trans e3).trans e4) p r
theorem ed_op {r : R2} (ha : ED K ta σ H d1) (hb : ED K tb σ H d2)
    (hr : ∀ x y H2, Le H H2 → Rp K H2 x d1 → Rp K H2 y d2 → ∀ Q : VK, (∀ v d H3, Le H2 H3 → P d H3 → Rp K H3 v d → Q v H3) → r x y H2 Q) : EP K (tOp r ta tb) σ H P :=
  ep_op ha hb fun x y e1 e2 H1 H2 a b p1 p2 r1 r2 => by
    subst p1 p2
    exact hr x y H2 (a.trans b) r1 r2
theorem ed_un {r : V → Hp → VK → Prop} (ha : ED K ta σ H d1)
    (hr : ∀ x H2, Le H H2 → Rp K H2 x d1 → ∀ Q : VK, (∀ v d H3, Le H2 H3 → P d H3 → Rp K H3 v d → Q v H3) → r x H2 Q) : EP K (tUn r ta) σ H P := fun H1 e Q q =>
  ha H1 e _ fun x e1 H2 e2 p1 r1 => by
    have p2 : e1 = d1 := p1
    subst p2
    exact hr x H2 (e.trans e2) r1 Q fun v d H4 e4 p r => q v d H4 (e2.trans e4) p r
theorem rp_int {i : Int} (r : Rp K H v (.int i)) : v = .int i := by
  cases r
  rfl
theorem rp_bl {b : Bool} (r : Rp K H v (.bl b)) : v = .bl b := by
  cases r
  rfl
theorem rp_str {s : Str} (r : Rp K H v (.str s)) : v = .str s := by
  cases r
  rfl
theorem rp_non (r : Rp K H v .non) : v = .non := by
  cases r
  rfl
theorem rp_obj {w : V} (r : Rp K H v (.obj w)) : v = w := by
  cases r
  rfl
/-- two ints -/
theorem ep_I0 {g : Int → Int → V} (ha : EP K ta σ H P1) (hb : EP K tb σ H P2)
    (h : ∀ d1 d2 H1 H2, Le H H1 → Le H1 H2 → P1 d1 H1 → P2 d2 H2 → ∃ i j, d1 = .int i ∧ d2 = .int j ∧ ∃ d, P d H2 ∧ Rp K H2 (g i j) d) : EP K (tOp (rI0 g) ta tb) σ H P :=
  ep_op ha hb fun x y d1 d2 H1 H2 a b p1 p2 r1 r2 Q q => by
    obtain ⟨i, j, rfl, rfl, d, p, r⟩ := h d1 d2 H1 H2 a b p1 p2
    exact ⟨i, j, rp_int r1, rp_int r2, q _ d H2 (Le.refl _) p r⟩
theorem ep_I {C : Int → Int → Prop} {g : Int → Int → V} (ha : EP K ta σ H P1) (hb : EP K tb σ H P2)
    (h : ∀ d1 d2 H1 H2, Le H H1 → Le H1 H2 → P1 d1 H1 → P2 d2 H2 → ∃ i j, d1 = .int i ∧ d2 = .int j ∧ C i j ∧ ∃ d, P d H2 ∧ Rp K H2 (g i j) d) : EP K (tOp (rI C g) ta tb) σ H P :=
  ep_op ha hb fun x y d1 d2 H1 H2 a b p1 p2 r1 r2 Q q => by
    obtain ⟨i, j, rfl, rfl, c, d, p, r⟩ := h d1 d2 H1 H2 a b p1 p2
    exact ⟨i, j, rp_int r1, rp_int r2, c, q _ d H2 (Le.refl _) p r⟩
theorem ed_I0 {f : Int → Int → Int} {i j : Int} (ha : ED K ta σ H (.int i)) (hb : ED K tb σ H (.int j)) : ED K (tOp (rI0 fun i j => .int (f i j)) ta tb) σ H (.int (f i j)) :=
  ep_I0 ha hb fun d1 d2 H1 H2 _ _ p1 p2 => ⟨i, j, p1, p2, _, rfl, .int _⟩
theorem ed_B0 {f : Int → Int → Bool} {i j : Int} (ha : ED K ta σ H (.int i)) (hb : ED K tb σ H (.int j)) : ED K (tOp (rI0 fun i j => .bl (f i j)) ta tb) σ H (.bl (f i j)) :=
  ep_I0 ha hb fun d1 d2 H1 H2 _ _ p1 p2 => ⟨i, j, p1, p2, _, rfl, .bl _⟩
theorem ed_I {C : Int → Int → Prop} {f : Int → Int → Int} {i j : Int} (ha : ED K ta σ H (.int i)) (hb : ED K tb σ H (.int j)) (c : C i j) : ED K (tOp (rI C fun i j => .int (f i j)) ta tb) σ H (.int (f i j)) :=
  ep_I ha hb fun d1 d2 H1 H2 _ _ p1 p2 => ⟨i, j, p1, p2, c, _, rfl, .int _⟩
theorem ed_neg {i : Int} (ha : ED K ta σ H (.int i)) : ED K (tUn (rU fun i => .int (-i)) ta) σ H (.int (-i)) :=
  ed_un ha fun x H2 _ r Q q => ⟨i, rp_int r, q _ _ H2 (Le.refl _) rfl (.int _)⟩
/-- flat data: equal just if equal -/
def vOf : D → V
  | .non => .non
  | .bl b => .bl b
  | .int i => .int i
  | .str s => .str s
  | .obj v => v
  | _ => .non
def flat : D → Bool
  | .tup _ => false
  | .lst _ => false
  | _ => true
theorem rp_flat (h : flat d = true) (r : Rp K H v d) : v = vOf d := by
  cases r <;> first | rfl | cases h
theorem flat_rp (h : flat d = true) : Rp K H (vOf d) d := by
  cases d with
  | non => exact .non
  | bl b => exact .bl b
  | int i => exact .int i
  | str s => exact .str s
  | obj v => exact .obj v
  | tup xs => cases h
  | lst xs => cases h
theorem ed_eqS (ha : ED K ta σ H d1) (hb : ED K tb σ H d2) (f1 : flat d1 = true) (f2 : flat d2 = true) (hs : scal (vOf d1) (vOf d2) = true) : ED K (tOp rEq ta tb) σ H (.bl (decide (vOf d1 = vOf d2))) :=
  ed_op ha hb fun x y H2 _ r1 r2 Q q => by
    rw [rp_flat f1 r1, rp_flat f2 r2]
    exact ⟨hs, q _ _ H2 (Le.refl _) rfl (.bl _)⟩
theorem ed_neS (ha : ED K ta σ H d1) (hb : ED K tb σ H d2) (f1 : flat d1 = true) (f2 : flat d2 = true) (hs : scal (vOf d1) (vOf d2) = true) : ED K (tOp rNe ta tb) σ H (.bl (!decide (vOf d1 = vOf d2))) :=
  ed_op ha hb fun x y H2 _ r1 r2 Q q => by
    rw [rp_flat f1 r1, rp_flat f2 r2]
    exact ⟨hs, q _ _ H2 (Le.refl _) rfl (.bl _)⟩
theorem ed_isN (ha : ED K ta σ H d1) (n : ∀ v, d1 ≠ .obj v) : ED K (tOp (fun x y H Q => y = .non ∧ Q (.bl (decide (x = .non))) H) ta (tC .non)) σ H (.bl (match d1 with | .non => true | _ => false)) :=
  ed_op ha ed_non fun x y H2 _ r1 r2 Q q => by
    refine ⟨rp_non r2, ?_⟩
    cases r1 with
    | obj v => exact absurd rfl (n x)
    | _ => exact q _ _ H2 (Le.refl _) rfl (.bl _)
theorem ed_notN (ha : ED K ta σ H d1) (n : ∀ v, d1 ≠ .obj v) : ED K (tOp (fun x y H Q => y = .non ∧ Q (.bl (!decide (x = .non))) H) ta (tC .non)) σ H (.bl (match d1 with | .non => false | _ => true)) :=
  ed_op ha ed_non fun x y H2 _ r1 r2 Q q => by
    refine ⟨rp_non r2, ?_⟩
    cases r1 with
    | obj v => exact absurd rfl (n x)
    | _ => exact q _ _ H2 (Le.refl _) rfl (.bl _)
/-! tuples and lists -/
theorem rp_tup {ds : List D} (r : Rp K H v (.tup ds)) : ∃ a xs, v = .ref a ∧ SqT K H a xs ∧ Rps K H xs ds := by
  cases r with
  | tup h r => exact ⟨_, _, rfl, h, r⟩
theorem rp_lst {ds : List D} (r : Rp K H v (.lst ds)) : ∃ a xs, v = .ref a ∧ H a = some (.lst xs) ∧ NotH xs ∧ Rps K H xs ds := by
  cases r with
  | lst h n r => exact ⟨_, _, rfl, h, n, r⟩
theorem atI_rps {xs : List V} {ds : List D} {i : Int} (r : Rps K H xs ds) (h : 0 ≤ i) (e : ds[i.toNat]? = some d) : ∃ v, atI xs i = some v ∧ Rp K H v d := by
  obtain ⟨v, h1, h2⟩ := r.at e
  have ei : i = (i.toNat : Int) := by omega
  rw [ei]
  exact ⟨v, atI_nat h1, h2⟩
theorem ed_ixT {ds : List D} {i : Int} (ha : ED K ta σ H (.tup ds)) (hb : ED K tb σ H (.int i)) (h : 0 ≤ i) (e : ds[i.toNat]? = some d) : ED K (tOp (rIxT K) ta tb) σ H d :=
  ed_op ha hb fun x y H2 _ r1 r2 Q q => by
    obtain ⟨a, xs, rfl, s, r⟩ := rp_tup r1
    obtain ⟨v, h1, h2⟩ := atI_rps r h e
    exact ⟨a, xs, i, v, rfl, rp_int r2, s, h1, q v d H2 (Le.refl _) rfl h2⟩
theorem ed_ixL {ds : List D} {i : Int} (ha : ED K ta σ H (.lst ds)) (hb : ED K tb σ H (.int i)) (h : 0 ≤ i) (e : ds[i.toNat]? = some d) : ED K (tOp (rIxL K) ta tb) σ H d :=
  ed_op ha hb fun x y H2 _ r1 r2 Q q => by
    obtain ⟨a, xs, rfl, s, _, r⟩ := rp_lst r1
    obtain ⟨v, h1, h2⟩ := atI_rps r h e
    exact ⟨a, xs, i, v, rfl, rp_int r2, SqL.of s, h1, q v d H2 (Le.refl _) rfl h2⟩
theorem ea_nil : EDA K tNil σ H [] := fun H1 _ Q q => q [] [] H1 (Le.refl _) rfl .nil
theorem ep_cons {tr : TA} {PA : List D → Hp → Prop} (h : EP K ta σ H P) (hr : EA K tr σ H PA) : EA K (tCons ta tr) σ H (fun ds H2 => ∃ d r H1, ds = d :: r ∧ Le H1 H2 ∧ P d H1 ∧ PA r H2) := fun H1 e Q q =>
  h H1 e _ fun x d H2 e2 p r => hr H2 (e.trans e2) _ fun xs ds H3 e3 p3 r3 => q _ (d :: ds) H3 (e2.trans e3) ⟨d, ds, H2, rfl, e3, p, p3⟩ (.cons (r.le e3) r3)
theorem ea_cons {tr : TA} {ds : List D} (h : ED K ta σ H d) (hr : EDA K tr σ H ds) : EDA K (tCons ta tr) σ H (d :: ds) := fun H1 e Q q =>
  h H1 e _ fun x d' H2 e2 p r => hr H2 (e.trans e2) _ fun xs ds' H3 e3 p3 r3 => q _ (d' :: ds') H3 (e2.trans e3) (by rw [show d' = d from p, show ds' = ds from p3]) (.cons (r.le e3) r3)
theorem ep_tup {ta : TA} {PA : List D → Hp → Prop} (h : EA K ta σ H PA) (hl : ∀ ds H2, PA ds H2 → ds.length ≤ 100000) (hP : ∀ ds H2, PA ds H2 → ∀ H3, Le H2 H3 → P (.tup ds) H3) : EP K (tTup ta) σ H P := fun H1 e Q q =>
  h H1 e _ fun xs ds H2 e2 p r => ⟨by rw [r.len]; exact Evl.sz_of (hl ds H2 p), fun a na => q _ (.tup ds) _ (e2.trans (Le.new na)) (hP ds H2 p _ (Le.new na)) (.tup (Evl.st_of upd_same) (r.le (Le.new na)))⟩
theorem ed_tup {ta : TA} {ds : List D} (h : EDA K ta σ H ds) (hl : ds.length ≤ 100000) : ED K (tTup ta) σ H (.tup ds) :=
  ep_tup h (fun ds' H2 p => by rw [show ds' = ds from p]; exact hl) fun ds' H2 p H3 _ => by rw [show ds' = ds from p]
theorem ep_lst {ta : TA} {PA : List D → Hp → Prop} (h : EA K ta σ H PA) (hl : ∀ ds H2, PA ds H2 → ds.length ≤ 100000) (hn : ∀ ds H2 xs, PA ds H2 → Rps K H2 xs ds → NotH xs) (hP : ∀ ds H2, PA ds H2 → ∀ H3, Le H2 H3 → P (.lst ds) H3) : EP K (tLst ta) σ H P := fun H1 e Q q =>
  h H1 e _ fun xs ds H2 e2 p r => ⟨by rw [r.len]; exact Evl.sz_of (hl ds H2 p), fun a na => q _ (.lst ds) _ (e2.trans (Le.new na)) (hP ds H2 p _ (Le.new na)) (.lst upd_same (hn ds H2 xs p r) (r.le (Le.new na)))⟩
/-- what data can't be a hand -/
def calmL : List D → Bool
  | [.obj _, .int _, .int _, .int _, .int _] => false
  | [.tup _, .int _, .int _, .int _, .int _] => false
  | [.lst _, .int _, .int _, .int _, .int _] => false
  | [_, .obj _, _, _, _] => false
  | [_, _, .obj _, _, _] => false
  | [_, _, _, .obj _, _] => false
  | [_, _, _, _, .obj _] => false
  | _ => true
theorem calm_notH {xs : List V} {ds : List D} (h : calmL ds = true) (r : Rps K H xs ds) : NotH xs := fun c p x s n e => by
  subst e
  cases r with
  | cons r1 r =>
    cases r with
    | cons r2 r =>
      cases r with
      | cons r3 r =>
        cases r with
        | cons r4 r =>
          cases r with
          | cons r5 r =>
            cases r
            cases r2 <;> cases r3 <;> cases r4 <;> cases r5 <;> cases r1 <;> cases h
theorem ed_lst {ta : TA} {ds : List D} (h : EDA K ta σ H ds) (hl : ds.length ≤ 100000) (hc : calmL ds = true) : ED K (tLst ta) σ H (.lst ds) :=
  ep_lst h (fun ds' H2 p => by rw [show ds' = ds from p]; exact hl) (fun ds' H2 xs p r => by rw [show ds' = ds from p] at r; exact calm_notH hc r) fun ds' H2 p H3 _ => by rw [show ds' = ds from p]
theorem ed_lenT {ds : List D} (ha : ED K ta σ H (.tup ds)) : ED K (tCB (fun xs H Q => ∃ p ys, xs = [.ref p] ∧ (SqL K H p ys ∨ SqT K H p ys) ∧ Q (.int ys.length) H) (tCons ta tNil)) σ H (.int (ds.length : Int)) := fun H1 e Q q =>
  ha H1 e _ fun x d H2 e2 p r => by
    have p' : d = .tup ds := p
    subst p'
    obtain ⟨a, xs, rfl, s, r'⟩ := rp_tup r
    exact ⟨a, xs, rfl, .inr s, q _ _ H2 e2 (by rw [r'.len]) (.int _)⟩
theorem ed_lenL {ds : List D} (ha : ED K ta σ H (.lst ds)) : ED K (tCB (fun xs H Q => ∃ p ys, xs = [.ref p] ∧ (SqL K H p ys ∨ SqT K H p ys) ∧ Q (.int ys.length) H) (tCons ta tNil)) σ H (.int (ds.length : Int)) := fun H1 e Q q =>
  ha H1 e _ fun x d H2 e2 p r => by
    have p' : d = .lst ds := p
    subst p'
    obtain ⟨a, xs, rfl, s, _, r'⟩ := rp_lst r
    exact ⟨a, xs, rfl, .inl (SqL.of s), q _ _ H2 e2 (by rw [r'.len]) (.int _)⟩
/-! tests -/
theorem et_test {b : Bool} (h : ED K te σ H (.bl b)) : EB (tTest te) σ H b := fun H1 e Q q => h H1 e _ fun v d H2 e2 p r => by
  have p' : d = .bl b := p
  subst p'
  exact ⟨b, rp_bl r, q b H2 e2 rfl⟩
theorem et_B {b : Bool} (h : ED K te σ H (.bl b)) : EB (tB te) σ H b := fun H1 e Q q => h H1 e _ fun v d H2 e2 p r => by
  have p' : d = .bl b := p
  subst p'
  exact ⟨b, rp_bl r, q b H2 e2 rfl⟩
theorem et_Bp (h : EP K te σ H fun d _ => ∃ b, d = .bl b) : ET (tB te) σ H fun _ => True := fun H1 e Q q => h H1 e _ fun v d H2 e2 p r => by
  obtain ⟨b, rfl⟩ := p
  exact ⟨b, rp_bl r, q b H2 e2 trivial⟩
theorem et_testp (h : EP K te σ H fun d _ => ∃ b, d = .bl b) : ET (tTest te) σ H fun _ => True := fun H1 e Q q => h H1 e _ fun v d H2 e2 p r => by
  obtain ⟨b, rfl⟩ := p
  exact ⟨b, rp_bl r, q b H2 e2 trivial⟩
theorem eb_and {a b : Bool} (h1 : EB t σ H a) (h2 : a = true → EB u σ H b) : EB (tAnd t u) σ H (a && b) := fun H1 e Q q => h1 H1 e _ fun x H2 e2 p => by
  subst p
  cases x with
  | true =>
    show u σ H2 Q
    exact h2 rfl H2 (e.trans e2) Q fun y H3 e3 p3 => q y H3 (e2.trans e3) p3
  | false =>
    show Q false H2
    exact q false H2 e2 rfl
theorem eb_or {a b : Bool} (h1 : EB t σ H a) (h2 : a = false → EB u σ H b) : EB (tOr t u) σ H (a || b) := fun H1 e Q q => h1 H1 e _ fun x H2 e2 p => by
  subst p
  cases x with
  | true =>
    show Q true H2
    exact q true H2 e2 rfl
  | false =>
    show u σ H2 Q
    exact h2 rfl H2 (e.trans e2) Q fun y H3 e3 p3 => q y H3 (e2.trans e3) p3
theorem et_and {P1 P2 : Bool → Prop} (h1 : ET t σ H P1) (h2 : P1 true → ET u σ H P2) : ET (tAnd t u) σ H (fun b => (b = true ∧ P1 true ∧ P2 true) ∨ (b = false ∧ (P1 false ∨ P1 true ∧ P2 false))) := fun H1 e Q q => h1 H1 e _ fun x H2 e2 p => by
  cases x with
  | true =>
    show u σ H2 Q
    refine h2 p H2 (e.trans e2) Q fun y H3 e3 p3 => q y H3 (e2.trans e3) ?_
    cases y with
    | true => exact .inl ⟨rfl, p, p3⟩
    | false => exact .inr ⟨rfl, .inr ⟨p, p3⟩⟩
  | false =>
    show Q false H2
    exact q false H2 e2 (.inr ⟨rfl, .inl p⟩)
theorem et_weak {P1 P2 : Bool → Prop} (h : ET t σ H P1) (w : ∀ b, P1 b → P2 b) : ET t σ H P2 := fun H1 e Q q => h H1 e Q fun b H2 e2 p => q b H2 e2 (w b p)
theorem eb_not {a : Bool} (h : EB t σ H a) : EB (tNot t) σ H (!a) := fun H1 e Q q => h H1 e _ fun x H2 e2 p => q (!x) H2 e2 (by rw [p])
theorem ed_andV {a b : Bool} (h1 : ED K ta σ H (.bl a)) (h2 : a = true → ED K tb σ H (.bl b)) : ED K (tAndV ta tb) σ H (.bl (a && b)) := fun H1 e Q q => h1 H1 e _ fun v d H2 e2 p r => by
  have p' : d = .bl a := p
  subst p'
  refine ⟨a, rp_bl r, ?_⟩
  cases a with
  | true =>
    show tb σ H2 Q
    exact h2 rfl H2 (e.trans e2) Q fun v d H3 e3 p3 r3 => q v d H3 (e2.trans e3) p3 r3
  | false =>
    show Q (.bl false) H2
    exact q _ _ H2 e2 rfl (.bl false)
theorem ed_orV {a b : Bool} (h1 : ED K ta σ H (.bl a)) (h2 : a = false → ED K tb σ H (.bl b)) : ED K (tOrV ta tb) σ H (.bl (a || b)) := fun H1 e Q q => h1 H1 e _ fun v d H2 e2 p r => by
  have p' : d = .bl a := p
  subst p'
  refine ⟨a, rp_bl r, ?_⟩
  cases a with
  | true =>
    show Q (.bl true) H2
    exact q _ _ H2 e2 rfl (.bl true)
  | false =>
    show tb σ H2 Q
    exact h2 rfl H2 (e.trans e2) Q fun v d H3 e3 p3 r3 => q v d H3 (e2.trans e3) p3 r3
theorem ed_notV {a : Bool} (h : ED K ta σ H (.bl a)) : ED K (tNotV ta) σ H (.bl (!a)) := fun H1 e Q q => h H1 e _ fun v d H2 e2 p r => by
  have p' : d = .bl a := p
  subst p'
  exact ⟨a, rp_bl r, q _ _ H2 e2 rfl (.bl _)⟩
theorem ep_if {b : Bool} (h : EB t σ H b) (h1 : b = true → EP K ta σ H P) (h2 : b = false → EP K tb σ H P) : EP K (tIf t ta tb) σ H P := fun H1 e Q q => h H1 e _ fun x H2 e2 p => by
  subst p
  cases x with
  | true =>
    show ta σ H2 Q
    exact h1 rfl H2 (e.trans e2) Q fun v d H3 e3 p3 r3 => q v d H3 (e2.trans e3) p3 r3
  | false =>
    show tb σ H2 Q
    exact h2 rfl H2 (e.trans e2) Q fun v d H3 e3 p3 r3 => q v d H3 (e2.trans e3) p3 r3
/-- a <= b <= c, and the like -/
theorem ed_chain {f g : Int → Int → Bool} {i j k : Int} (ha : ED K ta σ H (.int i)) (hb : ED K tb σ H (.int j)) (hc : ED K tc σ H (.int k)) :
    ED K (tChain (rI0 fun i j => .bl (f i j)) (rI0 fun i j => .bl (g i j)) ta tb tc) σ H (.bl (f i j && g j k)) := fun H1 e Q q =>
  ha H1 e _ fun x d1 H2 e2 p1 r1 => hb H2 (e.trans e2) _ fun y d2 H3 e3 p2 r2 => by
    have p1' : d1 = .int i := p1
    have p2' : d2 = .int j := p2
    subst p1' p2'
    refine ⟨i, j, rp_int r1, rp_int r2, f i j, rfl, ?_⟩
    cases hf : f i j with
    | true =>
      show tc σ H3 _
      refine hc H3 ((e.trans e2).trans e3) _ fun z d3 H4 e4 p3 r3 => ?_
      have p3' : d3 = .int k := p3
      subst p3'
      exact ⟨j, k, rp_int r2, rp_int r3, q (.bl (g j k)) (.bl (g j k)) H4 ((e2.trans e3).trans e4) (by show D.bl _ = D.bl _; rw [hf, Bool.true_and]) (.bl _)⟩
    | false =>
      show Q (.bl false) H3
      exact q (.bl false) (.bl false) H3 (e2.trans e3) (by show D.bl _ = D.bl _; rw [hf, Bool.false_and]) (.bl false)
/-! calls -/
/-- a promise told in data: R args heap P says that the answer's data has P -/
def spD (K : PySem.W.Frag) (R : List D → Hp → Pd → Prop) : Sp := fun vs H Q _ => ∃ ds P, Rps K H vs ds ∧ R ds H P ∧ ∀ v d H2, Le H H2 → P d H2 → Rp K H2 v d → Q v H2
theorem ep_call {R : List D → Hp → Pd → Prop} {E : XK} {ta : TA} {PA : List D → Hp → Prop} (h : EA K ta σ H PA) (hr : ∀ ds H2, Le H H2 → PA ds H2 → ∃ P1, R ds H2 P1 ∧ ∀ d H3, Le H2 H3 → P1 d H3 → P d H3) : EP K (tCall (spD K R) [] E ta) σ H P := fun H1 e Q q =>
  h H1 e _ fun vs ds H2 e2 p r => by
    obtain ⟨P1, h1, w⟩ := hr ds H2 (e.trans e2) p
    exact ⟨ds, P1, by rw [List.append_nil]; exact r, h1, fun v d H3 e3 p3 r3 => q v d H3 (e2.trans e3) (w d H3 e3 p3) r3⟩
theorem ed_call {R : List D → Hp → Pd → Prop} {E : XK} {ta : TA} {ds : List D} (h : EDA K ta σ H ds) (hr : ∀ H2, Le H H2 → R ds H2 P) : EP K (tCall (spD K R) [] E ta) σ H P :=
  ep_call h fun ds' H2 e p => by
    have p' : ds' = ds := p
    subst p'
    exact ⟨P, hr H2 e, fun _ _ _ x => x⟩
end
end W1

set_option maxRecDepth 100000
set_option maxHeartbeats 4000000
/-! statements, loops, comprehensions, built-ins in data -/
namespace W1
open PySem L2

/-- no list within -/
inductive NoL : D → Prop
  | non : NoL .non
  | bl (b : Bool) : NoL (.bl b)
  | int (i : Int) : NoL (.int i)
  | str (s : Str) : NoL (.str s)
  | obj (v : V) : NoL (.obj v)
  | tup {ds : List D} : (∀ d ∈ ds, NoL d) → NoL (.tup ds)
section
variable {K : PySem.W.Frag} {H H' : Hp}
theorem sqt_upd {a l : Addr} {xs : List V} {o : HO} (hl : ∀ ys, H l ≠ some (.tup ys)) (hz : ∀ ob u, H l ≠ some (.frz ob u)) (h : SqT K H a xs) : SqT K (upd H l o) a xs := by
  rcases h with (h | ⟨ob, h⟩) | h
  · have n : a ≠ l := fun e => hl xs (e ▸ h)
    exact .inl (.inl (by rw [upd_ne n]; exact h))
  · have n : a ≠ l := fun e => hz ob _ (e ▸ h)
    exact .inl (.inr ⟨ob, by rw [upd_ne n]; exact h⟩)
  · exact .inr h
mutual
/-- a list changes: what holds no list stands -/
theorem Rp.upd {l : Addr} {ys : List V} {o : HO} (hl : H l = some (.lst ys)) {v : V} {d : D} (n : NoL d) : Rp K H v d → Rp K (L2.upd H l o) v d
  | .non => .non
  | .bl b => .bl b
  | .int i => .int i
  | .str x => .str x
  | .obj v => .obj v
  | .tup h r => .tup (sqt_upd (fun ys e => by rw [hl] at e; cases e) (fun ob u e => by rw [hl] at e; cases e) h) (Rps.upd hl (by cases n with | tup n => exact n) r)
  | .lst h _ r => nomatch n
theorem Rps.upd {l : Addr} {ys : List V} {o : HO} (hl : H l = some (.lst ys)) {vs : List V} {ds : List D} (n : ∀ d ∈ ds, NoL d) : Rps K H vs ds → Rps K (L2.upd H l o) vs ds
  | .nil => .nil
  | .cons h r => .cons (Rp.upd hl (n _ (List.mem_cons_self ..)) h) (Rps.upd hl (fun d hd => n d (List.mem_cons_of_mem _ hd)) r)
end
/-- data whose lists can't be a hand: all ints, or no int at all -/
def Uni (ds : List D) : Prop := (∀ d ∈ ds, ∃ i, d = .int i) ∨ ∀ d ∈ ds, (∀ i, d ≠ .int i) ∧ ∀ v, d ≠ .obj v
theorem Uni.notH {ds : List D} {vs : List V} (u : Uni ds) (r : Rps K H vs ds) : NotH vs := fun c p x s n e => by
  subst e
  cases r with
  | @cons _ _ d1 ds1 r1 r =>
    cases r with
    | @cons _ _ d2 ds2 r2 r =>
      rcases u with u | u
      · obtain ⟨i, e⟩ := u d1 (List.mem_cons_self ..)
        subst e
        cases r1
      · obtain ⟨h1, h2⟩ := u d2 (List.mem_cons_of_mem _ (List.mem_cons_self ..))
        cases r2 with
        | int i => exact h1 _ rfl
        | obj v => exact h2 _ rfl
theorem Uni.app {ds : List D} {d : D} (u : Uni (ds ++ [d])) : Uni ds := by
  rcases u with u | u
  · exact .inl fun x hx => u x (List.mem_append_left _ hx)
  · exact .inr fun x hx => u x (List.mem_append_left _ hx)
theorem uni_ints (ns : List Int) : Uni (ns.map D.int) := .inl fun d hd => by
  obtain ⟨i, _, rfl⟩ := List.mem_map.mp hd
  exact ⟨i, rfl⟩
theorem noL_ints (ns : List Int) : ∀ d ∈ ns.map D.int, NoL d := fun d hd => by
  obtain ⟨i, _, rfl⟩ := List.mem_map.mp hd
  exact .int i
end

/-! ### statements -/
section
variable {K : PySem.W.Frag} {σ : L2.St} {H H' : Hp} {ta tb tc te : TE} {t u : TT} {x y z v : V} {d d1 d2 d3 : D} {P P1 P2 P3 : Pd} {D1 : Ends} {tu tw : TS} {g : TG}
theorem s_asg {i : Nat} (h : EP K te σ H P) (k : ∀ v d H1, Le H H1 → P d H1 → Rp K H1 v d → D1.nx (σ.set i (some v)) H1) : tAsg te (gName i) D1 σ H := h H (Le.refl _) _ k
theorem s_asgD {i : Nat} (h : ED K te σ H d) (k : ∀ v H1, Le H H1 → Rp K H1 v d → D1.nx (σ.set i (some v)) H1) : tAsg te (gName i) D1 σ H := h H (Le.refl _) _ fun v d' H1 e p r => by
  have p' : d' = d := p
  subst p'
  exact k v H1 e r
theorem s_tup2 {i j : Nat} (h : ED K te σ H (.tup [d1, d2])) (k : ∀ v w H1, Le H H1 → Rp K H1 v d1 → Rp K H1 w d2 → D1.nx ((σ.set i (some v)).set j (some w)) H1) : tAsg te (gTup K 2 (gCons (gName i) (gCons (gName j) gNil))) D1 σ H := h H (Le.refl _) _ fun v d' H1 e p r => by
  have p' : d' = .tup [d1, d2] := p
  subst p'
  obtain ⟨a, xs, rfl, s, r⟩ := rp_tup r
  cases r with
  | cons r1 r =>
    cases r with
    | cons r2 r =>
      cases r
      exact ⟨a, _, rfl, s, rfl, _, _, rfl, _, _, rfl, rfl, k _ _ H1 e r1 r2⟩
theorem s_tup3 {i j l : Nat} {PA : List D → Hp → Prop} {ta : TA} (h : EA K ta σ H PA) (hl : ∀ ds H1, PA ds H1 → ds.length = 3)
    (k : ∀ v w u d1 d2 d3 H1, Le H H1 → PA [d1, d2, d3] H1 → Rp K H1 v d1 → Rp K H1 w d2 → Rp K H1 u d3 → ∀ H2, Le H1 H2 → D1.nx (((σ.set i (some v)).set j (some w)).set l (some u)) H2) : tAsg (tTup ta) (gTup K 3 (gCons (gName i) (gCons (gName j) (gCons (gName l) gNil)))) D1 σ H := h H (Le.refl _) _ fun vs ds H1 e p r => by
  have l3 := hl ds H1 p
  refine ⟨by rw [r.len, l3]; decide, fun a na => ?_⟩
  cases r with
  | nil => cases l3
  | cons r1 r =>
    cases r with
    | nil => cases l3
    | cons r2 r =>
      cases r with
      | nil => cases l3
      | cons r3 r =>
        cases r with
        | cons _ _ =>
          simp at l3
        | nil => exact ⟨a, _, rfl, Evl.st_of upd_same, rfl, _, _, rfl, _, _, rfl, _, _, rfl, rfl, k _ _ _ _ _ _ H1 e p r1 r2 r3 _ (Le.new na)⟩
theorem s_par2 {i j : Nat} {ta : TA} {PA : List D → Hp → Prop} (h : EA K ta σ H PA) (hl : ∀ ds H1, PA ds H1 → ds.length = 2)
    (k : ∀ v w d1 d2 H1, Le H H1 → PA [d1, d2] H1 → Rp K H1 v d1 → Rp K H1 w d2 → D1.nx ((σ.set i (some v)).set j (some w)) H1) : tPar i j ta D1 σ H := h H (Le.refl _) _ fun vs ds H1 e p r => by
  have l2 := hl ds H1 p
  cases r with
  | nil => cases l2
  | cons r1 r =>
    cases r with
    | nil => cases l2
    | cons r2 r =>
      cases r with
      | nil => exact ⟨_, _, rfl, k _ _ _ _ H1 e p r1 r2⟩
      | cons _ _ => simp at l2
theorem s_ret (h : EP K te σ H P) (k : ∀ v d H1, Le H H1 → P d H1 → Rp K H1 v d → D1.rt v H1) : tRet te D1 σ H := h H (Le.refl _) _ k
theorem s_retD (h : ED K te σ H d) (k : ∀ v H1, Le H H1 → Rp K H1 v d → D1.rt v H1) : tRet te D1 σ H := h H (Le.refl _) _ fun v d' H1 e p r => by
  have p' : d' = d := p
  subst p'
  exact k v H1 e r
theorem s_drop (h : EP K te σ H P) (k : ∀ H1, Le H H1 → D1.nx σ H1) : tDrop te D1 σ H := h H (Le.refl _) _ fun _ _ H1 e _ _ => k H1 e
theorem s_if {P : Bool → Prop} (h : ET t σ H P) (h1 : P true → ∀ H1, Le H H1 → tu D1 σ H1) (h2 : P false → ∀ H1, Le H H1 → tw D1 σ H1) : tIfS t tu tw D1 σ H := h H (Le.refl _) _ fun b H1 e p => by
  cases b with
  | true =>
    show tu D1 σ H1
    exact h1 p H1 e
  | false =>
    show tw D1 σ H1
    exact h2 p H1 e
theorem s_ifB {b : Bool} (h : EB t σ H b) (h1 : b = true → ∀ H1, Le H H1 → tu D1 σ H1) (h2 : b = false → ∀ H1, Le H H1 → tw D1 σ H1) : tIfS t tu tw D1 σ H :=
  s_if h (fun p => h1 p.symm) fun p => h2 p.symm
theorem s_skip (k : D1.nx σ H) : tNext D1 σ H := k
/-- xs[i] = e on a list of one's own -/
theorem s_set {l : Addr} {vs : List V} {ds : List D} {i : Int} (hl : H l = some (.lst vs)) (nh : NotH vs) (hr : vs.length = ds.length) (h : EP K te σ H P) (ho : ∀ H1, Le H H1 → ED K ta σ H1 (.obj (.ref l))) (hi : ∀ H1, Le H H1 → ED K tb σ H1 (.int i)) (h0 : 0 ≤ i) (hj : i < ds.length)
    (k : ∀ y d H1 H3, Le H H1 → P d H1 → Le H1 H3 → Rp K H3 y d → H3 l = some (.lst vs) → D1.nx σ (upd H3 l (.lst (vs.set i.toNat y)))) : tAsg te (gSub ta tb rSetL) D1 σ H := h H (Le.refl _) _ fun y d H1 e1 p r =>
  ho H1 e1 H1 (Le.refl _) _ fun o d2 H2 e2 p2 r2 => hi H1 e1 H2 e2 _ fun z d3 H3 e3 p3 r3 => by
    have p2' : d2 = .obj (.ref l) := p2
    have p3' : d3 = .int i := p3
    subst p2' p3'
    have l3 := ((e1.trans e2).trans e3).lst hl nh
    refine ⟨l, vs, i, i.toNat, rp_obj r2, rp_int r3, l3, ?_, k y d H1 H3 e1 p (e2.trans e3) (r.le (e2.trans e3)) l3⟩
    unfold ixN
    rw [if_pos h0, if_pos (by rw [hr]; exact hj)]
/-- xs.append(e) on a list of one's own -/
theorem s_app {l : Addr} {vs : List V} (hl : H l = some (.lst vs)) (nh : NotH vs) (ha : ED K ta σ H (.obj (.ref l))) (h : ∀ H1, Le H H1 → EP K te σ H1 P) (hz : vs.length < 100000)
    (k : ∀ y d H1, Le H H1 → P d H1 → Rp K H1 y d → H1 l = some (.lst vs) → D1.nx σ (upd H1 l (.lst (vs ++ [y])))) : tDrop (tBM K "list" rAppend ta (tCons te tNil)) D1 σ H := ha H (Le.refl _) _ fun o d1 H1 e1 p1 r1 => by
  have p1' : d1 = .obj (.ref l) := p1
  subst p1'
  have eo := rp_obj r1
  subst eo
  refine ⟨.inl ⟨rfl, vs, Evl.sq_of (e1.lst hl nh)⟩, h H1 e1 H1 (Le.refl _) _ fun y d H2 e2 p r => ?_⟩
  have l2 := (e1.trans e2).lst hl nh
  exact ⟨l, vs, y, rfl, rfl, l2, Evl.sz_lt hz, k y d H2 (e1.trans e2) p r l2⟩
/-- xs.extend(e), e a list -/
theorem s_ext {l : Addr} {vs : List V} {ds : List D} (hl : H l = some (.lst vs)) (nh : NotH vs) (ha : ED K ta σ H (.obj (.ref l))) (h : ∀ H1, Le H H1 → ED K te σ H1 (.lst ds)) (hz : vs.length + ds.length ≤ 100000)
    (k : ∀ ws H1, Le H H1 → Rps K H1 ws ds → H1 l = some (.lst vs) → D1.nx σ (upd H1 l (.lst (vs ++ ws)))) : tDrop (tBM K "list" rExtend ta (tCons te tNil)) D1 σ H := ha H (Le.refl _) _ fun o d1 H1 e1 p1 r1 => by
  have p1' : d1 = .obj (.ref l) := p1
  subst p1'
  have eo := rp_obj r1
  subst eo
  refine ⟨.inl ⟨rfl, vs, Evl.sq_of (e1.lst hl nh)⟩, h H1 e1 H1 (Le.refl _) _ fun y d H2 e2 p r => ?_⟩
  have p' : d = .lst ds := p
  subst p'
  obtain ⟨b, ws, rfl, hb, _, rr⟩ := rp_lst r
  have l2 := (e1.trans e2).lst hl nh
  exact ⟨l, b, vs, ws, rfl, rfl, l2, hb, by rw [rr.len]; exact Evl.sz_of hz, k ws H2 (e1.trans e2) rr l2⟩
end

/-! ### what stands for tuples, whatever lists do -/
structure LeT (H H' : Hp) : Prop where
  tup : ∀ a xs, H a = some (.tup xs) → H' a = some (.tup xs)
  frz : ∀ a o u, H a = some (.frz o u) → H' a = some (.frz o u)
  ins : ∀ a C dx fs, H a = some (.ins C dx fs) → H' a = some (.ins C dx fs)
theorem LeT.refl (H : Hp) : LeT H H := ⟨fun _ _ h => h, fun _ _ _ h => h, fun _ _ _ _ h => h⟩
theorem LeT.trans {H H1 H2 : Hp} (a : LeT H H1) (b : LeT H1 H2) : LeT H H2 := ⟨fun x xs h => b.tup x xs (a.tup x xs h), fun x o u h => b.frz x o u (a.frz x o u h), fun x C dx fs h => b.ins x C dx fs (a.ins x C dx fs h)⟩
theorem Le.t {H H' : Hp} (e : Le H H') : LeT H H' := ⟨fun _ _ h => e.tup h, fun _ _ _ h => e.frz h, fun _ _ _ _ h => e.ins h⟩
theorem LeT.upd {H : Hp} {l : Addr} {ys : List V} {o : HO} (hl : H l = some (.lst ys)) : LeT H (L2.upd H l o) := by
  refine ⟨fun a xs h => ?_, fun a o u h => ?_, fun a C dx fs h => ?_⟩
  all_goals
    have n : a ≠ l := fun e => by
      rw [e, hl] at h
      cases h
    rw [upd_ne n]
    exact h
theorem LeT.sqt {K : PySem.W.Frag} {H H' : Hp} {a : Addr} {xs : List V} (e : LeT H H') (h : SqT K H a xs) : SqT K H' a xs := by
  rcases h with (h | ⟨o, h⟩) | h
  · exact .inl (.inl (e.tup _ _ h))
  · exact .inl (.inr ⟨o, e.frz _ _ _ h⟩)
  · exact .inr h
section
variable {K : PySem.W.Frag} {H H' : Hp}
mutual
theorem Rp.leT (e : LeT H H') {v : V} {d : D} (n : NoL d) : Rp K H v d → Rp K H' v d
  | .non => .non
  | .bl b => .bl b
  | .int i => .int i
  | .str x => .str x
  | .obj v => .obj v
  | .tup h r => .tup (e.sqt h) (Rps.leT e (by cases n with | tup n => exact n) r)
  | .lst h _ r => nomatch n
theorem Rps.leT (e : LeT H H') {vs : List V} {ds : List D} (n : ∀ d ∈ ds, NoL d) : Rps K H vs ds → Rps K H' vs ds
  | .nil => .nil
  | .cons h r => .cons (Rp.leT e (n _ (List.mem_cons_self ..)) h) (Rps.leT e (fun d hd => n d (List.mem_cons_of_mem _ hd)) r)
end
end

/-! ### loops -/
section
variable {K : PySem.W.Frag} {σ : L2.St} {H H' : Hp} {ta tb tc te : TE} {t u : TT} {d d1 d2 d3 : D} {P P1 P2 P3 : Pd} {D1 : Ends} {tu tw : TS} {g : TG}
abbrev bodyEnds (D1 : Ends) (N : L2.St → Hp → Prop) : Ends := { D1 with nx := N, ct := N, bk := D1.nx }
theorem s_forT {ds : List D} (h : ED K te σ H (.tup ds)) (nl : ∀ d ∈ ds, NoL d)
    (k : ∀ H1, Le H H1 → ∃ Pv : Nat → L2.St → Hp → Prop, Pv 0 σ H1 ∧ (∀ i σ' H', i ≤ ds.length → Pv i σ' H' → LeT H1 H') ∧
      (∀ i d v σ' H', ds[i]? = some d → Rp K H' v d → Pv i σ' H' → g v σ' H' fun σ2 H2 => tu (bodyEnds D1 (Pv (i + 1))) σ2 H2) ∧ ∀ σ' H', Pv ds.length σ' H' → D1.nx σ' H') : tFor (iTup K te) g tu D1 σ H := h H (Le.refl _) _ fun v d0 H1 e p r => by
  have p' : d0 = .tup ds := p
  subst p'
  obtain ⟨a, xs, rfl, s, rr⟩ := rp_tup r
  obtain ⟨Pv, h0, hle, hs, hd⟩ := k H1 e
  refine ⟨a, rfl, ⟨xs, s⟩, for_it (walk_tup (xs := xs)) Pv h0 (fun i σ' H' hi q => (hle i σ' H' (by rw [← rr.len]; exact hi) q).sqt s) ?_ (fun σ' H' q => hd σ' H' (by rw [← rr.len]; exact q))⟩
  rintro i x σ' H' _ hi q ⟨rfl, hx⟩
  obtain ⟨d, h1, h2⟩ := rr.at' hx
  exact hs i d x σ' _ h1 (h2.leT (hle i σ' _ (by rw [← rr.len]; omega) q) (nl d (List.mem_of_getElem? h1))) q
theorem s_forL {ds : List D} (h : ED K te σ H (.lst ds)) (nl : ∀ d ∈ ds, NoL d)
    (k : ∀ a vs H1, Le H H1 → H1 a = some (.lst vs) → Rps K H1 vs ds → ∃ Pv : Nat → L2.St → Hp → Prop, Pv 0 σ H1 ∧ (∀ i σ' H', i ≤ ds.length → Pv i σ' H' → LeT H1 H' ∧ H' a = some (.lst vs)) ∧
      (∀ i d v σ' H', ds[i]? = some d → Rp K H' v d → Pv i σ' H' → g v σ' H' fun σ2 H2 => tu (bodyEnds D1 (Pv (i + 1))) σ2 H2) ∧ ∀ σ' H', Pv ds.length σ' H' → D1.nx σ' H') : tFor (iList K te) g tu D1 σ H := h H (Le.refl _) _ fun v d0 H1 e p r => by
  have p' : d0 = .lst ds := p
  subst p'
  obtain ⟨a, xs, rfl, s, nh, rr⟩ := rp_lst r
  obtain ⟨Pv, h0, hle, hs, hd⟩ := k a xs H1 e s rr
  refine ⟨a, rfl, ⟨xs, SqL.of s⟩, for_it (walk_list (xs := xs)) Pv h0 (fun i σ' H' hi q => SqL.of (hle i σ' H' (by rw [← rr.len]; exact hi) q).2) ?_ (fun σ' H' q => hd σ' H' (by rw [← rr.len]; exact q))⟩
  rintro i x σ' H' _ hi q ⟨rfl, hx⟩
  obtain ⟨d, h1, h2⟩ := rr.at' hx
  exact hs i d x σ' _ h1 (h2.leT (hle i σ' _ (by rw [← rr.len]; omega) q).1 (nl d (List.mem_of_getElem? h1))) q
theorem s_forR1 {ta : TA} {n : Int} (h : EDA K ta σ H [.int n]) (hn : -100000 ≤ n ∧ n ≤ 100000)
    (k : ∀ H1, Le H H1 → ∃ Pv : Nat → L2.St → Hp → Prop, Pv 0 σ H1 ∧
      (∀ (i : Nat) σ' H', (i : Int) < n → Pv i σ' H' → g (.int (i : Int)) σ' H' fun σ2 H2 => tu (bodyEnds D1 (Pv (i + 1))) σ2 H2) ∧ ∀ σ' H', Pv n.toNat σ' H' → D1.nx σ' H') : tFor (iRng1 ta) g tu D1 σ H := h H (Le.refl _) _ fun vs ds H1 e p r => by
  have p' : ds = [.int n] := p
  subst p'
  cases r with
  | cons r1 r =>
    cases r
    have e1 := rp_int r1
    subst e1
    obtain ⟨Pv, h0, hs, hd⟩ := k H1 e
    refine ⟨n, rfl, by omega, by omega, for_it (walk_range (lo := 0) (n := n.toNat)) Pv h0 (fun _ _ _ _ _ => trivial) ?_ hd⟩
    rintro i x σ' H' _ hi q ⟨rfl, rfl⟩
    have e0 : (0 : Int) + (i : Int) = (i : Int) := Int.zero_add _
    dsimp only
    rw [e0]
    exact hs i σ' _ (by omega) q
theorem s_forR2 {ta : TA} {lo n : Int} (h : EDA K ta σ H [.int lo, .int n]) (hl : -100000 ≤ lo ∧ lo ≤ 100000 ∧ -100000 ≤ n ∧ n ≤ 100000)
    (k : ∀ H1, Le H H1 → ∃ Pv : Nat → L2.St → Hp → Prop, Pv 0 σ H1 ∧
      (∀ (i : Nat) σ' H', lo + (i : Int) < n → Pv i σ' H' → g (.int (lo + (i : Int))) σ' H' fun σ2 H2 => tu (bodyEnds D1 (Pv (i + 1))) σ2 H2) ∧ ∀ σ' H', Pv (n - lo).toNat σ' H' → D1.nx σ' H') : tFor (iRng2 ta) g tu D1 σ H := h H (Le.refl _) _ fun vs ds H1 e p r => by
  have p' : ds = [.int lo, .int n] := p
  subst p'
  cases r with
  | cons r1 r =>
    cases r with
    | cons r2 r =>
      cases r
      have e1 := rp_int r1
      subst e1
      have e2 := rp_int r2
      subst e2
      obtain ⟨Pv, h0, hs, hd⟩ := k H1 e
      refine ⟨lo, n, rfl, by omega, for_it (walk_range (lo := lo) (n := (n - lo).toNat)) Pv h0 (fun _ _ _ _ _ => trivial) ?_ hd⟩
      rintro i x σ' H' _ hi q ⟨rfl, rfl⟩
      exact hs i σ' _ (by omega) q
/-- for i, g in enumerate(a tuple) -/
theorem s_forE {ta : TA} {j : Nat} {ds : List D} (h : EDA K ta σ H [.tup ds]) (nl : ∀ d ∈ ds, NoL d)
    (k : ∀ H1, Le H H1 → ∃ Pv : Nat → L2.St → Hp → Prop, Pv 0 σ H1 ∧ (∀ i σ' H', i ≤ ds.length → Pv i σ' H' → LeT H1 H') ∧
      (∀ (i : Nat) d v σ' H' H2, ds[i]? = some d → Pv i σ' H' → Le H' H2 → Rp K H2 v d → g v (σ'.set j (some (.int (i : Int)))) H2 fun σ2 H3 => gNil [] σ2 H3 fun σ4 H4 => tu (bodyEnds D1 (Pv (i + 1))) σ4 H4) ∧ ∀ σ' H', Pv ds.length σ' H' → D1.nx σ' H') :
    tFor (iEnumT K ta) (gTup K 2 (gCons (gName j) (gCons g gNil))) tu D1 σ H := h H (Le.refl _) _ fun vs es H1 e p r => by
  have p' : es = [.tup ds] := p
  subst p'
  cases r with
  | cons r1 r =>
    cases r
    obtain ⟨a, xs, rfl, s, rr⟩ := rp_tup r1
    obtain ⟨Pv, h0, hle, hs, hd⟩ := k H1 e
    refine ⟨a, xs, rfl, s, for_it (walk_enT (xs := xs)) Pv h0 (fun i σ' H' hi q => (hle i σ' H' (by rw [← rr.len]; exact hi) q).sqt s) ?_ (fun σ' H' q => hd σ' H' (by rw [← rr.len]; exact q))⟩
    rintro i x σ' H' H2 hi q ⟨T, x1, x2, rfl, nT, rfl, f1, f2⟩
    have ex : x1 = .int (i : Nat) := (Option.some.inj f1).symm
    subst ex
    obtain ⟨d, h1, h2⟩ := rr.at' f2
    have e2 : Le H' (upd H' T (.tup [.int (i : Nat), x2])) := Le.new nT
    have r2 := (h2.leT (hle i σ' _ (by rw [← rr.len]; omega) q) (nl d (List.mem_of_getElem? h1))).le e2
    exact ⟨T, _, rfl, Evl.st_of upd_same, rfl, _, _, rfl, _, _, rfl, hs i d x2 σ' _ _ h1 q e2 r2⟩
end

/-! ### comprehensions -/
section
variable {K : PySem.W.Frag} {σ : L2.St} {H H' : Hp} {ta tb tc te : TE} {tt : TT} {d d1 d2 d3 : D} {P P1 P2 P3 : Pd} {g : TG} {vs : List Nat}
/-- what a comprehension's list holds behind i turns: I i acc -/
def CI (K : PySem.W.Frag) (H : Hp) (L : Addr) (I : Nat → List D → Prop) (i : Nat) (H' : Hp) : Prop := H L = none ∧ Le H H' ∧ ∃ ws acc, H' L = some (.lst ws) ∧ Rps K H' ws acc ∧ I i acc
structure Good (I : Nat → List D → Prop) : Prop where
  uni : ∀ i acc, I i acc → Uni acc
  noL : ∀ i acc, I i acc → ∀ d ∈ acc, NoL d
  len : ∀ i acc, I i acc → acc.length ≤ 50000
theorem ci_turn {I : Nat → List D → Prop} (G : Good I) {L : Addr} {i : Nat} {σ2 : L2.St} {PT : Bool → Prop} (q : CI K H L I i H') (ht : ∀ acc, I i acc → ET tt σ2 H PT)
    (he : ∀ acc, I i acc → PT true → EP K te σ2 H (fun d _ => I (i + 1) (acc ++ [d]) ∧ NoL d)) (hf : ∀ acc, I i acc → PT false → I (i + 1) acc) :
    tt σ2 H' fun b H3 => if b = true then te σ2 H3 fun y H4 => ∃ ac, H4 L = some (.lst ac) ∧ ac.length < sizeLine ∧ CI K H L I (i + 1) (upd H4 L (.lst (ac ++ [y]))) else CI K H L I (i + 1) H3 := by
  obtain ⟨q1, q2, ws, acc, q3, q4, q5⟩ := q
  have nh : NotH ws := (G.uni i acc q5).notH q4
  refine ht acc q5 H' q2 _ fun b H3 e3 p3 => ?_
  cases b with
  | true =>
    show te σ2 H3 _
    refine he acc q5 p3 H3 (q2.trans e3) _ fun y d H4 e4 p4 r4 => ?_
    have l4 := (e3.trans e4).lst q3 nh
    refine ⟨ws, l4, Evl.sz_lt (by rw [q4.len]; have := G.len i acc q5; omega), q1, ((q2.trans e3).trans e4).mut q1, ws ++ [y], acc ++ [d], upd_same, ?_, p4.1⟩
    exact ((q4.le (e3.trans e4)).upd l4 (G.noL i acc q5)).app (.cons (r4.upd l4 p4.2) .nil)
  | false =>
    show CI K H L I (i + 1) H3
    exact ⟨q1, q2.trans e3, ws, acc, e3.lst q3 nh, q4.le e3, hf acc q5 p3⟩
theorem ci_start {I : Nat → List D → Prop} {L : Addr} (h : H L = none) (h0 : I 0 []) : CI K H L I 0 (upd H L (.lst [])) := ⟨h, Le.new h, [], [], upd_same, .nil, h0⟩
theorem ci_end {I : Nat → List D → Prop} (G : Good I) {L : Addr} {n : Nat} {Q : VK} (q : CI K H L I n H') (k : ∀ v d H2, Le H H2 → (∃ acc, d = .lst acc ∧ I n acc) → Rp K H2 v d → Q v H2) : Q (.ref L) H' := by
  obtain ⟨q1, q2, ws, acc, q3, q4, q5⟩ := q
  exact k _ (.lst acc) H' q2 ⟨acc, rfl, q5⟩ (.lst q3 ((G.uni n acc q5).notH q4) q4)
/-- over a tuple; the target is a name -/
theorem ep_lcT {ds : List D} {j : Nat} {I : Nat → List D → Prop} {PT : Nat → D → Bool → Prop} (G : Good I) (h : ED K ta σ H (.tup ds)) (hw : ∀ x, wipe ((wipe σ vs).set j (some x)) vs = wipe σ vs) (h0 : I 0 [])
    (ht : ∀ (i : Nat) d v acc H1, Le H H1 → ds[i]? = some d → Rp K H1 v d → I i acc → ET tt ((wipe σ vs).set j (some v)) H1 (PT i d))
    (he : ∀ (i : Nat) d v acc H1, Le H H1 → ds[i]? = some d → Rp K H1 v d → I i acc → PT i d true → EP K te ((wipe σ vs).set j (some v)) H1 (fun d' _ => I (i + 1) (acc ++ [d']) ∧ NoL d'))
    (hf : ∀ (i : Nat) d acc, ds[i]? = some d → I i acc → PT i d false → I (i + 1) acc) : EP K (tLc (iTup K ta) (gName j) tt te vs) σ H (fun d _ => ∃ acc, d = .lst acc ∧ I ds.length acc) := fun H1 e Q q => h H1 e _ fun v d0 H2 e2 p r => by
  have p' : d0 = .tup ds := p
  subst p'
  obtain ⟨a, xs, rfl, s, rr⟩ := rp_tup r
  refine ⟨a, rfl, ⟨xs, s⟩, fun L hL => lc_it (walk_tup (xs := xs)) (CI K H2 L I) (ci_start hL h0) (fun i H' _ c => c.2.1.sqt s) ?_ (fun H' c => ?_)⟩
  · rintro i x H' _ hi c ⟨rfl, hx⟩
    obtain ⟨d, h1, h2⟩ := rr.at' hx
    exact ⟨hw x, ci_turn G c (fun acc ia => ht i d x acc H2 (e.trans e2) h1 h2 ia) (fun acc ia pt => he i d x acc H2 (e.trans e2) h1 h2 ia pt) (fun acc ia pt => hf i d acc h1 ia pt)⟩
  · rw [rr.len] at c
    exact ci_end G c fun v d H3 e3 p r => q v d H3 (e2.trans e3) p r
/-- over a list; the target is a name -/
theorem ep_lcL {ds : List D} {j : Nat} {I : Nat → List D → Prop} {PT : Nat → D → Bool → Prop} (G : Good I) (h : ED K ta σ H (.lst ds)) (hw : ∀ x, wipe ((wipe σ vs).set j (some x)) vs = wipe σ vs) (h0 : I 0 [])
    (ht : ∀ (i : Nat) d v acc H1, Le H H1 → ds[i]? = some d → Rp K H1 v d → I i acc → ET tt ((wipe σ vs).set j (some v)) H1 (PT i d))
    (he : ∀ (i : Nat) d v acc H1, Le H H1 → ds[i]? = some d → Rp K H1 v d → I i acc → PT i d true → EP K te ((wipe σ vs).set j (some v)) H1 (fun d' _ => I (i + 1) (acc ++ [d']) ∧ NoL d'))
    (hf : ∀ (i : Nat) d acc, ds[i]? = some d → I i acc → PT i d false → I (i + 1) acc) : EP K (tLc (iList K ta) (gName j) tt te vs) σ H (fun d _ => ∃ acc, d = .lst acc ∧ I ds.length acc) := fun H1 e Q q => h H1 e _ fun v d0 H2 e2 p r => by
  have p' : d0 = .lst ds := p
  subst p'
  obtain ⟨a, xs, rfl, s, nh, rr⟩ := rp_lst r
  refine ⟨a, rfl, ⟨xs, SqL.of s⟩, fun L hL => lc_it (walk_list (xs := xs)) (CI K H2 L I) (ci_start hL h0) (fun i H' _ c => SqL.of (c.2.1.lst s nh)) ?_ (fun H' c => ?_)⟩
  · rintro i x H' _ hi c ⟨rfl, hx⟩
    obtain ⟨d, h1, h2⟩ := rr.at' hx
    exact ⟨hw x, ci_turn G c (fun acc ia => ht i d x acc H2 (e.trans e2) h1 h2 ia) (fun acc ia pt => he i d x acc H2 (e.trans e2) h1 h2 ia pt) (fun acc ia pt => hf i d acc h1 ia pt)⟩
  · rw [rr.len] at c
    exact ci_end G c fun v d H3 e3 p r => q v d H3 (e2.trans e3) p r
/-- over range(n) -/
theorem ep_lcR1 {ra : TA} {n : Int} {j : Nat} {I : Nat → List D → Prop} {PT : Nat → Bool → Prop} (G : Good I) (h : EDA K ra σ H [.int n]) (hn : 0 ≤ n ∧ n ≤ 50000) (hw : ∀ x, wipe ((wipe σ vs).set j (some x)) vs = wipe σ vs) (h0 : I 0 [])
    (ht : ∀ (i : Nat) acc H1, Le H H1 → (i : Int) < n → I i acc → ET tt ((wipe σ vs).set j (some (.int (i : Int)))) H1 (PT i))
    (he : ∀ (i : Nat) acc H1, Le H H1 → (i : Int) < n → I i acc → PT i true → EP K te ((wipe σ vs).set j (some (.int (i : Int)))) H1 (fun d' _ => I (i + 1) (acc ++ [d']) ∧ NoL d'))
    (hf : ∀ (i : Nat) acc, (i : Int) < n → I i acc → PT i false → I (i + 1) acc) : EP K (tLc (iRng1 ra) (gName j) tt te vs) σ H (fun d _ => ∃ acc, d = .lst acc ∧ I n.toNat acc) := fun H1 e Q q => h H1 e _ fun ws ds H2 e2 p r => by
  have p' : ds = [.int n] := p
  subst p'
  cases r with
  | cons r1 r =>
    cases r
    have e1 := rp_int r1
    subst e1
    refine ⟨n, rfl, by omega, by omega, fun L hL => lc_it (walk_range (lo := 0) (n := n.toNat)) (CI K H2 L I) (ci_start hL h0) (fun _ _ _ _ => trivial) ?_ (fun H' c => ?_)⟩
    · rintro i x H' _ hi c ⟨rfl, rfl⟩
      have e0 : (0 : Int) + (i : Int) = (i : Int) := Int.zero_add _
      dsimp only
      rw [e0]
      exact ⟨hw _, ci_turn G c (fun acc ia => ht i acc H2 (e.trans e2) (by omega) ia) (fun acc ia pt => he i acc H2 (e.trans e2) (by omega) ia pt) (fun acc ia pt => hf i acc (by omega) ia pt)⟩
    · exact ci_end G c fun v d H3 e3 p r => q v d H3 (e2.trans e3) p r
end
end W1

set_option maxRecDepth 100000
set_option maxHeartbeats 4000000
/-! built-ins in data -/
namespace W1
open PySem L2
def cutG {α : Type} (xs : List α) (lo hi : Option Int) : List α := (xs.drop (HT.sIx xs.length 0 lo)).take (HT.sIx xs.length xs.length hi - HT.sIx xs.length 0 lo)
theorem cutG_hi {α : Type} (xs : List α) (n : Int) (h : 0 ≤ n) : cutG xs none (some n) = xs.take n.toNat := by
  unfold cutG
  have e : n = ((n.toNat : Nat) : Int) := by omega
  rw [e, HT.sIx_nat, HT.sIx_none, List.drop_zero, Nat.sub_zero, Int.toNat_natCast]
  rw [List.take_eq_take_iff]
  omega
theorem cutG_lo {α : Type} (xs : List α) (n : Int) (h : 0 ≤ n) : cutG xs (some n) none = xs.drop n.toNat := by
  unfold cutG
  have e : n = ((n.toNat : Nat) : Int) := by omega
  rw [e, HT.sIx_nat, HT.sIx_none, Int.toNat_natCast]
  by_cases hl : n.toNat ≤ xs.length
  · rw [Nat.min_eq_left hl]
    exact List.take_of_length_le (by rw [List.length_drop]; exact Nat.le_refl _)
  · rw [Nat.min_eq_right (by omega), List.drop_of_length_le (Nat.le_refl _), List.drop_of_length_le (by omega), List.take_nil]
theorem cutG_two {α : Type} (xs : List α) (a b : Int) (h : 0 ≤ a) (h2 : 0 ≤ b) : cutG xs (some a) (some b) = (xs.drop a.toNat).take (b.toNat - a.toNat) := by
  unfold cutG
  have e : a = ((a.toNat : Nat) : Int) := by omega
  have e2 : b = ((b.toNat : Nat) : Int) := by omega
  rw [e, e2, HT.sIx_nat, HT.sIx_nat, Int.toNat_natCast, Int.toNat_natCast]
  by_cases hl : a.toNat ≤ xs.length
  · rw [Nat.min_eq_left hl, List.take_eq_take_iff, List.length_drop]
    omega
  · rw [Nat.min_eq_right (show xs.length ≤ a.toNat by omega), List.drop_of_length_le (Nat.le_refl _), List.drop_of_length_le (by omega), List.take_nil, List.take_nil]
theorem rps_cut {K : PySem.W.Frag} {H : Hp} {vs : List V} {ds : List D} (lo hi : Option Int) (r : Rps K H vs ds) : Rps K H (cutV vs lo hi) (cutG ds lo hi) := by
  unfold cutV cutG
  rw [r.len]
  exact (r.drop _).take _
theorem cutG_all {α : Type} (xs : List α) (lo hi : Option Int) (h : HT.sIx xs.length 0 lo = 0 ∧ HT.sIx xs.length xs.length hi = xs.length) : cutG xs lo hi = xs := by
  unfold cutG
  rw [h.1, h.2, List.drop_zero, Nat.sub_zero, List.take_length]

/-! ### a tuple times a number from 1 on -/
section
open PySem.Spec PyProof.Rows
theorem mul1_tup (l : Addr) (items : Array Value) (n : Nat) (dd : Option Addr) (sl : Array (Option Value)) (u : Tok) :
    Meets (Builtin.«tuple.__mul__» ⟨[.ref l, .int 1 u], []⟩) (fun _ R s => s.heap.get? l = some { cls := .type "tuple", dict := dd, data := .seq items n, slots := sl } ∧ R (.ok (.ret (Value.ref l))) s) := by
  refine .of_wp fun prog w A R s h => ?_
  obtain ⟨hp, g, d, tk, os⟩ := s
  obtain ⟨hl, h⟩ := h
  have f1 := AutoSeq1.idx_int
  have c1 : (items.isEmpty || (1 : Int) == 1) = true := by simp
  wp_walk using wpAny_loadPart' hl
  repeat (first
    | (refine wpAny_ite_false (decide_eq_false (by decide)) ?_; wp_walk using wpAny_loadPart' hl)
    | (refine wpAny_ite_true (decide_eq_true c1) ?_; wp_walk using wpAny_loadPart' hl))
  all_goals exact ⟨_, rfl, h⟩
def rRep1 (K : PySem.W.Frag) : R2 := fun x y H Q => ∃ l k xs, x = .ref l ∧ y = .int k ∧ SqT K H l xs ∧ xs ≠ [] ∧ 1 ≤ k ∧ k ≤ 1000 ∧ xs.length ≤ 1000 ∧ (k = 1 → Q (.ref l) H) ∧ (2 ≤ k → ∀ p, H p = none → Q (.ref p) (upd H p (.tup (List.replicate k.toNat xs).flatten)))
theorem op_rep1 {X : Cx} : OpR X (binaryOp .Mult) (rRep1 X.K) := by
  intro pins s σ H x y v u Q I rx ry h
  obtain ⟨l, k, xs, rfl, rfl, hT, hne, h1, h2, hz, q1, q2⟩ := h
  by_cases hk : 2 ≤ k
  · exact op_repT pins s σ H _ _ v u Q I rx ry ⟨l, k, xs, rfl, rfl, hT, hne, hk, h2, hz, q2 hk⟩
  · have e : k = 1 := by omega
    subst e
    cases rx
    obtain ⟨t, rfl⟩ := ry
    obtain ⟨its, r, ⟨⟨cls, dd, data, sl⟩, ho, hc, n, hd⟩, hs⟩ := I.tuple hT
    replace hc : cls = .type "tuple" := hc
    replace hd : data = .seq its.toArray n := hd
    subst hc hd
    refine wpAny_binaryOp_repeat_ref (T := "tuple") (U := "int") (by decide) ⟨_, ho, rfl⟩ (fun s' => typeIs_int s' 1 t) noFill_tuple_mul F.fills_int_mul F.slot_int_rmul repeat_tuple F.slot_int_index.lookup
      (call_meets F.slot_int_rmul (typeIs_int s 1 t) F.entry_int_rmul (F.args_int_rmul_2 _ _) (int_rmul_tuple 1 t l its.toArray n dd sl)
        ⟨ho, rfl, ⟨_, ho, rfl⟩, call_meets F.slot_tuple_mul ⟨_, ho, rfl⟩ F.entry_tuple_mul (F.args_tuple_mul_2 _ _) (mul1_tup l its.toArray n dd sl t) ⟨ho, ?_⟩⟩)
    exact ⟨.ref l, H, I, rfl, q1 rfl⟩
end
section
variable {K : PySem.W.Frag} {σ : L2.St} {H H' : Hp} {ta tb tc te : TE} {d d1 d2 d3 : D} {P : Pd}
theorem ed_rep1 {ds : List D} {k : Int} (ha : ED K ta σ H (.tup ds)) (hb : ED K tb σ H (.int k)) (hne : ds ≠ []) (h1 : 1 ≤ k ∧ k ≤ 1000) (hz : ds.length ≤ 1000) : ED K (tOp (rRep1 K) ta tb) σ H (.tup (List.replicate k.toNat ds).flatten) :=
  ed_op ha hb fun x y H2 _ r1 r2 Q q => by
    obtain ⟨a, xs, rfl, s, rr⟩ := rp_tup r1
    refine ⟨a, k, xs, rfl, rp_int r2, s, ?_, h1.1, h1.2, by rw [rr.len]; exact hz, fun e => ?_, fun _ p np => ?_⟩
    · intro e
      subst e
      cases rr
      exact hne rfl
    · subst e
      refine q _ _ H2 (Le.refl _) ?_ r1
      show D.tup ds = D.tup (List.replicate 1 ds).flatten
      simp
    · exact q _ _ _ (Le.new np) rfl (.tup (Evl.st_of upd_same) ((rr.le (Le.new np)).flat _))
theorem ed_rep {ds : List D} {k : Int} (ha : ED K ta σ H (.lst ds)) (hb : ED K tb σ H (.int k)) (h1 : 0 ≤ k ∧ k ≤ 1000) (hz : ds.length ≤ 1000) (hu : Uni (List.replicate k.toNat ds).flatten) : ED K (tOp rRep ta tb) σ H (.lst (List.replicate k.toNat ds).flatten) :=
  ed_op ha hb fun x y H2 _ r1 r2 Q q => by
    obtain ⟨a, xs, rfl, s, nh, rr⟩ := rp_lst r1
    have hm : xs.length * k.toNat ≤ 1000 * 1000 := Nat.mul_le_mul (by rw [rr.len]; exact hz) (by omega)
    refine ⟨a, k, xs, rfl, rp_int r2, s, by omega, by omega, Nat.le_trans hm (by decide), fun p np => ?_⟩
    have rf := (rr.le (Le.new (o := .lst (List.replicate k.toNat xs).flatten) np)).flat k.toNat
    exact q _ _ _ (Le.new np) rfl (.lst upd_same (hu.notH rf) rf)
/-- lists put one behind another -/
theorem ed_cat {ds es : List D} (ha : ED K ta σ H (.lst ds)) (hb : ED K tb σ H (.lst es)) (hz : ds.length + es.length ≤ 100000) (hu : Uni (ds ++ es)) : ED K (tOp rCat ta tb) σ H (.lst (ds ++ es)) :=
  ed_op ha hb fun x y H2 _ r1 r2 Q q => by
    obtain ⟨a, xs, rfl, s, nh, rr⟩ := rp_lst r1
    obtain ⟨b, ys, rfl, s2, nh2, rr2⟩ := rp_lst r2
    refine ⟨a, b, xs, ys, rfl, rfl, s, s2, by rw [rr.len, rr2.len]; exact Evl.sz_of hz, fun p np => ?_⟩
    have rf := (rr.app rr2).le (Le.new (o := .lst (xs ++ ys)) np)
    exact q _ _ _ (Le.new np) rfl (.lst upd_same (hu.notH rf) rf)
/-- tuples put one behind another -/
theorem ed_catA {ds es : List D} (ha : ED K ta σ H (.tup ds)) (hb : ED K tb σ H (.tup es)) (hz : ds.length + es.length ≤ 100000) : ED K (tOp (rCatA K) ta tb) σ H (.tup (ds ++ es)) :=
  ed_op ha hb fun x y H2 _ r1 r2 Q q => by
    obtain ⟨a, xs, rfl, s, rr⟩ := rp_tup r1
    obtain ⟨b, ys, rfl, s2, rr2⟩ := rp_tup r2
    refine ⟨a, b, xs, ys, rfl, rfl, s, s2, by rw [rr.len, rr2.len]; exact Evl.sz_of hz, fun e => ?_, fun _ e => ?_, fun _ _ p np => ?_⟩
    · subst e
      cases rr
      exact q _ _ H2 (Le.refl _) rfl r2
    · subst e
      cases rr2
      exact q _ _ H2 (Le.refl _) (by rw [List.append_nil]) r1
    · exact q _ _ _ (Le.new np) rfl (.tup (Evl.st_of upd_same) ((rr.app rr2).le (Le.new np)))
theorem eo_none : EO tNoPart σ H none := fun H1 _ Q q => q H1 (Le.refl _)
theorem eo_some {i : Int} (h : ED K te σ H (.int i)) : EO (tPart te) σ H (some i) := fun H1 e Q q => h H1 e _ fun v d H2 e2 p r => by
  have p' : d = .int i := p
  subst p'
  exact ⟨i, rp_int r, q H2 e2⟩
theorem ed_slT {tl th : TO} {ds : List D} {lo hi : Option Int} (h : ED K ta σ H (.tup ds)) (h1 : EO tl σ H lo) (h2 : EO th σ H hi) : ED K (tSl (rSlA K) ta tl th) σ H (.tup (cutG ds lo hi)) := fun H1 e Q q =>
  h H1 e _ fun v d H2 e2 p r => h1 H2 (e.trans e2) _ fun H3 e3 => h2 H3 ((e.trans e2).trans e3) _ fun H4 e4 => by
    have p' : d = .tup ds := p
    subst p'
    obtain ⟨a, xs, rfl, s, rr⟩ := rp_tup (r.le (e3.trans e4))
    refine ⟨a, xs, rfl, s, fun w => ?_, fun _ p np => ?_⟩
    · rw [rr.len] at w
      exact q _ _ H4 ((e2.trans e3).trans e4) (by rw [cutG_all ds lo hi w]) (.tup s rr)
    · exact q _ _ _ (((e2.trans e3).trans e4).trans (Le.new np)) rfl (.tup (Evl.st_of upd_same) ((rps_cut lo hi rr).le (Le.new np)))
theorem ed_slL {tl th : TO} {ds : List D} {lo hi : Option Int} (h : ED K ta σ H (.lst ds)) (h1 : EO tl σ H lo) (h2 : EO th σ H hi) (hu : Uni (cutG ds lo hi)) : ED K (tSl (rSlL K) ta tl th) σ H (.lst (cutG ds lo hi)) := fun H1 e Q q =>
  h H1 e _ fun v d H2 e2 p r => h1 H2 (e.trans e2) _ fun H3 e3 => h2 H3 ((e.trans e2).trans e3) _ fun H4 e4 => by
    have p' : d = .lst ds := p
    subst p'
    obtain ⟨a, xs, rfl, s, nh, rr⟩ := rp_lst (r.le (e3.trans e4))
    refine ⟨a, xs, rfl, SqL.of s, fun p np => ?_⟩
    have rf := (rps_cut lo hi rr).le (Le.new (o := .lst (cutV xs lo hi)) np)
    exact q _ _ _ (((e2.trans e3).trans e4).trans (Le.new np)) rfl (.lst upd_same (hu.notH rf) rf)
theorem ed_revL {ds : List D} (h : ED K ta σ H (.lst ds)) (hu : Uni ds.reverse) : ED K (tRevL K ta) σ H (.lst ds.reverse) := fun H1 e Q q =>
  h H1 e _ fun v d H2 e2 p r => by
    have p' : d = .lst ds := p
    subst p'
    obtain ⟨a, xs, rfl, s, nh, rr⟩ := rp_lst r
    refine ⟨a, xs, rfl, SqL.of s, fun p np => ?_⟩
    have rv : ∀ {vs : List V} {es : List D}, Rps K H2 vs es → Rps K H2 vs.reverse es.reverse := by
      intro vs
      induction vs with
      | nil =>
        intro es h
        cases h
        exact .nil
      | cons a l ih =>
        intro es h
        cases h with
        | cons h1 h2 =>
          rw [List.reverse_cons, List.reverse_cons]
          exact (ih h2).app (.cons h1 .nil)
    have rf := (rv rr).le (Le.new (o := .lst xs.reverse) np)
    exact q _ _ _ (e2.trans (Le.new np)) rfl (.lst upd_same (hu.notH rf) rf)
/-! calls of built-ins -/
theorem ed_cb {r : List V → Hp → VK → Prop} {A : TA} {ds : List D} (h : EDA K A σ H ds) (hr : ∀ vs H2, Le H H2 → Rps K H2 vs ds → ∀ Q : VK, (∀ v d H3, Le H2 H3 → P d H3 → Rp K H3 v d → Q v H3) → r vs H2 Q) : EP K (tCB r A) σ H P := fun H1 e Q q =>
  h H1 e _ fun vs es H2 e2 p rr => by
    have p' : es = ds := p
    subst p'
    exact hr vs H2 (e.trans e2) rr Q fun v d H3 e3 p3 r3 => q v d H3 (e2.trans e3) p3 r3
theorem rps1 {vs : List V} (r : Rps K H vs [d]) : ∃ v, vs = [v] ∧ Rp K H v d := by
  cases r with
  | cons h r =>
    cases r
    exact ⟨_, rfl, h⟩
theorem rps2 {vs : List V} (r : Rps K H vs [d1, d2]) : ∃ v w, vs = [v, w] ∧ Rp K H v d1 ∧ Rp K H w d2 := by
  cases r with
  | cons h r =>
    obtain ⟨w, rfl, h2⟩ := rps1 r
    exact ⟨_, w, rfl, h, h2⟩
theorem rps3 {vs : List V} (r : Rps K H vs [d1, d2, d3]) : ∃ v w u, vs = [v, w, u] ∧ Rp K H v d1 ∧ Rp K H w d2 ∧ Rp K H u d3 := by
  cases r with
  | cons h r =>
    obtain ⟨w, u, rfl, h2, h3⟩ := rps2 r
    exact ⟨_, w, u, rfl, h, h2, h3⟩
abbrev rAbs : List V → Hp → VK → Prop := fun xs H Q => ∃ i, xs = [.int i] ∧ Q (.int (if i < 0 then -i else i)) H
theorem ed_abs {i : Int} (h : ED K ta σ H (.int i)) : ED K (tCB rAbs (tCons ta tNil)) σ H (.int (if i < 0 then -i else i)) := ed_cb (ea_cons h ea_nil) fun vs H2 _ r Q q => by
  obtain ⟨v, rfl, h⟩ := rps1 r
  exact ⟨i, by rw [rp_int h], q _ _ H2 (Le.refl _) rfl (.int _)⟩
abbrev rInt1 : List V → Hp → VK → Prop := fun xs H Q => (∃ i, xs = [.int i] ∧ Q (.int i) H) ∨ ∃ k, xs = [.bl k] ∧ Q (.int (if k then 1 else 0)) H
theorem ed_int1 {i : Int} (h : ED K ta σ H (.int i)) : ED K (tCB rInt1 (tCons ta tNil)) σ H (.int i) := ed_cb (ea_cons h ea_nil) fun vs H2 _ r Q q => by
  obtain ⟨v, rfl, h⟩ := rps1 r
  exact .inl ⟨i, by rw [rp_int h], q _ _ H2 (Le.refl _) rfl (.int _)⟩
abbrev rMax2 : List V → Hp → VK → Prop := fun xs H Q => ∃ i j, xs = [.int i, .int j] ∧ Q (.int (if j > i then j else i)) H
abbrev rMin2 : List V → Hp → VK → Prop := fun xs H Q => ∃ i j, xs = [.int i, .int j] ∧ Q (.int (if j < i then j else i)) H
theorem ed_max2 {i j : Int} (h : ED K ta σ H (.int i)) (h2 : ED K tb σ H (.int j)) : ED K (tCB rMax2 (tCons ta (tCons tb tNil))) σ H (.int (if j > i then j else i)) := ed_cb (ea_cons h (ea_cons h2 ea_nil)) fun vs H2 _ r Q q => by
  obtain ⟨v, w, rfl, h, h2⟩ := rps2 r
  exact ⟨i, j, by rw [rp_int h, rp_int h2], q _ _ H2 (Le.refl _) rfl (.int _)⟩
theorem ed_min2 {i j : Int} (h : ED K ta σ H (.int i)) (h2 : ED K tb σ H (.int j)) : ED K (tCB rMin2 (tCons ta (tCons tb tNil))) σ H (.int (if j < i then j else i)) := ed_cb (ea_cons h (ea_cons h2 ea_nil)) fun vs H2 _ r Q q => by
  obtain ⟨v, w, rfl, h, h2⟩ := rps2 r
  exact ⟨i, j, by rw [rp_int h, rp_int h2], q _ _ H2 (Le.refl _) rfl (.int _)⟩
abbrev rTupOf (K : PySem.W.Frag) : List V → Hp → VK → Prop := fun xs H Q => ∃ p ys, xs = [.ref p] ∧ ((SqL K H p ys ∧ ∀ l, H l = none → Q (.ref l) (upd H l (.tup ys))) ∨ (SqT K H p ys ∧ Q (.ref p) H))
theorem ep_tupOf {PL : List D → Prop} (h : EP K ta σ H fun d _ => ∃ ds, d = .lst ds ∧ PL ds) : EP K (tCB (rTupOf K) (tCons ta tNil)) σ H (fun d _ => ∃ ds, d = .tup ds ∧ PL ds) := fun H1 e Q q => h H1 e _ fun v d H2 e2 p r => by
  obtain ⟨ds, rfl, pl⟩ := p
  obtain ⟨a, xs, rfl, s, nh, rr⟩ := rp_lst r
  exact ⟨a, xs, rfl, .inl ⟨SqL.of s, fun l hl => q _ _ _ (e2.trans (Le.new hl)) ⟨ds, rfl, pl⟩ (.tup (Evl.st_of upd_same) (rr.le (Le.new hl)))⟩⟩
theorem ed_tupOf {ds : List D} (h : ED K ta σ H (.lst ds)) : ED K (tCB (rTupOf K) (tCons ta tNil)) σ H (.tup ds) :=
  (ep_tupOf (PL := fun x => x = ds) (h.weak fun d _ _ p => ⟨ds, p, rfl⟩)).weak fun d _ _ p => by
    obtain ⟨ds', rfl, rfl⟩ := p
    rfl
abbrev rLstOf (K : PySem.W.Frag) : List V → Hp → VK → Prop := fun xs H Q => ∃ p ys, xs = [.ref p] ∧ (SqL K H p ys ∨ SqT K H p ys) ∧ ∀ l, H l = none → Q (.ref l) (upd H l (.lst ys))
theorem ed_lstOfT {ds : List D} (h : ED K ta σ H (.tup ds)) (hu : Uni ds) : ED K (tCB (rLstOf K) (tCons ta tNil)) σ H (.lst ds) := ed_cb (ea_cons h ea_nil) fun vs H2 _ r Q q => by
  obtain ⟨v, rfl, h⟩ := rps1 r
  obtain ⟨a, xs, rfl, s, rr⟩ := rp_tup h
  refine ⟨a, xs, rfl, .inr s, fun l hl => ?_⟩
  have rf := rr.le (Le.new (o := .lst xs) hl)
  exact q _ _ _ (Le.new hl) rfl (.lst upd_same (hu.notH rf) rf)
theorem ed_lstOfL {ds : List D} (h : ED K ta σ H (.lst ds)) : ED K (tCB (rLstOf K) (tCons ta tNil)) σ H (.lst ds) := ed_cb (ea_cons h ea_nil) fun vs H2 _ r Q q => by
  obtain ⟨v, rfl, h⟩ := rps1 r
  obtain ⟨a, xs, rfl, s, nh, rr⟩ := rp_lst h
  exact ⟨a, xs, rfl, .inl (SqL.of s), fun l hl => q _ _ _ (Le.new hl) rfl (.lst upd_same nh (rr.le (Le.new hl)))⟩
theorem ep_sortedI {PN : List Int → Prop} (h : EP K ta σ H fun d _ => ∃ ns : List Int, d = .lst (ns.map .int) ∧ PN ns) :
    EP K (tCB (rSortedI K) (tCons ta tNil)) σ H (fun d _ => ∃ ns ns' : List Int, d = .lst (ns'.map .int) ∧ PN ns ∧ ns'.Perm ns ∧ ns'.Pairwise (· ≤ ·)) := fun H1 e Q q => h H1 e _ fun v d H2 e2 p r => by
  obtain ⟨ns, rfl, pn⟩ := p
  obtain ⟨a, xs, rfl, s, nh, rr⟩ := rp_lst r
  have ex := ints_rps rr
  subst ex
  exact ⟨a, ns, rfl, SqL.of s, fun ns' p hp hs hn => q _ _ _ (e2.trans (Le.new hn)) ⟨ns, ns', rfl, pn, hp, hs⟩ (.lst upd_same (notH_ints _) (rps_ints _))⟩
/-- sorted(set(e)), e a list of ints -/
theorem ep_sortedSet {w : World} {ns : List Int} (hz : ns.length < 64) (h : ED K ta σ H (.lst (ns.map .int))) :
    EP K (tCB (rSortedSet w) (tCons (tCB (rSetOfL K w) (tCons ta tNil)) tNil)) σ H (fun d _ => ∃ ns' : List Int, d = .lst (ns'.map .int) ∧ ns'.Pairwise (· < ·) ∧ ∀ k, k ∈ ns' ↔ k ∈ ns) := fun H1 e Q q => h H1 e _ fun v d H2 e2 p r => by
  have p' : d = .lst (ns.map .int) := p
  subst p'
  obtain ⟨a, xs, rfl, s, nh, rr⟩ := rp_lst r
  have ex := ints_rps rr
  subst ex
  refine ⟨a, ns, rfl, SqL.of s, by omega, fun p n hp hn => ⟨p, _, n, rfl, upd_same, by omega, fun ns' l hs hm _ hl => ?_⟩⟩
  refine q _ _ _ ((e2.trans (Le.new hp)).trans (Le.new hl)) ⟨ns', rfl, hs, fun k => ?_⟩ (.lst upd_same (notH_ints _) (rps_ints _))
  rw [hm k]
  exact decide_eq_true_iff
theorem inV_ints (x : Int) : ∀ ns : List Int, inV (.int x) (ns.map V.int) = decide (x ∈ ns)
  | [] => rfl
  | n :: ns => by
    have ih := inV_ints x ns
    unfold inV at ih ⊢
    rw [List.map_cons, List.any_cons, ih]
    by_cases e : n = x
    · subst e
      have e1 : eqV (.int n) (.int n) = true := by simp [eqV]
      rw [e1]
      simp
    · have e1 : eqV (.int n) (.int x) = false := by simp [eqV, e]
      rw [e1, Bool.false_or]
      have : (x ∈ n :: ns) ↔ x ∈ ns := by simp [Ne.symm e]
      simp [this]
theorem flat_ints (ns : List Int) : (ns.map V.int).all flatV = true := by
  rw [List.all_eq_true]
  intro v hv
  obtain ⟨i, _, rfl⟩ := List.mem_map.mp hv
  rfl
theorem ed_inT {x : Int} {ns : List Int} (h : ED K ta σ H (.int x)) (h2 : ED K tb σ H (.tup (ns.map .int))) : ED K (tOp (rIn K false) ta tb) σ H (.bl (decide (x ∈ ns))) := ed_op h h2 fun v w H2 _ r1 r2 Q q => by
  obtain ⟨a, xs, rfl, s, rr⟩ := rp_tup r2
  have ex := ints_rps rr
  subst ex
  rw [rp_int r1]
  refine ⟨a, _, rfl, .inr s, rfl, flat_ints ns, ?_⟩
  rw [inV_ints]
  exact q _ _ H2 (Le.refl _) rfl (.bl _)
theorem ed_ninT {x : Int} {ns : List Int} (h : ED K ta σ H (.int x)) (h2 : ED K tb σ H (.tup (ns.map .int))) : ED K (tOp (rIn K true) ta tb) σ H (.bl (!decide (x ∈ ns))) := ed_op h h2 fun v w H2 _ r1 r2 Q q => by
  obtain ⟨a, xs, rfl, s, rr⟩ := rp_tup r2
  have ex := ints_rps rr
  subst ex
  rw [rp_int r1]
  refine ⟨a, _, rfl, .inr s, rfl, flat_ints ns, ?_⟩
  rw [inV_ints]
  exact q _ _ H2 (Le.refl _) rfl (.bl _)
theorem ed_all {bs : List Bool} (h : ED K ta σ H (.lst (bs.map .bl))) : ED K (tCB (rAll K) (tCons ta tNil)) σ H (.bl (bs.all id)) := ed_cb (ea_cons h ea_nil) fun vs H2 _ r Q q => by
  obtain ⟨v, rfl, h⟩ := rps1 r
  obtain ⟨a, xs, rfl, s, nh, rr⟩ := rp_lst h
  have ex := bls_rps rr
  subst ex
  exact ⟨a, bs, rfl, SqL.of s, q _ _ H2 (Le.refl _) rfl (.bl _)⟩
/-! isinstance -/
def tyD : D → String
  | .non => "NoneType"
  | .bl _ => "bool"
  | .int _ => "int"
  | .str _ => "str"
  | .tup _ => "tuple"
  | .lst _ => "list"
  | .obj _ => "object"
theorem tyx_of {v : V} (hno : ∀ u, d ≠ .obj u) (r : Rp K H v d) : TyX K H v (.type (tyD d)) := by
  cases r with
  | non => exact .base .non
  | bl b => exact .base (.bl b)
  | int i => exact .base (.int i)
  | str x => exact .base (.str x)
  | obj v => exact absurd rfl (hno v)
  | lst h _ _ => exact .base (.lst h)
  | tup h _ =>
    rcases h with (h | ⟨o, h⟩) | h
    · exact .base (.tup h)
    · exact .fTuple h
    · obtain ⟨o, its, n, hk, hc, _⟩ := h
      exact .kTuple hk hc
theorem ed_isi {T : String} {b : Bool} (h : ED K ta σ H d) (ho : ∀ u, d ≠ .obj u) (hb : kitB (tyD d) T = some b) : ED K (tCB (rIsi K) (tCons ta (tCons (tC (.ty T)) tNil))) σ H (.bl b) := ed_cb (ea_cons h (ea_cons ed_obj ea_nil)) fun vs H2 _ r Q q => by
  obtain ⟨v, w, rfl, h1, h2⟩ := rps2 r
  have ew := rp_obj h2
  subst ew
  exact ⟨v, .ty T, .type (tyD d), .type T, b, rfl, .ty T, tyx_of ho h1, kit_ty hb, q _ _ H2 (Le.refl _) rfl (.bl _)⟩
end
end W1

set_option maxRecDepth 100000
set_option maxHeartbeats 4000000
/-! defs of a text, and the law's hand -/
namespace W1
open PySem PyProof.Rows L2
/-- a def of the text stands under its name -/
def GDef (K : PySem.W.Frag) (mg : Str → Option Value) (x : Str) (st : Stmt) (ps : List Str) : Prop := ∃ f fd, mg x = some (.ref f) ∧ Fun K x x st f fd ∧ Binds K fd ps []
/-- and keeps a promise -/
def Def (P : Program) (w : World) (K : PySem.W.Frag) (mg : Str → Option Value) (base : Heap) (k : Nat) (x : Str) (ps : List Str) (sp : Sp) : Prop :=
  ∃ f fd, mg x = some (.ref f) ∧ PySem.W.keepIn K (.ref f) = true ∧ Binds K fd ps [] ∧ FnOk P w K mg base CX0 k f fd ps sp
section
variable {P : Program} {w : World} {K : PySem.W.Frag} {mg : Str → Option Value} {base : Heap}
theorem defS {x : Str} {st : Stmt} {N ps : List Str} {k : Nat} {sp : Sp} (g : GDef K mg x st ps) (S : FnScope N ps (defScope st)) (hl : ∀ vs H Q E, sp vs H Q E → vs.length = ps.length)
    (body : ∀ (cdv : Value) (A : Around) (outer : List Env) (s : Shared) (f : Addr) (H : Hp) (vs : List V) (Q : VK) (E : XK), Room k (A.deeper (envOfC x (defScope st) s.heap.objs.size f cdv)) → sp vs H Q E →
      ∃ t, PSs (cxOf CX0 P w K mg base N x (defScope st) f cdv A outer s H E).nox (defBody st) t ∧ t { nx := fun _ H' => Q .non H', rt := Q } (start N vs) H) : Def P w K mg base (k + 1) x ps sp := by
  obtain ⟨f, fd, hm, F, hb⟩ := g
  exact ⟨f, fd, hm, F.kp, hb, F.ok S hl fun cdv A outer s H vs Q E hr h => body cdv A outer s f H vs Q E hr h⟩
theorem defD {x : Str} {st : Stmt} {N ps : List Str} {k : Nat} {R : List D → Hp → Pd → Prop} (g : GDef K mg x st ps) (S : FnScope N ps (defScope st)) (hl : ∀ ds H Pd, R ds H Pd → ds.length = ps.length)
    (body : ∀ (cdv : Value) (A : Around) (outer : List Env) (s : Shared) (f : Addr) (H : Hp) (vs : List V) (ds : List D) (Pd : Pd) (Q : VK) (E : XK), Room k (A.deeper (envOfC x (defScope st) s.heap.objs.size f cdv)) → Rps K H vs ds → R ds H Pd →
      (∀ v d H2, Le H H2 → Pd d H2 → Rp K H2 v d → Q v H2) →
      ∃ t, PSs (cxOf CX0 P w K mg base N x (defScope st) f cdv A outer s H E).nox (defBody st) t ∧ t { nx := fun _ H' => Q .non H', rt := Q } (start N vs) H) : Def P w K mg base (k + 1) x ps (spD K R) := by
  refine defS g S (fun vs H Q E h => ?_) fun cdv A outer s f H vs Q E hr h => ?_
  · obtain ⟨ds, Pd, r, h, _⟩ := h
    rw [r.len]
    exact hl ds H Pd h
  · obtain ⟨ds, Pd, r, h, q⟩ := h
    exact body cdv A outer s f H vs ds Pd Q E hr r h q
end
section
variable {X : Cx} {k j : Nat} {x : Str} {ps : List Str} {sp : Sp} {p pos : Pos} {e : Expr} {es : List Expr} {t : TA}
theorem pe_def (G : Def X.prog X.w X.K X.mg X.base k x ps sp) (hr : Room k X.A) (ha : PA X (e :: es) t) (hg : Gl X x := by rfl)
    (hdb : (x == ("__debug__" : Str)) = false := by decide) (he : starEach (e :: es) X.env = (false, eval e X.env) :: starEach es X.env := by rfl) (hpl : (backTo pos (starEach es X.env)).any (·.1) = false := by rfl) :
    PE X (.Call (.Name x p) (e :: es) [] pos) (tCall sp [] E0 t) := by
  obtain ⟨f, fd, hm, hk, hb, F⟩ := G
  exact pe_call F hr hg hm hk hb .nil pass0 ha hdb he hpl
end
/-! ### the hand: the law's cells and counters -/
structure HandAt (H : Hp) (h c : Addr) (cells : List Int) (p x s n : Int) : Prop where
  hand : H h = some (.lst [.ref c, .int p, .int x, .int s, .int n])
  cell : H c = some (.lst (cells.map V.int))
  p0 : 0 ≤ p
  x0 : 0 ≤ x
  pos : ∀ z ∈ cells, 0 ≤ z
def Hand (H : Hp) (h : Addr) : Prop := ∃ c cells p x s n, HandAt H h c cells p x s n
theorem HandAt.ne {H : Hp} {h c : Addr} {cells : List Int} {p x s n : Int} (a : HandAt H h c cells p x s n) : c ≠ h := fun e => by
  have h1 := a.hand
  rw [← e, a.cell] at h1
  have h2 := HO.lst.inj (Option.some.inj h1)
  cases cells with
  | nil => cases h2
  | cons z zs =>
    injection h2 with h3 _
    cases h3
theorem Hand.le {H H' : Hp} {h : Addr} (e : Le H H') (a : Hand H h) : Hand H' h := by
  obtain ⟨c, cells, p, x, s, n, a⟩ := a
  have c1 := e.lst a.cell (notH_ints cells)
  rcases e h _ a.hand with h1 | ⟨c2, p2, x2, s2, n2, p3, x3, s3, n3, e2, h1, u, v⟩
  · exact ⟨c, cells, p, x, s, n, h1, c1, a.p0, a.x0, a.pos⟩
  · have e3 := HO.lst.inj e2
    injection e3 with e4 e5
    injection e4 with e4
    subst e4
    exact ⟨c, cells, p3, x3, s3, n3, h1, c1, u, v, a.pos⟩
/-- the hand is changed: what else stands stands -/
theorem HandAt.put {H : Hp} {h c : Addr} {cells : List Int} {p x s n p2 x2 s2 n2 : Int} (a : HandAt H h c cells p x s n) (hp : 0 ≤ p2) (hx : 0 ≤ x2) :
    HandAt (upd H h (.lst [.ref c, .int p2, .int x2, .int s2, .int n2])) h c cells p2 x2 s2 n2 ∧ Le H (upd H h (.lst [.ref c, .int p2, .int x2, .int s2, .int n2])) := by
  refine ⟨⟨upd_same, by rw [upd_ne a.ne]; exact a.cell, hp, hx, a.pos⟩, fun b o e => ?_⟩
  by_cases hb : b = h
  · subst hb
    rw [a.hand] at e
    have e2 := Option.some.inj e
    exact .inr ⟨c, p, x, s, n, p2, x2, s2, n2, e2.symm, upd_same, hp, hx⟩
  · rw [upd_ne hb]
    exact .inl e
end W1

set_option maxRecDepth 100000
set_option maxHeartbeats 4000000
/-! comprehensions of typed data -/
namespace W1
open PySem PyProof.Rows L2
structure Enc {α : Type} (enc : α → D) : Prop where
  uni : (∀ a, ∃ i, enc a = .int i) ∨ ∀ a, (∀ i, enc a ≠ .int i) ∧ ∀ v, enc a ≠ .obj v
  noL : ∀ a, NoL (enc a)
theorem Enc.un {α : Type} {enc : α → D} (E : Enc enc) (zs : List α) : Uni (zs.map enc) := by
  rcases E.uni with u | u
  · refine .inl fun d hd => ?_
    obtain ⟨a, _, rfl⟩ := List.mem_map.mp hd
    exact u a
  · refine .inr fun d hd => ?_
    obtain ⟨a, _, rfl⟩ := List.mem_map.mp hd
    exact u a
theorem Enc.nl {α : Type} {enc : α → D} (E : Enc enc) (zs : List α) : ∀ d ∈ zs.map enc, NoL d := fun d hd => by
  obtain ⟨a, _, rfl⟩ := List.mem_map.mp hd
  exact E.noL a
theorem enc_int : Enc D.int := ⟨.inl fun a => ⟨a, rfl⟩, fun a => .int a⟩
theorem enc_bl : Enc D.bl := ⟨.inr fun a => ⟨fun _ => (fun e => nomatch e), fun _ => (fun e => nomatch e)⟩, fun a => .bl a⟩
theorem enc_tup {α : Type} {f : α → List D} (h : ∀ a, ∀ d ∈ f a, NoL d) : Enc fun a => D.tup (f a) := ⟨.inr fun a => ⟨fun _ => (fun e => nomatch e), fun _ => (fun e => nomatch e)⟩, fun a => .tup (h a)⟩
def eP (p : Int × Int) : D := .tup [.int p.1, .int p.2]
theorem enc_P : Enc eP := enc_tup fun a d hd => by
  rcases List.mem_cons.mp hd with rfl | hd
  · exact .int _
  · rcases List.mem_cons.mp hd with rfl | hd
    · exact .int _
    · cases hd
def GI {α : Type} (enc : α → D) (J : Nat → List α → Prop) : Nat → List D → Prop := fun i acc => ∃ zs : List α, acc = zs.map enc ∧ zs.length ≤ 50000 ∧ J i zs
theorem good {α : Type} {enc : α → D} (E : Enc enc) (J : Nat → List α → Prop) : Good (GI enc J) := by
  refine ⟨?_, ?_, ?_⟩
  · rintro i acc ⟨zs, rfl, _, _⟩
    exact E.un zs
  · rintro i acc ⟨zs, rfl, _, _⟩
    exact E.nl zs
  · rintro i acc ⟨zs, rfl, h, _⟩
    rw [List.length_map]
    exact h
theorem GI.more {α : Type} {enc : α → D} {J : Nat → List α → Prop} {i : Nat} {zs : List α} {a : α} (hz : (zs ++ [a]).length ≤ 50000) (j : J (i + 1) (zs ++ [a])) : GI enc J (i + 1) (zs.map enc ++ [enc a]) := ⟨zs ++ [a], by simp, hz, j⟩
section
variable {K : PySem.W.Frag} {σ : L2.St} {H H' : Hp} {ta tb tc te : TE} {tt : TT} {ra : TA} {d : D} {vs : List Nat} {α β : Type} {enc : α → D} {encS : β → D}
theorem map_at {xs : List β} {i : Nat} (h : (xs.map encS)[i]? = some d) : ∃ b, xs[i]? = some b ∧ d = encS b := by
  rw [List.getElem?_map] at h
  cases e : xs[i]? with
  | none =>
    rw [e] at h
    cases h
  | some b =>
    rw [e] at h
    exact ⟨b, rfl, (Option.some.inj h).symm⟩
theorem fm_yes {xs : List β} {i : Nat} {b : β} {f : β → Bool} {g : β → α} (h : xs[i]? = some b) (hf : f b = true) : ((xs.take (i + 1)).filter f).map g = ((xs.take i).filter f).map g ++ [g b] := by
  rw [List.take_add_one, h]
  simp [hf]
theorem fm_no {xs : List β} {i : Nat} {b : β} {f : β → Bool} {g : β → α} (h : xs[i]? = some b) (hf : f b = false) : ((xs.take (i + 1)).filter f).map g = ((xs.take i).filter f).map g := by
  rw [List.take_add_one, h]
  simp [hf]
theorem fm_len (xs : List β) (f : β → Bool) (g : β → α) : ((xs.filter f).map g).length ≤ xs.length := by
  rw [List.length_map]
  exact List.length_filter_le f xs
theorem et_yes : EB tYes σ H true := fun H1 _ Q q => q true H1 (Le.refl _) rfl
/-- [g b for b in xs if f b], xs a tuple -/
theorem ed_lcT (E : Enc enc) (xs : List β) (f : β → Bool) (g : β → α) {j : Nat} (h : ED K ta σ H (.tup (xs.map encS))) (hz : xs.length ≤ 50000) (hw : ∀ x, wipe ((wipe σ vs).set j (some x)) vs = wipe σ vs)
    (ht : ∀ b v H1, Le H H1 → b ∈ xs → Rp K H1 v (encS b) → EB tt ((wipe σ vs).set j (some v)) H1 (f b))
    (he : ∀ b v H1, Le H H1 → b ∈ xs → Rp K H1 v (encS b) → f b = true → ED K te ((wipe σ vs).set j (some v)) H1 (enc (g b))) : ED K (tLc (iTup K ta) (gName j) tt te vs) σ H (.lst (((xs.filter f).map g).map enc)) := by
  refine EP.weak (ep_lcT (I := GI enc fun i zs => zs = ((xs.take i).filter f).map g) (PT := fun i d b => ∃ y, xs[i]? = some y ∧ b = f y) (good E _) h hw ⟨[], rfl, Nat.zero_le _, by simp⟩ ?_ ?_ ?_) ?_
  · intro i d v acc H1 e hd r _
    obtain ⟨b, hb, rfl⟩ := map_at hd
    exact et_weak (ht b v H1 e (List.mem_of_getElem? hb) r) fun x p => ⟨b, hb, p⟩
  · rintro i d v acc H1 e hd r ⟨zs, rfl, hl, rfl⟩ ⟨b, hb, hf⟩
    obtain ⟨b2, hb2, rfl⟩ := map_at hd
    cases hb.symm.trans hb2
    refine (he b v H1 e (List.mem_of_getElem? hb) r hf.symm).weak fun d' H2 _ p => ?_
    have p' : d' = enc (g b) := p
    subst p'
    refine ⟨GI.more ?_ (fm_yes hb hf.symm).symm, E.noL _⟩
    rw [← fm_yes hb hf.symm]
    exact Nat.le_trans (fm_len _ f g) (Nat.le_trans (List.length_take_le _ _) (by
      have := (List.getElem?_eq_some_iff.mp hb).1
      omega))
  · rintro i d acc hd ⟨zs, rfl, hl, rfl⟩ ⟨b, hb, hf⟩
    exact ⟨_, rfl, hl, (fm_no hb hf.symm).symm⟩
  · rintro d H2 _ ⟨acc, rfl, zs, rfl, _, rfl⟩
    rw [List.length_map, List.take_length]
theorem ed_lcL (E : Enc enc) (xs : List β) (f : β → Bool) (g : β → α) {j : Nat} (h : ED K ta σ H (.lst (xs.map encS))) (hz : xs.length ≤ 50000) (hw : ∀ x, wipe ((wipe σ vs).set j (some x)) vs = wipe σ vs)
    (ht : ∀ b v H1, Le H H1 → b ∈ xs → Rp K H1 v (encS b) → EB tt ((wipe σ vs).set j (some v)) H1 (f b))
    (he : ∀ b v H1, Le H H1 → b ∈ xs → Rp K H1 v (encS b) → f b = true → ED K te ((wipe σ vs).set j (some v)) H1 (enc (g b))) : ED K (tLc (iList K ta) (gName j) tt te vs) σ H (.lst (((xs.filter f).map g).map enc)) := by
  refine EP.weak (ep_lcL (I := GI enc fun i zs => zs = ((xs.take i).filter f).map g) (PT := fun i d b => ∃ y, xs[i]? = some y ∧ b = f y) (good E _) h hw ⟨[], rfl, Nat.zero_le _, by simp⟩ ?_ ?_ ?_) ?_
  · intro i d v acc H1 e hd r _
    obtain ⟨b, hb, rfl⟩ := map_at hd
    exact et_weak (ht b v H1 e (List.mem_of_getElem? hb) r) fun x p => ⟨b, hb, p⟩
  · rintro i d v acc H1 e hd r ⟨zs, rfl, hl, rfl⟩ ⟨b, hb, hf⟩
    obtain ⟨b2, hb2, rfl⟩ := map_at hd
    cases hb.symm.trans hb2
    refine (he b v H1 e (List.mem_of_getElem? hb) r hf.symm).weak fun d' H2 _ p => ?_
    have p' : d' = enc (g b) := p
    subst p'
    refine ⟨GI.more ?_ (fm_yes hb hf.symm).symm, E.noL _⟩
    rw [← fm_yes hb hf.symm]
    exact Nat.le_trans (fm_len _ f g) (Nat.le_trans (List.length_take_le _ _) (by
      have := (List.getElem?_eq_some_iff.mp hb).1
      omega))
  · rintro i d acc hd ⟨zs, rfl, hl, rfl⟩ ⟨b, hb, hf⟩
    exact ⟨_, rfl, hl, (fm_no hb hf.symm).symm⟩
  · rintro d H2 _ ⟨acc, rfl, zs, rfl, _, rfl⟩
    rw [List.length_map, List.take_length]
/-- .. over range(n) -/
theorem ed_lcR (E : Enc enc) {n : Nat} (f : Nat → Bool) (g : Nat → α) {j : Nat} (h : EDA K ra σ H [.int (n : Int)]) (hz : n ≤ 50000) (hw : ∀ x, wipe ((wipe σ vs).set j (some x)) vs = wipe σ vs)
    (ht : ∀ (i : Nat) H1, Le H H1 → i < n → EB tt ((wipe σ vs).set j (some (.int (i : Int)))) H1 (f i))
    (he : ∀ (i : Nat) H1, Le H H1 → i < n → f i = true → ED K te ((wipe σ vs).set j (some (.int (i : Int)))) H1 (enc (g i))) : ED K (tLc (iRng1 ra) (gName j) tt te vs) σ H (.lst ((((List.range n).filter f).map g).map enc)) := by
  refine EP.weak (ep_lcR1 (I := GI enc fun i zs => zs = ((List.range i).filter f).map g) (PT := fun i b => b = f i) (good E _) h (by omega) hw ⟨[], rfl, Nat.zero_le _, by simp⟩ ?_ ?_ ?_) ?_
  · intro i acc H1 e hi _
    exact ht i H1 e (by omega)
  · rintro i acc H1 e hi ⟨zs, rfl, hl, rfl⟩ hf
    refine (he i H1 e (by omega) hf.symm).weak fun d' H2 _ p => ?_
    have p' : d' = enc (g i) := p
    subst p'
    have ey : ((List.range (i + 1)).filter f).map g = ((List.range i).filter f).map g ++ [g i] := by
      rw [List.range_succ]
      simp [← hf]
    refine ⟨GI.more ?_ ey.symm, E.noL _⟩
    rw [← ey]
    refine Nat.le_trans (fm_len _ f g) ?_
    rw [List.length_range]
    omega
  · rintro i acc hi ⟨zs, rfl, hl, rfl⟩ hf
    refine ⟨_, rfl, hl, ?_⟩
    show _ = ((List.range (i + 1)).filter f).map g
    rw [List.range_succ]
    simp [← hf]
  · rintro d H2 _ ⟨acc, rfl, zs, rfl, _, rfl⟩
    rw [Int.toNat_natCast]
/-- a list of n things of which each has been drawn: all have Z -/
theorem ep_lcR (E : Enc enc) {n : Nat} (Z : α → Prop) {j : Nat} (h : EDA K ra σ H [.int (n : Int)]) (hz : n ≤ 50000) (hw : ∀ x, wipe ((wipe σ vs).set j (some x)) vs = wipe σ vs)
    (he : ∀ (i : Nat) H1, Le H H1 → i < n → EP K te ((wipe σ vs).set j (some (.int (i : Int)))) H1 (fun d _ => ∃ a, d = enc a ∧ Z a)) :
    EP K (tLc (iRng1 ra) (gName j) tYes te vs) σ H (fun d _ => ∃ zs : List α, d = .lst (zs.map enc) ∧ zs.length = n ∧ ∀ a ∈ zs, Z a) := by
  refine EP.weak (ep_lcR1 (I := GI enc fun i zs => zs.length = i ∧ ∀ a ∈ zs, Z a) (PT := fun i b => b = true) (good E _) h (by omega) hw ⟨[], rfl, Nat.zero_le _, rfl, by simp⟩ ?_ ?_ ?_) ?_
  · intro i acc H1 e hi _
    exact et_yes
  · rintro i acc H1 e hi ⟨zs, rfl, hl, rfl, hZ⟩ _
    refine (he _ H1 e (by omega)).weak fun d' H2 _ p => ?_
    obtain ⟨a, rfl, za⟩ := p
    refine ⟨GI.more (by simp; omega) ⟨by simp, fun x hx => ?_⟩, E.noL _⟩
    rcases List.mem_append.mp hx with hx | hx
    · exact hZ x hx
    · rw [List.mem_singleton.mp hx]
      exact za
  · rintro i acc hi _ hf
    cases hf
  · rintro d H2 _ ⟨acc, rfl, zs, rfl, _, hl, hZ⟩
    exact ⟨zs, rfl, by rw [hl, Int.toNat_natCast], hZ⟩
/-- xs a list, each item kept or not as it is drawn: some of xs, in order -/
theorem ep_lcSub (E : Enc enc) (xs : List α) (Z : α → Prop) {j : Nat} (h : ED K ta σ H (.lst (xs.map enc))) (hz : xs.length ≤ 50000) (hw : ∀ x, wipe ((wipe σ vs).set j (some x)) vs = wipe σ vs)
    (ht : ∀ b v H1, Le H H1 → b ∈ xs → Rp K H1 v (enc b) → ET tt ((wipe σ vs).set j (some v)) H1 (fun x => x = true → Z b))
    (he : ∀ b v H1, Le H H1 → b ∈ xs → Rp K H1 v (enc b) → ED K te ((wipe σ vs).set j (some v)) H1 (enc b)) : EP K (tLc (iList K ta) (gName j) tt te vs) σ H (fun d _ => ∃ zs : List α, d = .lst (zs.map enc) ∧ zs.Sublist xs) := by
  refine EP.weak (ep_lcL (I := GI enc fun i zs => zs.Sublist (xs.take i)) (PT := fun i d b => True) (good E _) h hw ⟨[], rfl, Nat.zero_le _, by simp⟩ ?_ ?_ ?_) ?_
  · intro i d v acc H1 e hd r _
    obtain ⟨b, hb, rfl⟩ := map_at hd
    exact et_weak (ht b v H1 e (List.mem_of_getElem? hb) r) fun x p => trivial
  · rintro i d v acc H1 e hd r ⟨zs, rfl, hl, hs⟩ _
    obtain ⟨b, hb, rfl⟩ := map_at hd
    refine (he b v H1 e (List.mem_of_getElem? hb) r).weak fun d' H2 _ p => ?_
    have p' : d' = enc b := p
    subst p'
    have ht : xs.take (i + 1) = xs.take i ++ [b] := by
      rw [List.take_add_one, hb]
      rfl
    have hs2 : (zs ++ [b]).Sublist (xs.take (i + 1)) := by
      rw [ht]
      exact hs.append (List.Sublist.refl _)
    exact ⟨GI.more (Nat.le_trans hs2.length_le (Nat.le_trans (List.length_take_le' _ _) hz)) hs2, E.noL _⟩
  · rintro i d acc hd ⟨zs, rfl, hl, hs⟩ _
    exact ⟨zs, rfl, hl, hs.trans (List.take_sublist_take_left (Nat.le_succ i))⟩
  · rintro d H2 _ ⟨acc, rfl, zs, rfl, _, hs⟩
    rw [List.length_map, List.take_length] at hs
    exact ⟨zs, rfl, hs⟩
/-- [g (lo + i)] over range(lo, hi) -/
theorem ed_lcR2 (E : Enc enc) {lo hi : Int} (g : Int → α) {j : Nat} (h : EDA K ra σ H [.int lo, .int hi]) (hz : -50000 ≤ lo ∧ lo ≤ 50000 ∧ -50000 ≤ hi ∧ hi ≤ 50000 ∧ hi - lo ≤ 50000) (hw : ∀ x, wipe ((wipe σ vs).set j (some x)) vs = wipe σ vs)
    (he : ∀ (i : Nat) H1, Le H H1 → lo + (i : Int) < hi → ED K te ((wipe σ vs).set j (some (.int (lo + (i : Int))))) H1 (enc (g (lo + (i : Int))))) : ED K (tLc (iRng2 ra) (gName j) tYes te vs) σ H (.lst (((List.range (hi - lo).toNat).map fun i : Nat => g (lo + (i : Int))).map enc)) := fun H1 e Q q => h H1 e _ fun ws ds H2 e2 p r => by
  have p' : ds = [.int lo, .int hi] := p
  subst p'
  obtain ⟨v, w, rfl, r1, r2⟩ := rps2 r
  have e3 := rp_int r1
  have e4 := rp_int r2
  subst e3 e4
  have G := good (enc := enc) E fun i zs => zs = (List.range i).map fun i : Nat => g (lo + (i : Int))
  refine ⟨lo, hi, rfl, by omega, fun L hL => lc_it (walk_range (lo := lo) (n := (hi - lo).toNat)) (CI K H2 L (GI enc fun i zs => zs = (List.range i).map fun i : Nat => g (lo + (i : Int)))) (ci_start (I := GI enc fun i zs => zs = (List.range i).map fun i : Nat => g (lo + (i : Int))) hL ⟨[], rfl, Nat.zero_le _, by simp⟩) (fun _ _ _ _ => trivial) ?_ (fun H' c => ?_)⟩
  · rintro i x H' _ hi2 c ⟨rfl, rfl⟩
    refine ⟨hw _, ci_turn G c (fun acc ia => et_yes) ?_ (fun acc ia pt => nomatch pt)⟩
    rintro acc ⟨zs, rfl, hl, rfl⟩ _
    refine (he i H2 (e.trans e2) (by omega)).weak fun d' H3 _ p => ?_
    have p' : d' = enc (g (lo + (i : Int))) := p
    subst p'
    refine ⟨GI.more ?_ ?_, E.noL _⟩
    · rw [List.length_append, List.length_map, List.length_range, List.length_singleton]
      omega
    · show _ = (List.range (i + 1)).map fun i : Nat => g (lo + (i : Int))
      rw [List.range_succ, List.map_append]
      rfl
  · exact ci_end G c fun v d H3 e3 p r => q v d H3 (e2.trans e3) (by
      obtain ⟨acc, rfl, zs, rfl, _, rfl⟩ := p
      rfl) r
/-- [g p for a, b in pairs if f p] -/
theorem ed_lcT2 (E : Enc enc) (xs : List (Int × Int)) (f : Int × Int → Bool) (g : Int × Int → α) {j l : Nat} (h : ED K ta σ H (.tup (xs.map eP))) (hz : xs.length ≤ 50000) (hw : ∀ x y, wipe (((wipe σ vs).set j (some x)).set l (some y)) vs = wipe σ vs)
    (ht : ∀ p H1, Le H H1 → p ∈ xs → EB tt (((wipe σ vs).set j (some (.int p.1))).set l (some (.int p.2))) H1 (f p))
    (he : ∀ p H1, Le H H1 → p ∈ xs → f p = true → ED K te (((wipe σ vs).set j (some (.int p.1))).set l (some (.int p.2))) H1 (enc (g p))) :
    ED K (tLc (iTup K ta) (gTup K 2 (gCons (gName j) (gCons (gName l) gNil))) tt te vs) σ H (.lst (((xs.filter f).map g).map enc)) := fun H1 e Q q => h H1 e _ fun v d0 H2 e2 p r => by
  have p' : d0 = .tup (xs.map eP) := p
  subst p'
  obtain ⟨a, us, rfl, s, rr⟩ := rp_tup r
  have G := good (enc := enc) E fun i zs => zs = ((xs.take i).filter f).map g
  refine ⟨a, rfl, ⟨us, s⟩, fun L hL => lc_it (walk_tup (xs := us)) (CI K H2 L (GI enc fun i zs => zs = ((xs.take i).filter f).map g)) (ci_start (I := GI enc fun i zs => zs = ((xs.take i).filter f).map g) hL ⟨[], rfl, Nat.zero_le _, by simp⟩) (fun i H' _ c => c.2.1.sqt s) ?_ (fun H' c => ?_)⟩
  · rintro i x H' _ hi c ⟨rfl, hx⟩
    obtain ⟨d, h1, h2⟩ := rr.at' hx
    obtain ⟨b, hb, rfl⟩ := map_at h1
    obtain ⟨t, ys, rfl, st, r3⟩ := rp_tup (h2.le c.2.1)
    obtain ⟨v1, v2, rfl, q1, q2⟩ := rps2 r3
    have e3 := rp_int q1
    have e4 := rp_int q2
    subst e3 e4
    have hm := List.mem_of_getElem? hb
    refine ⟨t, _, rfl, st, rfl, _, _, rfl, _, _, rfl, rfl, hw _ _, ci_turn G c (PT := fun x => x = f b) (fun acc ia => ht b H2 (e.trans e2) hm) ?_ ?_⟩
    · rintro acc ⟨zs, rfl, hl, rfl⟩ hf
      refine (he b H2 (e.trans e2) hm hf.symm).weak fun d' H3 _ p => ?_
      have p' : d' = enc (g b) := p
      subst p'
      refine ⟨GI.more ?_ (fm_yes hb hf.symm).symm, E.noL _⟩
      rw [← fm_yes hb hf.symm]
      exact Nat.le_trans (fm_len _ f g) (Nat.le_trans (List.length_take_le _ _) (by
        have := (List.getElem?_eq_some_iff.mp hb).1
        omega))
    · rintro acc ⟨zs, rfl, hl, rfl⟩ hf
      exact ⟨_, rfl, hl, (fm_no hb hf.symm).symm⟩
  · rw [rr.len, List.length_map] at c
    exact ci_end G c fun v d H3 e3 p r => q v d H3 (e2.trans e3) (by
      obtain ⟨acc, rfl, zs, rfl, _, rfl⟩ := p
      show D.lst _ = D.lst _
      rw [List.take_length]) r
end
end W1

set_option maxRecDepth 100000
set_option maxHeartbeats 4000000
/-! the same, something behind -/
namespace W1
open PySem PyProof.Rows L2
section
variable {K : PySem.W.Frag} {σ : L2.St} {H H' : Hp} {ta tb tc te : TE} {t u : TT} {x y z v : V} {d d1 d2 d3 : D} {P P1 P2 P3 : Pd} {D1 : Ends} {tu tw tz : TS} {g : TG}
theorem q_asg {i : Nat} (h : EP K te σ H P) (k : ∀ v d H1, Le H H1 → P d H1 → Rp K H1 v d → tz D1 (σ.set i (some v)) H1) : tSeq (tAsg te (gName i)) tz D1 σ H := s_asg (D1 := { D1 with nx := tz D1 }) h k
theorem q_asgD {i : Nat} (h : ED K te σ H d) (k : ∀ v H1, Le H H1 → Rp K H1 v d → tz D1 (σ.set i (some v)) H1) : tSeq (tAsg te (gName i)) tz D1 σ H := s_asgD (D1 := { D1 with nx := tz D1 }) h k
theorem q_tup2 {i j : Nat} (h : ED K te σ H (.tup [d1, d2])) (k : ∀ v w H1, Le H H1 → Rp K H1 v d1 → Rp K H1 w d2 → tz D1 ((σ.set i (some v)).set j (some w)) H1) : tSeq (tAsg te (gTup K 2 (gCons (gName i) (gCons (gName j) gNil)))) tz D1 σ H := s_tup2 (D1 := { D1 with nx := tz D1 }) h k
theorem q_tup3 {i j l : Nat} {PA : List D → Hp → Prop} {ta : TA} (h : EA K ta σ H PA) (hl : ∀ ds H1, PA ds H1 → ds.length = 3)
    (k : ∀ v w u d1 d2 d3 H1, Le H H1 → PA [d1, d2, d3] H1 → Rp K H1 v d1 → Rp K H1 w d2 → Rp K H1 u d3 → ∀ H2, Le H1 H2 → tz D1 (((σ.set i (some v)).set j (some w)).set l (some u)) H2) : tSeq (tAsg (tTup ta) (gTup K 3 (gCons (gName i) (gCons (gName j) (gCons (gName l) gNil))))) tz D1 σ H := s_tup3 (D1 := { D1 with nx := tz D1 }) h hl k
theorem q_par2 {i j : Nat} {ta : TA} {PA : List D → Hp → Prop} (h : EA K ta σ H PA) (hl : ∀ ds H1, PA ds H1 → ds.length = 2)
    (k : ∀ v w d1 d2 H1, Le H H1 → PA [d1, d2] H1 → Rp K H1 v d1 → Rp K H1 w d2 → tz D1 ((σ.set i (some v)).set j (some w)) H1) : tSeq (tPar i j ta) tz D1 σ H := s_par2 (D1 := { D1 with nx := tz D1 }) h hl k
theorem q_drop (h : EP K te σ H P) (k : ∀ H1, Le H H1 → tz D1 σ H1) : tSeq (tDrop te) tz D1 σ H := s_drop (D1 := { D1 with nx := tz D1 }) h k
theorem q_if {P : Bool → Prop} (h : ET t σ H P) (h1 : P true → ∀ H1, Le H H1 → tu { D1 with nx := tz D1 } σ H1) (h2 : P false → ∀ H1, Le H H1 → tw { D1 with nx := tz D1 } σ H1) : tSeq (tIfS t tu tw) tz D1 σ H := s_if (D1 := { D1 with nx := tz D1 }) h h1 h2
theorem q_ifB {b : Bool} (h : EB t σ H b) (h1 : b = true → ∀ H1, Le H H1 → tu { D1 with nx := tz D1 } σ H1) (h2 : b = false → ∀ H1, Le H H1 → tw { D1 with nx := tz D1 } σ H1) : tSeq (tIfS t tu tw) tz D1 σ H := s_ifB (D1 := { D1 with nx := tz D1 }) h h1 h2
theorem q_set {l : Addr} {vs : List V} {ds : List D} {i : Int} (hl : H l = some (.lst vs)) (nh : NotH vs) (hr : vs.length = ds.length) (h : EP K te σ H P) (ho : ∀ H1, Le H H1 → ED K ta σ H1 (.obj (.ref l))) (hi : ∀ H1, Le H H1 → ED K tb σ H1 (.int i)) (h0 : 0 ≤ i) (hj : i < ds.length)
    (k : ∀ y d H1 H3, Le H H1 → P d H1 → Le H1 H3 → Rp K H3 y d → H3 l = some (.lst vs) → tz D1 σ (upd H3 l (.lst (vs.set i.toNat y)))) : tSeq (tAsg te (gSub ta tb rSetL)) tz D1 σ H := s_set (D1 := { D1 with nx := tz D1 }) hl nh hr h ho hi h0 hj k
theorem q_app {l : Addr} {vs : List V} (hl : H l = some (.lst vs)) (nh : NotH vs) (ha : ED K ta σ H (.obj (.ref l))) (h : ∀ H1, Le H H1 → EP K te σ H1 P) (hz : vs.length < 100000)
    (k : ∀ y d H1, Le H H1 → P d H1 → Rp K H1 y d → H1 l = some (.lst vs) → tz D1 σ (upd H1 l (.lst (vs ++ [y])))) : tSeq (tDrop (tBM K "list" rAppend ta (tCons te tNil))) tz D1 σ H := s_app (D1 := { D1 with nx := tz D1 }) hl nh ha h hz k
theorem q_ext {l : Addr} {vs : List V} {ds : List D} (hl : H l = some (.lst vs)) (nh : NotH vs) (ha : ED K ta σ H (.obj (.ref l))) (h : ∀ H1, Le H H1 → ED K te σ H1 (.lst ds)) (hz : vs.length + ds.length ≤ 100000)
    (k : ∀ ws H1, Le H H1 → Rps K H1 ws ds → H1 l = some (.lst vs) → tz D1 σ (upd H1 l (.lst (vs ++ ws)))) : tSeq (tDrop (tBM K "list" rExtend ta (tCons te tNil))) tz D1 σ H := s_ext (D1 := { D1 with nx := tz D1 }) hl nh ha h hz k
theorem q_forT {ds : List D} (h : ED K te σ H (.tup ds)) (nl : ∀ d ∈ ds, NoL d)
    (k : ∀ H1, Le H H1 → ∃ Pv : Nat → L2.St → Hp → Prop, Pv 0 σ H1 ∧ (∀ i σ' H', i ≤ ds.length → Pv i σ' H' → LeT H1 H') ∧
      (∀ i d v σ' H', ds[i]? = some d → Rp K H' v d → Pv i σ' H' → g v σ' H' fun σ2 H2 => tu ({ D1 with nx := Pv (i + 1), ct := Pv (i + 1), bk := tz D1 }) σ2 H2) ∧ ∀ σ' H', Pv ds.length σ' H' → tz D1 σ' H') : tSeq (tFor (iTup K te) g tu) tz D1 σ H := s_forT (D1 := { D1 with nx := tz D1 }) h nl k
theorem q_forL {ds : List D} (h : ED K te σ H (.lst ds)) (nl : ∀ d ∈ ds, NoL d)
    (k : ∀ a vs H1, Le H H1 → H1 a = some (.lst vs) → Rps K H1 vs ds → ∃ Pv : Nat → L2.St → Hp → Prop, Pv 0 σ H1 ∧ (∀ i σ' H', i ≤ ds.length → Pv i σ' H' → LeT H1 H' ∧ H' a = some (.lst vs)) ∧
      (∀ i d v σ' H', ds[i]? = some d → Rp K H' v d → Pv i σ' H' → g v σ' H' fun σ2 H2 => tu ({ D1 with nx := Pv (i + 1), ct := Pv (i + 1), bk := tz D1 }) σ2 H2) ∧ ∀ σ' H', Pv ds.length σ' H' → tz D1 σ' H') : tSeq (tFor (iList K te) g tu) tz D1 σ H := s_forL (D1 := { D1 with nx := tz D1 }) h nl k
theorem q_forR1 {ta : TA} {n : Int} (h : EDA K ta σ H [.int n]) (hn : -100000 ≤ n ∧ n ≤ 100000)
    (k : ∀ H1, Le H H1 → ∃ Pv : Nat → L2.St → Hp → Prop, Pv 0 σ H1 ∧
      (∀ (i : Nat) σ' H', (i : Int) < n → Pv i σ' H' → g (.int (i : Int)) σ' H' fun σ2 H2 => tu ({ D1 with nx := Pv (i + 1), ct := Pv (i + 1), bk := tz D1 }) σ2 H2) ∧ ∀ σ' H', Pv n.toNat σ' H' → tz D1 σ' H') : tSeq (tFor (iRng1 ta) g tu) tz D1 σ H := s_forR1 (D1 := { D1 with nx := tz D1 }) h hn k
theorem q_forR2 {ta : TA} {lo n : Int} (h : EDA K ta σ H [.int lo, .int n]) (hl : -100000 ≤ lo ∧ lo ≤ 100000 ∧ -100000 ≤ n ∧ n ≤ 100000)
    (k : ∀ H1, Le H H1 → ∃ Pv : Nat → L2.St → Hp → Prop, Pv 0 σ H1 ∧
      (∀ (i : Nat) σ' H', lo + (i : Int) < n → Pv i σ' H' → g (.int (lo + (i : Int))) σ' H' fun σ2 H2 => tu ({ D1 with nx := Pv (i + 1), ct := Pv (i + 1), bk := tz D1 }) σ2 H2) ∧ ∀ σ' H', Pv (n - lo).toNat σ' H' → tz D1 σ' H') : tSeq (tFor (iRng2 ta) g tu) tz D1 σ H := s_forR2 (D1 := { D1 with nx := tz D1 }) h hl k
theorem q_forE {ta : TA} {j : Nat} {ds : List D} (h : EDA K ta σ H [.tup ds]) (nl : ∀ d ∈ ds, NoL d)
    (k : ∀ H1, Le H H1 → ∃ Pv : Nat → L2.St → Hp → Prop, Pv 0 σ H1 ∧ (∀ i σ' H', i ≤ ds.length → Pv i σ' H' → LeT H1 H') ∧
      (∀ (i : Nat) d v σ' H' H2, ds[i]? = some d → Pv i σ' H' → Le H' H2 → Rp K H2 v d → g v (σ'.set j (some (.int (i : Int)))) H2 fun σ2 H3 => gNil [] σ2 H3 fun σ4 H4 => tu ({ D1 with nx := Pv (i + 1), ct := Pv (i + 1), bk := tz D1 }) σ4 H4) ∧ ∀ σ' H', Pv ds.length σ' H' → tz D1 σ' H')  : tSeq (tFor (iEnumT K ta) (gTup K 2 (gCons (gName j) (gCons g gNil))) tu) tz D1 σ H := s_forE (D1 := { D1 with nx := tz D1 }) h nl k
theorem q_when {P : Bool → Prop} (h : ET t σ H P) (h1 : P true → ∀ H1, Le H H1 → tu { D1 with nx := tz D1 } σ H1) (h2 : P false → ∀ H1, Le H H1 → tz D1 σ H1) : tSeq (tIfS t tu tNext) tz D1 σ H := s_if (D1 := { D1 with nx := tz D1 }) h h1 h2
theorem q_whenB {b : Bool} (h : EB t σ H b) (h1 : b = true → ∀ H1, Le H H1 → tu { D1 with nx := tz D1 } σ H1) (h2 : b = false → ∀ H1, Le H H1 → tz D1 σ H1) : tSeq (tIfS t tu tNext) tz D1 σ H := s_ifB (D1 := { D1 with nx := tz D1 }) h h1 h2
theorem q_cut {M : L2.St → Hp → Prop} (h : tu { D1 with nx := M } σ H) (k : ∀ σ' H', M σ' H' → tz D1 σ' H') : Evl.tCut tu tz D1 σ H := ⟨M, h, k⟩
end
end W1

set_option maxRecDepth 100000
set_option maxHeartbeats 4000000
/-! new lists -/
namespace W1
open PySem PyProof.Rows L2
section
variable {K : PySem.W.Frag} {σ : L2.St} {H H' : Hp} {ta tb tc te : TE} {t u : TT} {d d1 d2 d3 : D} {P P1 P2 P3 : Pd} {D1 : Ends} {tu tw tz : TS} {g : TG}
/-- e makes a new list of data ds of which P holds -/
def EF (K : PySem.W.Frag) (te : TE) (σ : L2.St) (H : Hp) (P : List D → Prop) : Prop := ∀ H1, Le H H1 → ∀ Q : VK, (∀ p vs ds H2, H1 p = none → Le H1 H2 → H2 p = some (.lst vs) → NotH vs → Rps K H2 vs ds → P ds → Q (.ref p) H2) → te σ H1 Q
abbrev EFD (K : PySem.W.Frag) (te : TE) (σ : L2.St) (H : Hp) (ds : List D) : Prop := EF K te σ H fun x => x = ds
theorem EF.ep {PL : List D → Prop} (h : EF K te σ H PL) : EP K te σ H (fun d _ => ∃ ds, d = .lst ds ∧ PL ds) := fun H1 e Q q => h H1 e Q fun p vs ds H2 _ e2 hp nh r pl => q _ (.lst ds) H2 e2 ⟨ds, rfl, pl⟩ (.lst hp nh r)
theorem EFD.ed {ds : List D} (h : EFD K te σ H ds) : ED K te σ H (.lst ds) := fun H1 e Q q => h H1 e Q fun p vs ds' H2 _ e2 hp nh r pl => by
  have p' : ds' = ds := pl
  subst p'
  exact q _ (.lst ds') H2 e2 rfl (.lst hp nh r)
theorem ef_lst {A : TA} {ds : List D} (h : EDA K A σ H ds) (hl : ds.length ≤ 100000) (hc : calmL ds = true) : EFD K (tLst A) σ H ds := fun H1 e Q q => h H1 e _ fun vs es H2 e2 p r => by
  have p' : es = ds := p
  subst p'
  exact ⟨by rw [r.len]; exact Evl.sz_of hl, fun a na => q a vs es _ (e2.fresh na) (e2.trans (Le.new na)) upd_same (calm_notH hc r) (r.le (Le.new na)) rfl⟩
theorem ef_lstOfT {ds : List D} (h : ED K ta σ H (.tup ds)) (hu : Uni ds) : EFD K (tCB (rLstOf K) (tCons ta tNil)) σ H ds := fun H1 e Q q => h H1 e _ fun v d H2 e2 p r => by
  have p' : d = .tup ds := p
  subst p'
  obtain ⟨a, xs, rfl, s, rr⟩ := rp_tup r
  refine ⟨a, xs, rfl, .inr s, fun l hl => ?_⟩
  have rf := rr.le (Le.new (o := .lst xs) hl)
  exact q l xs ds _ (e2.fresh hl) (e2.trans (Le.new hl)) upd_same (hu.notH rf) rf rfl
theorem ef_lstOfL {ds : List D} (h : ED K ta σ H (.lst ds)) : EFD K (tCB (rLstOf K) (tCons ta tNil)) σ H ds := fun H1 e Q q => h H1 e _ fun v d H2 e2 p r => by
  have p' : d = .lst ds := p
  subst p'
  obtain ⟨a, xs, rfl, s, nh, rr⟩ := rp_lst r
  exact ⟨a, xs, rfl, .inl (SqL.of s), fun l hl => q l xs ds _ (e2.fresh hl) (e2.trans (Le.new hl)) upd_same nh (rr.le (Le.new hl)) rfl⟩
theorem ef_rep {ds : List D} {k : Int} (ha : ED K ta σ H (.lst ds)) (hb : ED K tb σ H (.int k)) (h1 : 0 ≤ k ∧ k ≤ 1000) (hz : ds.length ≤ 1000) (hu : Uni (List.replicate k.toNat ds).flatten) : EFD K (tOp rRep ta tb) σ H (List.replicate k.toNat ds).flatten := fun H1 e Q q =>
  ha H1 e _ fun x d1 H2 e2 p1 r1 => hb H2 (e.trans e2) _ fun y d2 H3 e3 p2 r2 => by
    have p1' : d1 = .lst ds := p1
    have p2' : d2 = .int k := p2
    subst p1' p2'
    obtain ⟨a, xs, rfl, s, nh, rr⟩ := rp_lst (r1.le e3)
    have hm : xs.length * k.toNat ≤ 1000 * 1000 := Nat.mul_le_mul (by rw [rr.len]; exact hz) (by omega)
    refine ⟨a, k, xs, rfl, rp_int r2, s, by omega, by omega, Nat.le_trans hm (by decide), fun p np => ?_⟩
    have rf := (rr.le (Le.new (o := .lst (List.replicate k.toNat xs).flatten) np)).flat k.toNat
    exact q p _ _ _ ((e2.trans e3).fresh np) ((e2.trans e3).trans (Le.new np)) upd_same (hu.notH rf) rf rfl
theorem s_asgF {i : Nat} {PL : List D → Prop} (h : EF K te σ H PL) (k : ∀ p vs ds H1, H p = none → Le H H1 → H1 p = some (.lst vs) → NotH vs → Rps K H1 vs ds → PL ds → D1.nx (σ.set i (some (.ref p))) H1) : tAsg te (gName i) D1 σ H := h H (Le.refl _) _ k
theorem q_asgF {i : Nat} {PL : List D → Prop} (h : EF K te σ H PL) (k : ∀ p vs ds H1, H p = none → Le H H1 → H1 p = some (.lst vs) → NotH vs → Rps K H1 vs ds → PL ds → tz D1 (σ.set i (some (.ref p))) H1) : tSeq (tAsg te (gName i)) tz D1 σ H := s_asgF (D1 := { D1 with nx := tz D1 }) h k
end
end W1

set_option maxRecDepth 100000
set_option maxHeartbeats 4000000
/-! rules whose reading names the written part, with its name given -/
namespace W1
open PySem PyProof.Rows L2
section
variable {X : Cx} {K : PySem.W.Frag} {w : World}
theorem kop_in (h : X.K = K := by rfl) : OpR X (compareOp .In) (rIn K false) := h ▸ op_in_seq
theorem kop_nin (h : X.K = K := by rfl) : OpR X (compareOp .NotIn) (rIn K true) := h ▸ op_notIn_seq
theorem kop_catA (h : X.K = K := by rfl) : OpR X (binaryOp .Add) (rCatA K) := h ▸ op_catA
theorem kop_rep1 (h : X.K = K := by rfl) : OpR X (binaryOp .Mult) (rRep1 K) := h ▸ op_rep1
theorem kop_eqD (hu : X.A.units + 64 < cLine) (h : X.K = K := by rfl) : OpR X (compareOp .Eq) (rEqD K) := h ▸ op_eqD hu
theorem kop_neD (hu : X.A.units + 64 < cLine) (h : X.K = K := by rfl) : OpR X (compareOp .NotEq) (rNeD K) := h ▸ op_neD hu
theorem kop_ltT (hu : X.A.units < cLine) (h : X.K = K := by rfl) : OpR X (compareOp .Lt) (rLtT K) := h ▸ op_ltT hu
theorem kop_leT (hu : X.A.units < cLine) (h : X.K = K := by rfl) : OpR X (compareOp .LtE) (rLeT K) := h ▸ op_leT hu
theorem kix_tup (h : X.K = K := by rfl) : IxR X (rIxT K) := h ▸ ix_tup
theorem kix_list (h : X.K = K := by rfl) : IxR X (rIxL K) := h ▸ ix_list
theorem ksl_tup (h : X.K = K := by rfl) : SlR X (rSlA K) := h ▸ sl_tupA
theorem ksl_list (h : X.K = K := by rfl) : SlR X (rSlL K) := h ▸ sl_list
theorem kc_len (h : X.K = K := by rfl) : CallR X (.builtin "len") (fun xs H Q => ∃ p ys, xs = [.ref p] ∧ (SqL K H p ys ∨ SqT K H p ys) ∧ Q (.int ys.length) H) := h ▸ call_len_seq
theorem kc_tuple (h : X.K = K := by rfl) : CallR X (.type "tuple") (rTupOf K) := h ▸ call_tuple_of
theorem kc_list (h : X.K = K := by rfl) : CallR X (.type "list") (rLstOf K) := h ▸ call_list_of
theorem kc_sortedI (h : X.K = K := by rfl) : CallR X (.builtin "sorted") (rSortedI K) := h ▸ cr_sortedI
theorem kc_all (hc : X.calm = true) (h : X.K = K := by rfl) : CallR X (.builtin "all") (rAll K) := h ▸ cr_all hc
theorem kc_setL (hc : X.calm = true) (h : X.K = K := by rfl) (h2 : X.w = w := by rfl) : CallR X (.type "set") (rSetOfL K w) := h2 ▸ h ▸ cr_setL hc
theorem kc_sortedSet (hc : X.calm = true) (h2 : X.w = w := by rfl) : CallR X (.builtin "sorted") (rSortedSet w) := h2 ▸ cr_sortedSet hc
theorem kc_isi (h : X.K = K := by rfl) : CallR X (.builtin "isinstance") (rIsi K) := h ▸ call_isi
theorem kpg_tup {es : List Expr} {k : Nat} {t : TGs} {n : Nat} {pos : Pos} (hc : X.calm = true) (hp : PGs X es t) (hn : (assignEach es X.env).length = n := by rfl) (hst : (assignEach es X.env).findIdx? (·.1) = none := by rfl) (h : X.K = K := by rfl) :
    PG X (.Tuple es k pos) (gTup K n t) := h ▸ pg_tup hc hp hn hst
theorem kpe_fld {e : Expr} {f : Str} {ta : TE} {pos : Pos} (he : PE X e ta) (hb : attributeBase e f X.env (eval e X.env) = eval e X.env := by rfl) (h : X.K = K := by rfl) : PE X (.Attribute e f pos) (tFld K ta f) := h ▸ pe_fld he hb
theorem kpi_list {l tg : Expr} {tl : TE} (hl : PE X l tl) (h : X.K = K := by rfl) : PI X tg l (iList K tl) := h ▸ pi_list hl
theorem kpi_tup {l tg : Expr} {tl : TE} (hl : PE X l tl) (h : X.K = K := by rfl) : PI X tg l (iTup K tl) := h ▸ pi_tup hl
theorem kpi_enumT {e : Expr} {ta : TA} {p pos tp : Pos} {elts : List Expr} {kk : Nat} (hg : Gl X "enumerate") (hm : X.mg "enumerate" = none) (ha : PA X [e] ta) (hs : starEach [e] X.env = [(false, eval e X.env)] := by rfl) (h : X.K = K := by rfl) :
    PI X (.Tuple elts kk tp) (.Call (.Name "enumerate" p) [e] [] pos) (iEnumT K ta) := h ▸ pi_enumT hg hm ha hs
theorem kpe_revL {e : Expr} {te : TE} {k : Nat} {p1 p2 p3 pos : Pos} (he : PE X e te) (h : X.K = K := by rfl) : PE X (.Subscript e (.Slice none none (some (.UnaryOp .USub (.Constant (.int 1) k p1) p2)) p3) pos) (tRevL K te) := h ▸ pe_revL he
end
end W1

set_option maxRecDepth 100000
set_option maxHeartbeats 4000000
namespace W1
open PySem PyProof.Rows L2
section
variable {K : PySem.W.Frag} {σ : L2.St} {H H' : Hp} {ta tb tc te : TE} {tt : TT} {ra : TA} {t u : TT} {d d1 d2 d3 : D} {P P1 P2 P3 : Pd} {D1 : Ends} {tu tw tz : TS} {g : TG} {vs : List Nat} {α : Type} {enc : α → D}
/-- a loop over a list that is known by what holds of it -/
theorem s_forLP {PL : List α → Prop} (E : Enc enc) (h : EP K te σ H fun d _ => ∃ xs : List α, d = .lst (xs.map enc) ∧ PL xs)
    (k : ∀ xs a us H1, PL xs → Le H H1 → H1 a = some (.lst us) → NotH us → ∃ Pv : Nat → L2.St → Hp → Prop, Pv 0 σ H1 ∧ (∀ i σ' H', i ≤ xs.length → Pv i σ' H' → LeT H1 H' ∧ H' a = some (.lst us)) ∧
      (∀ i x v σ' H', xs[i]? = some x → Rp K H' v (enc x) → Pv i σ' H' → g v σ' H' fun σ2 H2 => tu { D1 with nx := Pv (i + 1), ct := Pv (i + 1), bk := D1.nx } σ2 H2) ∧ ∀ σ' H', Pv xs.length σ' H' → D1.nx σ' H') : tFor (iList K te) g tu D1 σ H := h H (Le.refl _) _ fun v d0 H1 e p r => by
  obtain ⟨xs, rfl, pl⟩ := p
  obtain ⟨a, us, rfl, s, nh, rr⟩ := rp_lst r
  obtain ⟨Pv, h0, hle, hs, hd⟩ := k xs a us H1 pl e s nh
  have el : us.length = xs.length := by rw [rr.len, List.length_map]
  refine ⟨a, rfl, ⟨us, SqL.of s⟩, for_it (walk_list (xs := us)) Pv h0 (fun i σ' H' hi q => SqL.of (hle i σ' H' (by rw [← el]; exact hi) q).2) ?_ (fun σ' H' q => hd σ' H' (by rw [← el]; exact q))⟩
  rintro i x σ' H' _ hi q ⟨rfl, hx⟩
  obtain ⟨d, h1, h2⟩ := rr.at' hx
  obtain ⟨b, hb, rfl⟩ := map_at h1
  exact hs i b x σ' _ hb (h2.leT (hle i σ' _ (by rw [← el]; omega) q).1 (E.noL _)) q
theorem q_forLP {PL : List α → Prop} (E : Enc enc) (h : EP K te σ H fun d _ => ∃ xs : List α, d = .lst (xs.map enc) ∧ PL xs)
    (k : ∀ xs a us H1, PL xs → Le H H1 → H1 a = some (.lst us) → NotH us → ∃ Pv : Nat → L2.St → Hp → Prop, Pv 0 σ H1 ∧ (∀ i σ' H', i ≤ xs.length → Pv i σ' H' → LeT H1 H' ∧ H' a = some (.lst us)) ∧
      (∀ i x v σ' H', xs[i]? = some x → Rp K H' v (enc x) → Pv i σ' H' → g v σ' H' fun σ2 H2 => tu { D1 with nx := Pv (i + 1), ct := Pv (i + 1), bk := tz D1 } σ2 H2) ∧ ∀ σ' H', Pv xs.length σ' H' → tz D1 σ' H') : tSeq (tFor (iList K te) g tu) tz D1 σ H := s_forLP (D1 := { D1 with nx := tz D1 }) E h k
/-- [x for x in range(n) if ..] -/
theorem ep_lcRS {n : Nat} {j : Nat} (h : EDA K ra σ H [.int (n : Int)]) (hz : n ≤ 50000) (hw : ∀ x, wipe ((wipe σ vs).set j (some x)) vs = wipe σ vs)
    (ht : ∀ (i : Nat) H1, Le H H1 → i < n → ET tt ((wipe σ vs).set j (some (.int (i : Int)))) H1 fun _ => True)
    (he : ∀ (i : Nat) H1, Le H H1 → i < n → ED K te ((wipe σ vs).set j (some (.int (i : Int)))) H1 (.int (i : Int))) :
    EP K (tLc (iRng1 ra) (gName j) tt te vs) σ H (fun d _ => ∃ zs : List Int, d = .lst (zs.map .int) ∧ zs.length ≤ n ∧ ∀ z ∈ zs, 0 ≤ z ∧ z < n) := by
  refine EP.weak (ep_lcR1 (I := GI D.int fun i zs => zs.length ≤ i ∧ ∀ z ∈ zs, 0 ≤ z ∧ z < (n : Int)) (PT := fun i b => True) (good enc_int _) h (by omega) hw ⟨[], rfl, Nat.zero_le _, Nat.le_refl _, by simp⟩ ?_ ?_ ?_) ?_
  · intro i acc H1 e hi _
    exact ht i H1 e (by omega)
  · rintro i acc H1 e hi ⟨zs, rfl, hl, hl2, hZ⟩ _
    refine (he i H1 e (by omega)).weak fun d' H2 _ p => ?_
    have p' : d' = .int (i : Int) := p
    subst p'
    refine ⟨GI.more (by simp; omega) ⟨by simp; omega, fun x hx => ?_⟩, .int _⟩
    rcases List.mem_append.mp hx with hx | hx
    · exact hZ x hx
    · rw [List.mem_singleton.mp hx]
      omega
  · rintro i acc hi ⟨zs, rfl, hl, hl2, hZ⟩ _
    exact ⟨zs, rfl, hl, by omega, hZ⟩
  · rintro d H2 _ ⟨acc, rfl, zs, rfl, _, hl, hZ⟩
    rw [Int.toNat_natCast] at hl
    exact ⟨zs, rfl, hl, hZ⟩
/-- new, known by what holds of it -/
theorem EP.anyL {PL : List D → Prop} (h : EP K te σ H fun d _ => ∃ ds, d = .lst ds ∧ PL ds) : EP K te σ H fun d _ => ∃ ds, d = .lst ds := h.weak fun d _ _ ⟨ds, e, _⟩ => ⟨ds, e⟩
theorem EA_weak {A : TA} {P1 P2 : List D → Hp → Prop} (h : EA K A σ H P1) (w : ∀ ds H2, P1 ds H2 → P2 ds H2) : EA K A σ H P2 := fun H1 a Q q => h H1 a Q fun vs ds H2 b p r => q vs ds H2 b (w ds H2 p) r
/-! promises of a new list -/
def spF (K : PySem.W.Frag) (R : List D → Hp → (List D → Prop) → Prop) : Sp := fun vs H Q _ => ∃ ds PL, Rps K H vs ds ∧ R ds H PL ∧ ∀ p us es H2, H p = none → Le H H2 → H2 p = some (.lst us) → NotH us → Rps K H2 us es → PL es → Q (.ref p) H2
theorem ef_call {R : List D → Hp → (List D → Prop) → Prop} {E : XK} {A : TA} {ds : List D} {PL : List D → Prop} (h : EDA K A σ H ds) (hr : ∀ H2, Le H H2 → R ds H2 PL) : EF K (tCall (spF K R) [] E A) σ H PL := fun H1 e Q q =>
  h H1 e _ fun vs es H2 e2 p r => by
    have p' : es = ds := p
    subst p'
    exact ⟨es, PL, by rw [List.append_nil]; exact r, hr H2 (e.trans e2), fun a us fs H3 na e3 ha nh r3 pl => q a us fs H3 (e2.fresh na) (e2.trans e3) ha nh r3 pl⟩
theorem ef_sortedI {PN : List Int → Prop} (h : EP K ta σ H fun d _ => ∃ ns : List Int, d = .lst (ns.map .int) ∧ PN ns) :
    EF K (tCB (rSortedI K) (tCons ta tNil)) σ H (fun ds => ∃ ns ns' : List Int, ds = ns'.map .int ∧ PN ns ∧ ns'.Perm ns ∧ ns'.Pairwise (· ≤ ·)) := fun H1 e Q q => h H1 e _ fun v d H2 e2 p r => by
  obtain ⟨ns, rfl, pn⟩ := p
  obtain ⟨a, xs, rfl, s, nh, rr⟩ := rp_lst r
  have ex := ints_rps rr
  subst ex
  exact ⟨a, ns, rfl, SqL.of s, fun ns' p hp hs hn => q p _ _ _ (e2.fresh hn) (e2.trans (Le.new hn)) upd_same (notH_ints _) (rps_ints _) ⟨ns, ns', rfl, pn, hp, hs⟩⟩
theorem s_retF {PL : List D → Prop} (h : EF K te σ H PL) (k : ∀ p us ds H1, H p = none → Le H H1 → H1 p = some (.lst us) → NotH us → Rps K H1 us ds → PL ds → D1.rt (.ref p) H1) : tRet te D1 σ H := h H (Le.refl _) _ k
theorem EF.le {PL : List D → Prop} (e : Le H H') (h : EF K te σ H PL) : EF K te σ H' PL := fun H1 a Q q => h H1 (e.trans a) Q q
theorem s_forLF {PL : List α → Prop} (E : Enc enc) (h : EF K te σ H fun ds => ∃ xs : List α, ds = xs.map enc ∧ PL xs)
    (k : ∀ xs a us H1, PL xs → H a = none → Le H H1 → H1 a = some (.lst us) → NotH us → ∃ Pv : Nat → L2.St → Hp → Prop, Pv 0 σ H1 ∧ (∀ i σ' H', i ≤ xs.length → Pv i σ' H' → LeT H1 H' ∧ H' a = some (.lst us)) ∧
      (∀ i x v σ' H', xs[i]? = some x → Rp K H' v (enc x) → Pv i σ' H' → g v σ' H' fun σ2 H2 => tu { D1 with nx := Pv (i + 1), ct := Pv (i + 1), bk := D1.nx } σ2 H2) ∧ ∀ σ' H', Pv xs.length σ' H' → D1.nx σ' H') : tFor (iList K te) g tu D1 σ H := h H (Le.refl _) _ fun a us ds H1 na e s nh rr p => by
  obtain ⟨xs, rfl, pl⟩ := p
  obtain ⟨Pv, h0, hle, hs, hd⟩ := k xs a us H1 pl na e s nh
  have el : us.length = xs.length := by rw [rr.len, List.length_map]
  refine ⟨a, rfl, ⟨us, SqL.of s⟩, for_it (walk_list (xs := us)) Pv h0 (fun i σ' H' hi q => SqL.of (hle i σ' H' (by rw [← el]; exact hi) q).2) ?_ (fun σ' H' q => hd σ' H' (by rw [← el]; exact q))⟩
  rintro i x σ' H' _ hi q ⟨rfl, hx⟩
  obtain ⟨d, h1, h2⟩ := rr.at' hx
  obtain ⟨b, hb, rfl⟩ := map_at h1
  exact hs i b x σ' _ hb (h2.leT (hle i σ' _ (by rw [← el]; omega) q).1 (E.noL _)) q
theorem q_forLF {PL : List α → Prop} (E : Enc enc) (h : EF K te σ H fun ds => ∃ xs : List α, ds = xs.map enc ∧ PL xs)
    (k : ∀ xs a us H1, PL xs → H a = none → Le H H1 → H1 a = some (.lst us) → NotH us → ∃ Pv : Nat → L2.St → Hp → Prop, Pv 0 σ H1 ∧ (∀ i σ' H', i ≤ xs.length → Pv i σ' H' → LeT H1 H' ∧ H' a = some (.lst us)) ∧
      (∀ i x v σ' H', xs[i]? = some x → Rp K H' v (enc x) → Pv i σ' H' → g v σ' H' fun σ2 H2 => tu { D1 with nx := Pv (i + 1), ct := Pv (i + 1), bk := tz D1 } σ2 H2) ∧ ∀ σ' H', Pv xs.length σ' H' → tz D1 σ' H') : tSeq (tFor (iList K te) g tu) tz D1 σ H := s_forLF (D1 := { D1 with nx := tz D1 }) E h k
end
section
variable {P : Program} {w : World} {K : PySem.W.Frag} {mg : Str → Option Value} {base : Heap}
theorem defF {x : Str} {st : Stmt} {N ps : List Str} {k : Nat} {R : List D → Hp → (List D → Prop) → Prop} (g : GDef K mg x st ps) (S : FnScope N ps (defScope st)) (hl : ∀ ds H Pd, R ds H Pd → ds.length = ps.length)
    (body : ∀ (cdv : Value) (A : Around) (outer : List Env) (s : Shared) (f : Addr) (H : Hp) (vs : List V) (ds : List D) (PL : List D → Prop) (Q : VK) (E : XK), Room k (A.deeper (envOfC x (defScope st) s.heap.objs.size f cdv)) → Rps K H vs ds → R ds H PL →
      (∀ p us es H2, H p = none → Le H H2 → H2 p = some (.lst us) → NotH us → Rps K H2 us es → PL es → Q (.ref p) H2) →
      ∃ t, PSs (cxOf CX0 P w K mg base N x (defScope st) f cdv A outer s H E).nox (defBody st) t ∧ t { nx := fun _ H' => Q .non H', rt := Q } (start N vs) H) : Def P w K mg base (k + 1) x ps (spF K R) := by
  refine defS g S (fun vs H Q E h => ?_) fun cdv A outer s f H vs Q E hr h => ?_
  · obtain ⟨ds, Pd, r, h, _⟩ := h
    rw [r.len]
    exact hl ds H Pd h
  · obtain ⟨ds, Pd, r, h, q⟩ := h
    exact body cdv A outer s f H vs ds Pd Q E hr r h q
end
end W1

set_option maxRecDepth 100000
set_option maxHeartbeats 4000000
namespace W1
open PySem PyProof.Rows L2
section
variable {X : Cx} {K : PySem.W.Frag} {σ : L2.St} {H H' : Hp} {ta tb tc te : TE} {tt : TT} {t u : TT} {d d1 d2 d3 : D} {P P1 P2 P3 : Pd} {D1 : Ends} {tu tw tz : TS}
/-- a name of the module that holds a number -/
theorem pe_gl {x : Str} {pos : Pos} {v : V} (hm : ∃ u, X.mg x = some u ∧ RelV v u) (hg : Gl X x := by rfl) (hd : (x == ("__debug__" : Str)) = false := by decide) : PE X (.Name x pos) (tC v) := by
  obtain ⟨u, h1, h2⟩ := hm
  exact pe_glob hg h1 h2 hd
/-- a way that is not taken -/
theorem s_no {b : Bool} (h : EB t σ H b) (hb : b = false) (k : ∀ H1, Le H H1 → tw D1 σ H1) : tIfS t tu tw D1 σ H := s_ifB h (fun e => by rw [hb] at e; cases e) fun _ => k
theorem q_no {b : Bool} (h : EB t σ H b) (hb : b = false) (k : ∀ H1, Le H H1 → tz D1 σ H1) : tSeq (tIfS t tu tNext) tz D1 σ H := s_no (D1 := { D1 with nx := tz D1 }) h hb k
theorem kitB_bool : kitB "bool" "int" = some true := by decide +kernel
end
/-! ### which data is an integer -/
def isI : D → Bool
  | .int _ => true
  | _ => false
def btw (l m : Int) : D → Bool
  | .int i => decide (l ≤ i) && decide (i ≤ m)
  | _ => false
def noObj : D → Bool
  | .obj _ => false
  | _ => true
theorem noObj_ne {d : D} (h : noObj d = true) : ∀ u, d ≠ .obj u := fun u e => by
  subst e
  cases h
def subI : D → Bool
  | .int _ => true
  | .bl _ => true
  | _ => false
theorem kit_int {d : D} (h : noObj d = true) : kitB (tyD d) "int" = some (subI d) := by
  cases d <;> first | rfl | decide +kernel | cases h
theorem kit_bool {d : D} (h : noObj d = true) : kitB (tyD d) "bool" = some (match d with | .bl _ => true | _ => false) := by
  cases d <;> first | rfl | decide +kernel | cases h
theorem kit_tup {d : D} (h : noObj d = true) : kitB (tyD d) "tuple" = some (match d with | .tup _ => true | _ => false) := by
  cases d <;> first | rfl | decide +kernel | cases h
/-! ### a web -/
def webFs (m t n : V) : List (Str × V) := putF "near" n (putF "ties" t (putF "memories" m []))
theorem mt_ : ¬ (("memories" : Str) = "ties") := by decide +kernel
theorem mn_ : ¬ (("memories" : Str) = "near") := by decide +kernel
theorem tn_ : ¬ (("ties" : Str) = "near") := by decide +kernel
theorem web_m (m t n : V) : (webFs m t n).lookup ("memories" : Str) = some m := by
  unfold webFs
  rw [lookup_putF, if_neg mn_, lookup_putF, if_neg mt_, lookup_putF, if_pos rfl]
theorem web_t (m t n : V) : (webFs m t n).lookup ("ties" : Str) = some t := by
  unfold webFs
  rw [lookup_putF, if_neg tn_, lookup_putF, if_pos rfl]
theorem web_n (m t n : V) : (webFs m t n).lookup ("near" : Str) = some n := by
  unfold webFs
  rw [lookup_putF, if_pos rfl]
structure WTxt (K : PySem.W.Frag) (C : Addr) : Prop where
  cl : Cls K C
  nM : NoAttr K C "memories"
  nT : NoAttr K C "ties"
  nN : NoAttr K C "near"
end W1

set_option maxRecDepth 100000
set_option maxHeartbeats 4000000
namespace W1
open PySem PyProof.Rows L2
abbrev topS (i : Nat) : Stmt := PySem.Challenge.pw_staletags_k00_errors_of_the_package.main.body.getD i (.Pass ⟨0, 0, 0, 0⟩)
abbrev s__law_draw : Stmt := topS 28
abbrev N__law_draw : List Str := ["_law_hand_here", "_law_many", "_law_cell", "_law_digit", "_law_number"]
theorem sc__law_draw : FnScope N__law_draw ["_law_hand_here", "_law_many"] (defScope s__law_draw) := ⟨rfl, rfl, rfl, by decide +kernel, rfl, by decide +kernel, by decide +kernel⟩
/-- no built-in that is called is hidden -/
structure Txt (mg : Str → Option Value) : Prop where
  n_len : mg "len" = none
  n_abs : mg "abs" = none
  n_int : mg "int" = none
  n_range : mg "range" = none
  n_tuple : mg "tuple" = none
  n_list : mg "list" = none
  n_sorted : mg "sorted" = none
  n_set : mg "set" = none
  n_enumerate : mg "enumerate" = none
  n_isinstance : mg "isinstance" = none
  n_all : mg "all" = none
  n_max : mg "max" = none
  n_min : mg "min" = none
  n_bool : mg "bool" = none
section
variable {P : Program} {w : World} {K : PySem.W.Frag} {mg : Str → Option Value} {base : Heap}
/-! ### _law_draw -/
def R_draw : List D → Hp → Pd → Prop := fun ds H P => ∃ (h : Addr) (m : Int), ds = [.obj (.ref h), .int m] ∧ Hand H h ∧ 1 ≤ m ∧ m ≤ 1000000 ∧ P = fun d _ => ∃ r : Int, d = .int r ∧ 0 ≤ r ∧ r < m
/-- the frame of a draw: the hand at h, H0 what stood -/
def Dw (H0 : Hp) (h : Addr) (H : Hp) : Prop := Le H0 H ∧ ∃ c cells p x s n, HandAt H h c cells p x s n
theorem ok_draw (T : Txt mg) (g : GDef K mg "_law_draw" s__law_draw ["_law_hand_here", "_law_many"]) : Def P w K mg base 1 "_law_draw" ["_law_hand_here", "_law_many"] (spD K R_draw) := by
  refine defD g sc__law_draw (fun ds H Pd h => ?_) fun cdv A outer s f H vs ds Pd Q E hr r h q => ?_
  · obtain ⟨h, m, rfl, _⟩ := h
    rfl
  obtain ⟨h, m, rfl, ⟨c, cells, p, x, z, n, a⟩, m1, m2, rfl⟩ := h
  obtain ⟨v1, v2, rfl, r1, r2⟩ := rps2 r
  have e1 := rp_obj r1
  have e2 := rp_int r2
  subst e1 e2
  refine ⟨_, (Evl.pss_cut (ps_if (PW.pt (pw_and (pt_cmpR op_eq (pe_ix ix_list (pv 0) pe_int (fun _ _ => rfl)) pe_int (nomark _)) (pw_and1 (pt_cmpR op_lt (pe_ix ix_list (pv 0) pe_int (fun _ _ => rfl)) (pe_callB call_len_seq (by rfl) T.n_len boot_len (pa_cons (pe_ix ix_list (pv 0) pe_int (fun _ _ => rfl)) pa_nil)) (nomark _)))))
      (pss_cons (ps_set (i := 2) sc__law_draw.nd rfl (Or.inl rfl) (pe_ix ix_list (pe_ix ix_list (pv 0) pe_int (fun _ _ => rfl)) (pe_ix ix_list (pv 0) pe_int (fun _ _ => rfl)) (fun _ _ => rfl)))
    (pss_cons (ps_asg (pe_op op_add (pe_ix ix_list (pv 0) pe_int (fun _ _ => rfl)) pe_int) (pg_sub (pv 0) pe_int set_list))
    (pss_cons (ps_asg (pe_op op_mod (pe_callTy call_int1 (by rfl) T.n_int boot_int (pa_cons (pe_op op_add (pe_op op_add (pe_op op_mul (pe_ix ix_list (pv 0) pe_int (fun _ _ => rfl)) pe_int) (pv 2)) pe_int) pa_nil)) pe_int) (pg_sub (pv 0) pe_int set_list))
    (pss_one (ps_if (pt_cmpR op_ge (pv 2) (pe_op op_pow pe_int pe_int) (nomark _))
      (pss_one (ps_asg (pv 2) (pg_sub (pv 0) pe_int set_list)))
      pss_nil)))))
      pss_nil)
    (pss_cons (ps_if (pt_cmpR op_gt (pe_ix ix_list (pv 0) pe_int (fun _ _ => rfl)) pe_int (nomark _))
      (pss_cons (ps_set (i := 3) sc__law_draw.nd rfl (Or.inl rfl) (pe_op op_modN (pe_callTy call_int1 (by rfl) T.n_int boot_int (pa_cons (pe_ix ix_list (pv 0) pe_int (fun _ _ => rfl)) pa_nil)) (pv 1)))
    (pss_cons (ps_asg (pe_op op_fdivN (pe_ix ix_list (pv 0) pe_int (fun _ _ => rfl)) (pv 1)) (pg_sub (pv 0) pe_int set_list))
    (pss_one (ps_ret (pv 3)))))
      pss_nil)
    (pss_cons (ps_asg (pe_op op_add (pe_ix ix_list (pv 0) pe_int (fun _ _ => rfl)) pe_int) (pg_sub (pv 0) pe_int set_list))
    (pss_cons (ps_set (i := 4) sc__law_draw.nd rfl (Or.inl rfl) (pe_op op_mod (pe_callTy call_int1 (by rfl) T.n_int boot_int (pa_cons (pe_op op_mul (pe_callTy call_int1 (by rfl) T.n_int boot_int (pa_cons (pe_op op_add (pe_ix ix_list (pv 0) pe_int (fun _ _ => rfl)) (pe_op op_mul pe_int (pe_ix ix_list (pv 0) pe_int (fun _ _ => rfl)))) pa_nil)) pe_int) pa_nil)) pe_int))
    (pss_cons (ps_set (i := 4) sc__law_draw.nd rfl (Or.inl rfl) (pe_op op_mod (pe_callTy call_int1 (by rfl) T.n_int boot_int (pa_cons (pe_op op_mul (pv 4) (pe_op op_add (pe_op op_fdiv (pv 4) pe_int) pe_int)) pa_nil)) pe_int))
    (pss_cons (ps_set (i := 4) sc__law_draw.nd rfl (Or.inl rfl) (pe_op op_mod (pe_callTy call_int1 (by rfl) T.n_int boot_int (pa_cons (pe_op op_mul (pv 4) (pe_op op_add (pe_op op_fdiv (pv 4) pe_int) pe_int)) pa_nil)) pe_int))
    (pss_one (ps_ret (pe_op op_modN (pe_callTy call_int1 (by rfl) T.n_int boot_int (pa_cons (pe_op op_fdiv (pv 4) pe_int) pa_nil)) (pv 1)))))))))), ?_⟩
  -- between the first if and the rest
  refine ⟨fun σ H' => (∃ y : Option V, σ = [some (.ref h), some (.int m), y, none, none]) ∧ Dw H h H', ?_, ?_⟩
  · refine ⟨_, rfl, h, _, 2, .int x, rfl, rfl, SqL.of a.hand, atI_nat (j := 2) rfl, rfl, _, rfl, ?_⟩
    refine ite2 (fun c1 => ?_) (fun c1 => ?_)
    · refine ⟨_, rfl, h, _, 1, .int p, rfl, rfl, SqL.of a.hand, atI_nat (j := 1) rfl, _, rfl, h, _, 0, .ref c, rfl, rfl, SqL.of a.hand, atI_nat (j := 0) rfl, c, _, rfl, .inl (SqL.of a.cell), p, _, rfl, rfl, _, rfl, ?_⟩
      refine ite2 (fun c2 => ?_) (fun c2 => ?_)
      · have hp : p.toNat < cells.length := by
          have c3 := of_decide_eq_true c2
          rw [List.length_map] at c3
          have := a.p0
          omega
        obtain ⟨y, hy⟩ : ∃ y, cells[p.toNat]? = some y := ⟨cells[p.toNat], List.getElem?_eq_getElem hp⟩
        have hy0 : 0 ≤ y := a.pos y (List.mem_of_getElem? hy)
        have ep : p = ((p.toNat : Nat) : Int) := by have := a.p0; omega
        have hyV : atI (cells.map V.int) p = some (.int y) := by
          rw [ep]
          exact atI_nat (by rw [List.getElem?_map, hy]; rfl)
        -- cell = hand[0][hand[1]]
        refine ⟨_, rfl, h, _, 0, .ref c, rfl, rfl, SqL.of a.hand, atI_nat (j := 0) rfl, _, rfl, h, _, 1, .int p, rfl, rfl, SqL.of a.hand, atI_nat (j := 1) rfl, c, _, p, .int y, rfl, rfl, SqL.of a.cell, hyV, ?_⟩
        -- hand[1] = hand[1] + 1
        refine ⟨_, rfl, h, _, 1, .int p, rfl, rfl, SqL.of a.hand, atI_nat (j := 1) rfl, p, 1, rfl, rfl, _, rfl, h, _, 1, 1, rfl, rfl, a.hand, rfl, ?_⟩
        obtain ⟨a1, l1⟩ := a.put (p2 := p + 1) (x2 := x) (s2 := z) (n2 := n) (by have := a.p0; omega) a.x0
        -- hand[3] = int(hand[3] * 69621 + cell + 11) % 2147483629
        refine ⟨_, rfl, h, _, 3, .int z, rfl, rfl, SqL.of a1.hand, atI_nat (j := 3) rfl, z, 69621, rfl, rfl, .inr ⟨by decide, by decide⟩, _, rfl, _, y, rfl, rfl, _, 11, rfl, rfl, .inl ⟨_, rfl, _, 2147483629, rfl, rfl, (by show (0 : Int) < 2147483629; decide), _, rfl, h, _, 3, 3, rfl, rfl, a1.hand, rfl, ?_⟩⟩
        obtain ⟨a2, l2⟩ := a1.put (p2 := p + 1) (x2 := x) (s2 := (z * 69621 + y + 11) % 2147483629) (n2 := n) (by have := a.p0; omega) a.x0
        -- if cell >= 10 ** 18: hand[2] = cell
        refine ⟨_, rfl, 10, 18, rfl, rfl, ⟨by decide, by decide, by decide⟩, y, _, rfl, rfl, _, rfl, ?_⟩
        refine ite2 (fun c3 => ?_) (fun c3 => ?_)
        · refine ⟨_, rfl, _, rfl, h, _, 2, 2, rfl, rfl, a2.hand, rfl, ?_⟩
          obtain ⟨a3, l3⟩ := a2.put (p2 := p + 1) (x2 := y) (s2 := (z * 69621 + y + 11) % 2147483629) (n2 := n) (by have := a.p0; omega) hy0
          exact ⟨⟨_, rfl⟩, (l1.trans l2).trans l3, c, cells, _, _, _, _, a3⟩
        · exact ⟨⟨_, rfl⟩, l1.trans l2, c, cells, _, _, _, _, a2⟩
      · exact ⟨⟨none, rfl⟩, Le.refl _, c, cells, _, _, _, _, a⟩
    · exact ⟨⟨none, rfl⟩, Le.refl _, c, cells, _, _, _, _, a⟩
  · clear a
    rintro σ H1 ⟨⟨y, rfl⟩, l0, c, cells, p, x, z, n, a⟩
    -- if hand[2] > 0
    refine ⟨_, rfl, h, _, 2, .int x, rfl, rfl, SqL.of a.hand, atI_nat (j := 2) rfl, x, 0, rfl, rfl, _, rfl, ?_⟩
    refine ite2 (fun c1 => ?_) (fun c1 => ?_)
    · have hx0 : (0 : Int) < x := of_decide_eq_true c1
      refine ⟨_, rfl, h, _, 2, .int x, rfl, rfl, SqL.of a.hand, atI_nat (j := 2) rfl, .inl ⟨x, rfl, _, rfl, x, m, rfl, rfl, by omega, ?_⟩⟩
      refine ⟨_, rfl, h, _, 2, .int x, rfl, rfl, SqL.of a.hand, atI_nat (j := 2) rfl, _, rfl, x, m, rfl, rfl, ⟨by omega, by omega⟩, _, rfl, h, _, 2, 2, rfl, rfl, a.hand, rfl, ?_⟩
      obtain ⟨a1, l1⟩ := a.put (p2 := p) (x2 := x.fdiv m) (s2 := z) (n2 := n) a.p0 (by
        rw [Int.fdiv_eq_ediv_of_nonneg _ (by omega)]
        exact Int.ediv_nonneg (by omega) (by omega))
      refine ⟨_, rfl, ?_⟩
      refine q _ (.int (x.fmod m)) _ (l0.trans l1) ⟨_, rfl, ?_⟩ (.int _)
      rw [Int.fmod_eq_emod_of_nonneg _ (by omega)]
      exact ⟨Int.emod_nonneg _ (by omega), Int.emod_lt_of_pos _ (by omega)⟩
    · -- hand[4] = hand[4] + 1
      refine ⟨_, rfl, h, _, 4, .int n, rfl, rfl, SqL.of a.hand, atI_nat (j := 4) rfl, n, 1, rfl, rfl, _, rfl, h, _, 4, 4, rfl, rfl, a.hand, rfl, ?_⟩
      obtain ⟨a1, l1⟩ := a.put (p2 := p) (x2 := x) (s2 := z) (n2 := n + 1) a.p0 a.x0
      -- number = int(int(hand[3] + 7919 * hand[4]) * 48271) % 2147483647
      refine ⟨_, rfl, h, _, 3, .int z, rfl, rfl, SqL.of a1.hand, atI_nat (j := 3) rfl, _, rfl, h, _, 4, .int (n + 1), rfl, rfl, SqL.of a1.hand, atI_nat (j := 4) rfl, 7919, n + 1, rfl, rfl, .inl ⟨by decide, by decide⟩, z, _, rfl, rfl, .inl ⟨_, rfl, _, 48271, rfl, rfl, .inr ⟨by decide, by decide⟩, .inl ⟨_, rfl, _, 2147483647, rfl, rfl, (by show (0 : Int) < 2147483647; decide), ?_⟩⟩⟩
      obtain ⟨u, eu⟩ : ∃ u : Int, u = (z + 7919 * (n + 1)) * 48271 % 2147483647 := ⟨_, rfl⟩
      have hu : 0 ≤ u ∧ u < 2147483647 := by omega
      have ev : ((fun i j => V.int (i % j)) ((z + 7919 * (n + 1)) * 48271) 2147483647 : V) = V.int u := by rw [eu]
      rw [ev]
      refine ⟨_, rfl, _, rfl, u, 1009, rfl, rfl, ⟨by decide, by decide⟩, _, 69621, rfl, rfl, u, _, rfl, rfl, .inl ⟨by omega, by omega⟩, .inl ⟨_, rfl, _, 2147483647, rfl, rfl, (by show (0 : Int) < 2147483647; decide), ?_⟩⟩
      obtain ⟨u2, eu2⟩ : ∃ u2 : Int, u2 = u * (u / 1009 + 69621) % 2147483647 := ⟨_, rfl⟩
      have hu2 : 0 ≤ u2 ∧ u2 < 2147483647 := by
        rw [eu2]
        exact ⟨Int.emod_nonneg _ (by decide), Int.emod_lt_of_pos _ (by decide)⟩
      have ev2 : ((fun i j => V.int (i % j)) (u * (u / 1009 + 69621)) 2147483647 : V) = V.int u2 := by rw [eu2]
      rw [ev2]
      refine ⟨_, rfl, _, rfl, u2, 2003, rfl, rfl, ⟨by decide, by decide⟩, _, 40692, rfl, rfl, u2, _, rfl, rfl, .inl ⟨by omega, by omega⟩, .inl ⟨_, rfl, _, 2147483399, rfl, rfl, (by show (0 : Int) < 2147483399; decide), ?_⟩⟩
      obtain ⟨u3, eu3⟩ : ∃ u3 : Int, u3 = u2 * (u2 / 2003 + 40692) % 2147483399 := ⟨_, rfl⟩
      have ev3 : ((fun i j => V.int (i % j)) (u2 * (u2 / 2003 + 40692)) 2147483399 : V) = V.int u3 := by rw [eu3]
      rw [ev3]
      refine ⟨_, rfl, u3, 16, rfl, rfl, ⟨by decide, by decide⟩, .inl ⟨_, rfl, _, rfl, _, m, rfl, rfl, by omega, ?_⟩⟩
      refine q _ (.int ((u3 / 16).fmod m)) _ (l0.trans l1) ⟨_, rfl, ?_⟩ (.int _)
      rw [Int.fmod_eq_emod_of_nonneg _ (by omega)]
      exact ⟨Int.emod_nonneg _ (by omega), Int.emod_lt_of_pos _ (by omega)⟩
end
end W1

set_option maxRecDepth 100000
set_option maxHeartbeats 4000000
namespace W1
open PySem PyProof.Rows L2
local macro_rules | `(tactic| walk_at "rp") => `(tactic| first | assumption | exact Rp.int _ | exact Rp.bl _ | exact Rp.str _ | exact Rp.non | exact Rp.obj _ | (refine Rp.le (by assumption) ?_; walk_at "rp"))
local macro_rules | `(tactic| walk_at "ed") => `(tactic| first
  | exact ed_int | exact ed_str | exact ed_bl | exact ed_non
  | (refine ed_var rfl ?_; walk_at "rp")
  | (refine ed_ixT (ds := [_, _]) ?_ ed_int (by decide) rfl; walk_at "ed")
  | (refine ed_I0 ?_ ?_ <;> walk_at "ed")
  | (refine ed_B0 ?_ ?_ <;> walk_at "ed")
  | (refine ed_eqS ?_ ?_ rfl rfl rfl <;> walk_at "ed")
  | assumption)
local macro_rules | `(tactic| walk_at "ea") => `(tactic| first | exact ea_nil | (refine ea_cons ?_ ?_; walk_at "ed"; walk_at "ea"))

abbrev s__law_hand : Stmt := topS 27
abbrev N__law_hand : List Str := ["_law_script", "_law_cells", "_law_cell"]
theorem sc__law_hand : FnScope N__law_hand ["_law_script"] (defScope s__law_hand) := ⟨rfl, rfl, rfl, by decide +kernel, rfl, by decide +kernel, by decide +kernel⟩
abbrev s__law_any : Stmt := topS 29
abbrev N__law_any : List Str := ["_law_hand_here", "_law_items"]
theorem sc__law_any : FnScope N__law_any ["_law_hand_here", "_law_items"] (defScope s__law_any) := ⟨rfl, rfl, rfl, by decide +kernel, rfl, by decide +kernel, by decide +kernel⟩
section
variable {P : Program} {w : World} {K : PySem.W.Frag} {mg : Str → Option Value} {base : Heap}
/-! ### _law_hand -/
theorem Le.sqlI {H H' : Hp} {a : Addr} {ns : List Int} (e : Le H H') (h : SqL K H a (ns.map V.int)) : SqL K H' a (ns.map V.int) := by
  rcases h with (h | ⟨o, h⟩) | h
  · exact .inl (.inl (e.lst h (notH_ints _)))
  · exact .inl (.inr ⟨o, e.frz h⟩)
  · exact .inr h
theorem ed_slS {σ : L2.St} {H : Hp} {i : Nat} {a : Addr} {ns : List Int} {m : Int} (h : σ[i]? = some (some (.ref a))) (hs : SqL K H a (ns.map V.int)) : ED K (tSl (rSlL K) (tVar i) tNoPart (tPart (tC (.int m)))) σ H (.lst ((cutG ns none (some m)).map .int)) := fun H1 e Q q => by
  have ec : cutV (ns.map V.int) none (some m) = (cutG ns none (some m)).map V.int := by
    unfold cutV cutG
    rw [List.length_map, List.map_take, List.map_drop]
  refine ⟨_, h, m, rfl, a, _, rfl, e.sqlI hs, fun p np => ?_⟩
  rw [ec]
  exact q _ _ _ (Le.new np) rfl (.lst upd_same (notH_ints _) (rps_ints _))
def R_hand (K : PySem.W.Frag) : List D → Hp → Pd → Prop := fun ds H P => ∃ (a : Addr) (ns : List Int), ds = [.obj (.ref a)] ∧ SqL K H a (ns.map V.int) ∧ ns.length ≤ 63 ∧ P = fun d H2 => ∃ h, d = .obj (.ref h) ∧ Hand H2 h
theorem ok_hand (T : Txt mg) (g : GDef K mg "_law_hand" s__law_hand ["_law_script"]) : Def P w K mg base 1 "_law_hand" ["_law_script"] (spD K (R_hand K)) := by
  refine defD g sc__law_hand (fun ds H Pd h => ?_) fun cdv A outer s f H vs ds Pd Q E hr r h q => ?_
  · obtain ⟨a, ns, rfl, _⟩ := h
    rfl
  obtain ⟨a, ns, rfl, hS, hl, rfl⟩ := h
  obtain ⟨v1, rfl, r1⟩ := rps1 r
  have e1 := rp_obj r1
  subst e1
  refine ⟨_, (pss_cons (ps_setLc (i := 1) (own := [("_law_cell", 2)]) rfl sc__law_hand.nd rfl rfl (sw_true rfl rfl rfl (by decide +kernel)) (kpi_list (K := K) (pe_slice (ksl_list (K := K)) (pv 0) po_none (po_some pe_int))) (blkOk_by (N := N__law_hand) (sc := defScope s__law_hand) (by decide +kernel)) (fun _ _ _ _ _ => (pg_name (i := 2) sc__law_hand.nd rfl (Or.inl rfl))) (fun _ _ _ _ _ => pts_nil) (fun _ _ _ _ _ => (pe_callB call_abs (by rfl) T.n_abs boot_abs (pa_cons (pe_callTy call_int1 (by rfl) T.n_int boot_int (pa_cons (pv 2) pa_nil)) pa_nil))))
    (pss_one (ps_ret (pe_lst (pa_cons (pv 1) (pa_cons pe_int (pa_cons pe_int (pa_cons (pe_op op_add pe_int (pe_callB (kc_len (K := K)) (by rfl) T.n_len boot_len (pa_cons (pv 1) pa_nil))) (pa_cons pe_int pa_nil))))))))), ?_⟩
  refine q_asgD (ed_lcL enc_int (encS := .int) (cutG ns none (some 63)) (fun _ => true) (fun z => if z < 0 then -z else z) (ed_slS rfl hS) ?_ (fun _ => rfl) (fun b v H1 e _ r => et_yes) (fun b v H1 e _ r _ => ed_abs (ed_int1 (ed_var rfl r)))) fun v H1 e1 r1 => ?_
  · rw [cutG_hi _ _ (by decide)]
    exact Nat.le_trans (List.length_take_le' _ _) (by omega)
  rw [List.filter_eq_self.mpr (fun _ _ => rfl)] at r1
  generalize hz : (cutG ns none (some 63)).map (fun z => if z < 0 then -z else z) = zs at r1
  obtain ⟨c, xs, rfl, hc, nh, rr⟩ := rp_lst r1
  have ex := ints_rps rr
  subst ex
  refine s_ret (P := fun d H2 => ∃ h, d = .obj (.ref h) ∧ Hand H2 h) ?_ fun v d H2 e2 p r2 => q v d H2 (e1.trans e2) p r2
  intro H2 e2 Q' q'
  have hc2 := e2.lst hc (notH_ints _)
  refine ⟨_, rfl, _, rfl, c, _, rfl, .inl (SqL.of hc2), _, _, rfl, rfl, (by show 5 ≤ sizeLine; decide), fun p np => ?_⟩
  have hcp : c ≠ p := ne_of_none hc2 np
  refine q' _ (.obj (.ref p)) _ (Le.new np) ⟨p, rfl, c, zs, 0, 0, _, 0, upd_same, by rw [upd_ne hcp]; exact hc2, by decide, by decide, fun z hz2 => ?_⟩ (.obj _)
  rw [← hz] at hz2
  obtain ⟨y, _, rfl⟩ := List.mem_map.mp hz2
  by_cases hy : y < 0
  · rw [if_pos hy]; omega
  · rw [if_neg hy]; omega
/-! ### _law_any -/
def R_any : List D → Hp → Pd → Prop := fun ds H P => ∃ (h : Addr) (xs : List D), ds = [.obj (.ref h), .lst xs] ∧ Hand H h ∧ xs ≠ [] ∧ xs.length ≤ 100000 ∧ P = fun d _ => d ∈ xs
theorem ep_draw {σ : L2.St} {H : Hp} {E : XK} {h : Addr} {m : Int} {ta : TA} (hh : Hand H h) (ha : EDA K ta σ H [.obj (.ref h), .int m]) (h1 : 1 ≤ m ∧ m ≤ 1000000) : EP K (tCall (spD K R_draw) [] E ta) σ H (fun d _ => ∃ r : Int, d = .int r ∧ 0 ≤ r ∧ r < m) :=
  ed_call ha fun H2 e => ⟨h, m, rfl, hh.le e, h1.1, h1.2, rfl⟩
theorem ok_any (T : Txt mg) (g : GDef K mg "_law_any" s__law_any ["_law_hand_here", "_law_items"]) (G_law_draw : Def P w K mg base 1 "_law_draw" ["_law_hand_here", "_law_many"] (spD K R_draw)) :
    Def P w K mg base 2 "_law_any" ["_law_hand_here", "_law_items"] (spD K R_any) := by
  refine defD g sc__law_any (fun ds H Pd h => ?_) fun cdv A outer s f H vs ds Pd Q E hr r h q => ?_
  · obtain ⟨h, xs, rfl, _⟩ := h
    rfl
  obtain ⟨h, xs, rfl, hh, hne, hl, rfl⟩ := h
  obtain ⟨v1, v2, rfl, r1, r2⟩ := rps2 r
  refine ⟨_, (pss_one (ps_ret (pe_ix (kix_list (K := K)) (pv 1) (pe_def G_law_draw (hr.mono (by decide)) (pa_cons (pv 0) (pa_cons (pe_callB (kc_len (K := K)) (by rfl) T.n_len boot_len (pa_cons (pv 1) pa_nil)) pa_nil))) (fun _ _ => rfl)))), ?_⟩
  have hlen : 1 ≤ (xs.length : Int) ∧ (xs.length : Int) ≤ 1000000 := by
    have : xs.length ≠ 0 := fun e => hne (List.eq_nil_of_length_eq_zero e)
    omega
  refine s_ret (P := fun d _ => d ∈ xs) ?_ q
  refine ep_op (P1 := is (.lst xs)) (P2 := fun d _ => ∃ r : Int, d = .int r ∧ 0 ≤ r ∧ r < xs.length) (ed_var rfl r2) ?_ ?_
  · exact ep_draw hh (ea_cons (ed_var rfl r1) (ea_cons (ed_lenL (ed_var rfl r2)) ea_nil)) hlen
  · rintro x y d1 d2 H1 H2 _ _ rfl ⟨i, rfl, h0, h1⟩ q1 q2 Q' q'
    obtain ⟨a, us, rfl, s, nh, rr⟩ := rp_lst q1
    have hi : xs[i.toNat]? = some xs[i.toNat] := List.getElem?_eq_getElem (by omega)
    obtain ⟨v, h3, h4⟩ := atI_rps rr h0 hi
    exact ⟨a, us, i, v, rfl, rp_int q2, SqL.of s, h3, q' v _ H2 (Le.refl _) (List.getElem_mem _) h4⟩
end
end W1

set_option maxRecDepth 100000
set_option maxHeartbeats 4000000
namespace W1
open PySem PyProof.Rows L2 RZ
local macro_rules | `(tactic| walk_at "rp") => `(tactic| first | assumption | exact Rp.int _ | exact Rp.bl _ | exact Rp.str _ | exact Rp.non | exact Rp.obj _ | (refine Rp.le (by assumption) ?_; walk_at "rp"))
local macro_rules | `(tactic| walk_at "ed") => `(tactic| first
  | exact ed_int | exact ed_str | exact ed_bl | exact ed_non
  | (refine ed_var rfl ?_; walk_at "rp")
  | (refine ed_ixT (ds := [_, _]) ?_ ed_int (by decide) rfl; walk_at "ed")
  | (refine ed_I0 ?_ ?_ <;> walk_at "ed")
  | (refine ed_B0 ?_ ?_ <;> walk_at "ed")
  | (refine ed_eqS ?_ ?_ rfl rfl rfl <;> walk_at "ed")
  | assumption)
local macro_rules | `(tactic| walk_at "ea") => `(tactic| first | exact ea_nil | (refine ea_cons ?_ ?_; walk_at "ed"; walk_at "ea"))

abbrev s__law_is : Stmt := topS 30
abbrev N__law_is : List Str := ["_law_told", "_law_due", "_law_one", "_law_two"]
theorem sc__law_is : FnScope N__law_is ["_law_told", "_law_due"] (defScope s__law_is) := ⟨rfl, rfl, rfl, by decide +kernel, rfl, by decide +kernel, by decide +kernel⟩
section
variable {X : Cx} {K : PySem.W.Frag}
theorem kc_isiT (h : X.K = K := by rfl) : CallR X (.builtin "isinstance") (rIsiT K) := h ▸ call_isiT
theorem kpi_zipA {e e2 : Expr} {ta : TA} {p pos tpos : Pos} {elts : List Expr} {kk : Nat} (hg : Gl X "zip") (hm : X.mg "zip" = none) (ha : PA X [e, e2] ta)
    (hs : starEach [e, e2] X.env = (false, eval e X.env) :: starEach [e2] X.env := by rfl) (hpl : (backTo pos (starEach [e2] X.env)).any (·.1) = false := by rfl) (h : X.K = K := by rfl) :
    PI X (.Tuple elts kk tpos) (.Call (.Name "zip" p) [e, e2] [] pos) (iZipA K ta) := h ▸ pi_zipA hg hm ha hs hpl
end
theorem Le.dK {H H' : Hp} {a : Addr} {kvs : List (Key × V)} (e : Le H H') (h : H a = some (.dK kvs)) : H' a = some (.dK kvs) := by
  rcases e a _ h with h1 | ⟨_, _, _, _, _, _, _, _, _, z, _⟩
  · exact h1
  · cases z
theorem walk_zipT {K : PySem.W.Frag} {a b : Addr} {xs ys : List V} {n : Nat} (hn : n = min xs.length ys.length) : Walk (ItzT K a b) n (fun H => SqT K H a xs ∧ SqT K H b ys) (YPair (fun i => xs[i]?) (fun i => ys[i]?)) := by
  subst hn
  constructor
  · intro i H hi q
    have h1 : i < xs.length := by omega
    have h2 : i < ys.length := by omega
    exact ⟨xs, ys, xs[i], ys[i], q.1, q.2, by simp [h1], by simp [h2]⟩
  · intro H q
    exact ⟨xs, ys, q.1, q.2, by omega⟩
  · rintro i H v H' _ q ⟨T, x, y, h1, h2, h3, h4, h5⟩
    exact ⟨T, x, y, h1, h2, h3, h4 xs q.1, h5 ys q.2⟩
/-! ### deep data -/
def Dp : Nat → D → Prop
  | 0, _ => False
  | n + 1, .tup xs => xs.length ≤ 50000 ∧ ∀ x ∈ xs, Dp n x
  | n + 1, .lst xs => xs.length ≤ 50000 ∧ ∀ x ∈ xs, Dp n x
  | _ + 1, .obj _ => False
  | _ + 1, _ => True
theorem Dp.no {n : Nat} {d : D} (h : Dp n d) : noObj d = true := by
  cases n with
  | zero => exact absurd h id
  | succ n =>
    cases d with
    | obj v => exact absurd h id
    | _ => rfl
def isTupD : D → Bool
  | .tup _ => true
  | _ => false
def isLstD : D → Bool
  | .lst _ => true
  | _ => false
def isBlD : D → Bool
  | .bl _ => true
  | _ => false
theorem kd_tup {d : D} (h : noObj d = true) : kitB (tyD d) "tuple" = some (isTupD d) := by cases d <;> first | rfl | decide +kernel | exact absurd h Bool.false_ne_true
theorem kd_lst {d : D} (h : noObj d = true) : kitB (tyD d) "list" = some (isLstD d) := by cases d <;> first | rfl | decide +kernel | exact absurd h Bool.false_ne_true
theorem kd_bl {d : D} (h : noObj d = true) : kitB (tyD d) "bool" = some (isBlD d) := by cases d <;> first | rfl | decide +kernel | exact absurd h Bool.false_ne_true
def isSeq : D → Bool
  | .tup _ => true
  | .lst _ => true
  | _ => false
section
variable {K : PySem.W.Frag} {σ : L2.St} {H : Hp} {ta te : TE} {d : D} {vs : List Nat}
theorem ed_isiT (h : ED K te σ H d) (no : noObj d = true) : ED K (tCB (rIsiT K) (tCons te (tCons (tTup (tCons (tC (.ty "tuple")) (tCons (tC (.ty "list")) tNil))) tNil))) σ H (.bl (isSeq d)) := fun H1 e Q q => h H1 e _ fun v d' H2 e2 p r => by
  have p' : d' = d := p
  subst p'
  refine ⟨(by decide), fun a na => ⟨v, a, _, .type (tyD d'), [.type "tuple", .type "list"], isSeq d', rfl, upd_same, .cons (.ty "tuple") (.cons (.ty "list") .nil), tyx_of (noObj_ne no) (r.le (Le.new na)), ?_, q _ _ _ (e2.trans (Le.new na)) rfl (.bl _)⟩⟩
  have k1 : PySem.W.kitOne K (.type (tyD d')) (.type "tuple") = some (isTupD d') := kit_ty (kd_tup no)
  have k2 : PySem.W.kitOne K (.type (tyD d')) (.type "list") = some (isLstD d') := kit_ty (kd_lst no)
  unfold PySem.W.kitAny
  rw [k1]
  cases d' with
  | tup xs => rfl
  | _ =>
    show PySem.W.kitAny K _ [.type "list"] = _
    unfold PySem.W.kitAny
    rw [k2]
    rfl
theorem CI.le {H' H2 : Hp} {L : Addr} {I : Nat → List D → Prop} {i : Nat} (G : Good I) (c : CI K H L I i H') (e : Le H' H2) : CI K H L I i H2 := by
  obtain ⟨q1, q2, ws, acc, q3, q4, q5⟩ := c
  exact ⟨q1, q2.trans e, ws, acc, e.lst q3 ((G.uni i acc q5).notH q4), q4.le e, q5⟩
theorem ed_lcZ {A : TA} {ds : List D} {j l : Nat} (hd : d = .tup ds ∨ d = .lst ds) (ha : EDA K A σ H [d, d]) (hz : ds.length ≤ 50000) (hw : ∀ x y, wipe (((wipe σ vs).set j (some x)).set l (some y)) vs = wipe σ vs)
    (he : ∀ x v u H1, Le H H1 → x ∈ ds → Rp K H1 v x → Rp K H1 u x → ED K te (((wipe σ vs).set j (some v)).set l (some u)) H1 (.bl true)) :
    ED K (tLc (iZipA K A) (gTup K 2 (gCons (gName j) (gCons (gName l) gNil))) tYes te vs) σ H (.lst ((List.replicate ds.length true).map .bl)) := fun H1 e Q q => ha H1 e _ fun us es H2 e2 p rr => by
  have p' : es = [d, d] := p
  subst p'
  obtain ⟨v, u, rfl, r1, r2⟩ := rps2 rr
  have G := good enc_bl fun i zs => zs = List.replicate i true ∧ i ≤ ds.length
  have fin : ∀ {L : Addr} {H' : Hp}, CI K H2 L (GI D.bl fun i zs => zs = List.replicate i true ∧ i ≤ ds.length) ds.length H' → Q (.ref L) H' := fun c => ci_end G c fun v d H3 e3 p r => q v d H3 (e2.trans e3) (by
    obtain ⟨acc, rfl, zs, rfl, _, rfl, _⟩ := p
    rfl) r
  have turn : ∀ {L : Addr} {H' : Hp} {i : Nat} {x : D} {v u : V} {σ2 : L2.St}, ds[i]? = some x → Rp K H2 v x → Rp K H2 u x → CI K H2 L (GI D.bl fun i zs => zs = List.replicate i true ∧ i ≤ ds.length) i H' → σ2 = ((wipe σ vs).set j (some v)).set l (some u) →
      tYes σ2 H' fun b H3 => if b = true then te σ2 H3 fun y H4 => ∃ ac, H4 L = some (.lst ac) ∧ ac.length < sizeLine ∧ CI K H2 L (GI D.bl fun i zs => zs = List.replicate i true ∧ i ≤ ds.length) (i + 1) (upd H4 L (.lst (ac ++ [y]))) else CI K H2 L (GI D.bl fun i zs => zs = List.replicate i true ∧ i ≤ ds.length) (i + 1) H3 := by
    intro L H' i x v u σ2 hx rv ru c es
    subst es
    have hi := (List.getElem?_eq_some_iff.mp hx).1
    refine ci_turn G c (PT := fun b => b = true) (fun acc ia => et_yes) (fun acc ia _ => ?_) (fun acc ia hf => nomatch hf)
    obtain ⟨zs, rfl, hl, rfl, _⟩ := ia
    refine (he x v u H2 (e.trans e2) (List.mem_of_getElem? hx) rv ru).weak fun d' H3 _ p => ?_
    have p' : d' = .bl true := p
    subst p'
    exact ⟨GI.more (by simp; omega) ⟨by rw [← List.replicate_succ'], hi⟩, .bl _⟩
  rcases hd with rfl | rfl
  · obtain ⟨a, xs, rfl, s, r⟩ := rp_tup r1
    obtain ⟨b, ys, rfl, s2, rb⟩ := rp_tup r2
    refine ⟨a, b, xs, ys, rfl, .inr ⟨s, s2, fun L hL => lc_it (walk_zipT (n := ds.length) (by rw [r.len, rb.len, Nat.min_self])) (CI K H2 L (GI D.bl fun i zs => zs = List.replicate i true ∧ i ≤ ds.length)) (ci_start (I := GI D.bl fun i zs => zs = List.replicate i true ∧ i ≤ ds.length) hL ⟨[], rfl, Nat.zero_le _, rfl, Nat.zero_le _⟩) (fun i H' _ c => ⟨c.2.1.sqt s, c.2.1.sqt s2⟩) ?_ (fun H' c => fin c)⟩⟩
    rintro i x H' H3 hi c ⟨T, x1, x2, rfl, nT, rfl, f1, f2⟩
    obtain ⟨d1, g1, g2⟩ := r.at' f1
    obtain ⟨d2, g3, g4⟩ := rb.at' f2
    have ed : d1 = d2 := Option.some.inj (g1.symm.trans g3)
    subst ed
    exact ⟨T, _, rfl, Evl.st_of upd_same, rfl, _, _, rfl, _, _, rfl, rfl, hw _ _, turn g1 g2 g4 (CI.le G c (Le.new nT)) rfl⟩
  · obtain ⟨a, xs, rfl, s, nh, r⟩ := rp_lst r1
    obtain ⟨b, ys, rfl, s2, nh2, rb⟩ := rp_lst r2
    refine ⟨a, b, xs, ys, rfl, .inl ⟨SqL.of s, SqL.of s2, fun L hL => lc_it (walk_zip (n := ds.length) (by rw [r.len, rb.len, Nat.min_self])) (CI K H2 L (GI D.bl fun i zs => zs = List.replicate i true ∧ i ≤ ds.length)) (ci_start (I := GI D.bl fun i zs => zs = List.replicate i true ∧ i ≤ ds.length) hL ⟨[], rfl, Nat.zero_le _, rfl, Nat.zero_le _⟩) (fun i H' _ c => ⟨SqL.of (c.2.1.lst s nh), SqL.of (c.2.1.lst s2 nh2)⟩) ?_ (fun H' c => fin c)⟩⟩
    rintro i x H' H3 hi c ⟨T, x1, x2, rfl, nT, rfl, f1, f2⟩
    obtain ⟨d1, g1, g2⟩ := r.at' f1
    obtain ⟨d2, g3, g4⟩ := rb.at' f2
    have ed : d1 = d2 := Option.some.inj (g1.symm.trans g3)
    subst ed
    exact ⟨T, _, rfl, Evl.st_of upd_same, rfl, _, _, rfl, _, _, rfl, rfl, hw _ _, turn g1 g2 g4 (CI.le G c (Le.new nT)) rfl⟩
end
structure STxt (mg : Str → Option Value) : Prop extends Txt mg where
  n_zip : mg "zip" = none
/-- == of what is flat, and of empty dicts -/
def rEqX : R2 := fun x y H Q => rEq x y H Q ∨ ∃ a b, x = .ref a ∧ y = .ref b ∧ H a = some (.dK []) ∧ H b = some (.dK []) ∧ Q (.bl true) H
theorem op_eqX {X : Cx} (hu : X.A.units < cLine) : OpR X (compareOp .Eq) rEqX := by
  intro pins s σ H x y v u Q I rx ry h
  rcases h with h | ⟨a, b, rfl, rfl, h1, h2, q⟩
  · exact op_eq pins s σ H x y v u Q I rx ry h
  · exact op_eq_dict hu pins s σ H _ _ v u Q I rx ry ⟨a, b, [], rfl, rfl, h1, h2, List.nodup_nil, (fun p hp => nomatch hp), q⟩
section
variable {P : Program} {w : World} {K : PySem.W.Frag} {mg : Str → Option Value} {base : Heap}
def R_is (n : Nat) : List D → Hp → Pd → Prop := fun ds H P => P = is (.bl true) ∧ ((∃ d, ds = [d, d] ∧ Dp n d) ∨ 0 < n ∧ ∃ p : Addr, ds = [.obj (.ref p), .obj (.ref p)] ∧ H p = some (.dK []))
theorem ok_is (T : STxt mg) (g : GDef K mg "_law_is" s__law_is ["_law_told", "_law_due"]) : ∀ n : Nat, Def P w K mg base (n + 1) "_law_is" ["_law_told", "_law_due"] (spD K (R_is n))
  | 0 => by
    have no : ∀ ds H Pd, ¬ R_is 0 ds H Pd := fun ds H Pd h => by
      rcases h.2 with ⟨d, _, h⟩ | ⟨h, _⟩
      · exact absurd h id
      · exact absurd h (Nat.lt_irrefl 0)
    exact defD g sc__law_is (fun ds H Pd h => (no _ _ _ h).elim) fun cdv A outer s f H vs ds Pd Q E hr r h q => (no _ _ _ h).elim
  | n + 1 => by
    have G_law_is := ok_is T g n
    refine defD g sc__law_is (fun ds H Pd h => ?_) fun cdv A outer s f H vs ds Pd Q E hr r h q => ?_
    · rcases h.2 with ⟨d, rfl, _⟩ | ⟨_, p, rfl, _⟩ <;> rfl
    refine ⟨_, (pss_cons (ps_if (pt_val (pe_callB (kc_isiT (K := K)) (by rfl) T.n_isinstance boot_isinstance (pa_cons (pv 1) (pa_cons (pe_tup (pa_cons (pe_bltn (v := V.ty "tuple") (by rfl) T.n_tuple boot_tuple rfl) (pa_cons (pe_bltn (v := V.ty "list") (by rfl) T.n_list boot_list rfl) pa_nil))) pa_nil))))
      (pss_cons (ps_if (PW.pt (pw_or (pt_cmpR op_ne (pe_callB (kc_isi (K := K)) (by rfl) T.n_isinstance boot_isinstance (pa_cons (pv 0) (pa_cons (pe_bltn (v := V.ty "tuple") (by rfl) T.n_tuple boot_tuple rfl) pa_nil))) (pe_callB (kc_isi (K := K)) (by rfl) T.n_isinstance boot_isinstance (pa_cons (pv 1) (pa_cons (pe_bltn (v := V.ty "tuple") (by rfl) T.n_tuple boot_tuple rfl) pa_nil))) (nomark _)) (pw_or1 (pt_not (pt_val (pe_callB (kc_isiT (K := K)) (by rfl) T.n_isinstance boot_isinstance (pa_cons (pv 0) (pa_cons (pe_tup (pa_cons (pe_bltn (v := V.ty "tuple") (by rfl) T.n_tuple boot_tuple rfl) (pa_cons (pe_bltn (v := V.ty "list") (by rfl) T.n_list boot_list rfl) pa_nil))) pa_nil))))))))
      (pss_one (ps_ret pe_bl))
      pss_nil)
    (pss_one (ps_ret (pe_and (pe_cmpR op_eq (pe_callB (kc_len (K := K)) (by rfl) T.n_len boot_len (pa_cons (pv 0) pa_nil)) (pe_callB (kc_len (K := K)) (by rfl) T.n_len boot_len (pa_cons (pv 1) pa_nil)) (nomark _)) (pe_one (pe_callB (kc_all (K := K) rfl) (by rfl) T.n_all boot_all (pa_cons (pe_lc (own := [("_law_one", 2), ("_law_two", 3)]) rfl sc__law_is.nd (kpi_zipA (K := K) (by rfl) T.n_zip (pa_cons (pv 0) (pa_cons (pv 1) pa_nil))) (blkOk_by (N := N__law_is) (sc := defScope s__law_is) (by decide +kernel)) (fun _ _ _ _ _ => (kpg_tup (K := K) (n := 2) rfl (pgs_cons (pg_name (i := 2) sc__law_is.nd rfl (Or.inl rfl)) (pgs_cons (pg_name (i := 3) sc__law_is.nd rfl (Or.inl rfl)) pgs_nil)))) (fun _ _ _ _ _ => pts_nil) (fun _ _ _ _ _ => (pe_def G_law_is hr (pa_cons (pv 2) (pa_cons (pv 3) pa_nil))))) pa_nil)))))))
      pss_nil)
    (pss_one (ps_ret (pe_and (pe_cmpR op_eq (pe_callB (kc_isi (K := K)) (by rfl) T.n_isinstance boot_isinstance (pa_cons (pv 0) (pa_cons (pe_bltn (v := V.ty "bool") (by rfl) T.n_bool boot_bool rfl) pa_nil))) (pe_callB (kc_isi (K := K)) (by rfl) T.n_isinstance boot_isinstance (pa_cons (pv 1) (pa_cons (pe_bltn (v := V.ty "bool") (by rfl) T.n_bool boot_bool rfl) pa_nil))) (nomark _)) (pe_one (pe_cmpR (op_eqX hr.units0) (pv 0) (pv 1) (nomark _))))))), ?_⟩
    obtain ⟨rfl, h⟩ := h
    rcases h with ⟨d, rfl, hd⟩ | ⟨_, p, rfl, hp⟩
    rotate_left
    · obtain ⟨v1, v2, rfl, r1, r2⟩ := rps2 r
      have e1 := rp_obj r1
      have e2 := rp_obj r2
      subst e1 e2
      have ty : ∀ {H1 : Hp}, Le H H1 → TyX K H1 (.ref p) (.type "dict") := fun e => .base (.dK (e.dK hp))
      have hT : ∀ {H1 : Hp} {σ : L2.St} {j : Nat}, Le H H1 → σ[j]? = some (some (.ref p)) → ED K (tCB (rIsiT K) (tCons (tVar j) (tCons (tTup (tCons (tC (.ty "tuple")) (tCons (tC (.ty "list")) tNil))) tNil))) σ H1 (.bl false) := fun e hs H2 e2 Q q =>
        ⟨_, hs, (by decide), fun a na => ⟨.ref p, a, _, .type "dict", [.type "tuple", .type "list"], false, rfl, upd_same, .cons (.ty "tuple") (.cons (.ty "list") .nil), ty ((e.trans e2).trans (Le.new na)), (by
          unfold PySem.W.kitAny
          rw [show PySem.W.kitOne K (.type "dict") (.type "tuple") = some false from kit_ty (by decide +kernel)]
          dsimp only
          unfold PySem.W.kitAny
          rw [show PySem.W.kitOne K (.type "dict") (.type "list") = some false from kit_ty (by decide +kernel)]
          rfl), q _ _ _ (Le.new na) rfl (.bl _)⟩⟩
      have hB : ∀ {H1 : Hp} {σ : L2.St} {j : Nat}, Le H H1 → σ[j]? = some (some (.ref p)) → ED K (tCB (rIsi K) (tCons (tVar j) (tCons (tC (.ty "bool")) tNil))) σ H1 (.bl false) := fun e hs H2 e2 Q q =>
        ⟨_, hs, .ref p, .ty "bool", .type "dict", .type "bool", false, rfl, .ty "bool", ty (e.trans e2), kit_ty (by decide +kernel), q _ _ _ (Le.refl _) rfl (.bl _)⟩
      refine q_whenB (b := false) (et_B (K := K) (hT (Le.refl _) rfl)) (fun hb => nomatch hb) (fun _ H1 e1 => ?_)
      refine s_retD (K := K) (d := .bl true) (ed_eq (ed_andV (a := true) (b := true) (ed_eq (ed_eqS (d1 := .bl false) (d2 := .bl false) (hB e1 rfl) (hB e1 rfl) rfl rfl rfl) (congrArg D.bl (decide_eq_true rfl))) fun _ H2 e2 Q' q' => ?_) rfl) fun v H3 e3 r => q v _ H3 (e1.trans e3) rfl r
      exact ⟨_, rfl, _, rfl, .inr ⟨p, p, rfl, rfl, (e1.trans e2).dK hp, (e1.trans e2).dK hp, q' _ _ H2 (Le.refl _) rfl (.bl _)⟩⟩
    obtain ⟨v1, v2, rfl, r1, r2⟩ := rps2 r
    have no := hd.no
    have vsb : ∀ b : Bool, decide (vOf (.bl b) = vOf (.bl b)) = true := fun b => decide_eq_true rfl
    have hlen : ∀ {H1 : Hp} {σ : L2.St} {j : Nat} {v : V} {ds : List D}, (d = .tup ds ∨ d = .lst ds) → σ[j]? = some (some v) → Rp K H1 v d → ED K (tCB (fun xs H Q => ∃ p ys, xs = [.ref p] ∧ (SqL K H p ys ∨ SqT K H p ys) ∧ Q (.int ys.length) H) (tCons (tVar j) tNil)) σ H1 (.int (ds.length : Int)) := by
      intro H1 σ j v ds hd hs r
      rcases hd with rfl | rfl
      · exact ed_lenT (ed_var hs r)
      · exact ed_lenL (ed_var hs r)
    refine q_whenB (b := isSeq d) (et_B (K := K) (ed_isiT (ed_var rfl r2) no)) (fun hb H1 e1 => ?_) (fun hb H1 e1 => ?_)
    · obtain ⟨ds, hds, hz, hdp⟩ : ∃ ds, (d = .tup ds ∨ d = .lst ds) ∧ ds.length ≤ 50000 ∧ ∀ x ∈ ds, Dp n x := by
        cases d with
        | tup xs => exact ⟨xs, .inl rfl, hd.1, hd.2⟩
        | lst xs => exact ⟨xs, .inr rfl, hd.1, hd.2⟩
        | _ => cases hb
      refine q_no (b := false) (eb_eq (eb_or (a := false) (b := false) (eb_eq (et_test (K := K) (ed_neS (ed_isi (ed_var rfl (r1.le e1)) (noObj_ne no) (kd_tup no)) (ed_isi (ed_var rfl (r2.le e1)) (noObj_ne no) (kd_tup no)) rfl rfl rfl)) (by rw [vsb]; rfl)) fun _ => eb_eq (eb_not (et_B (K := K) (ed_isiT (ed_var rfl (r1.le e1)) no))) (by rw [hb]; rfl)) rfl) rfl fun H2 e2 => ?_
      refine s_retD (K := K) (d := .bl true) (ed_eq (ed_andV (a := true) (b := true) (ed_eq (ed_eqS (d1 := .int (ds.length : Int)) (d2 := .int (ds.length : Int)) (hlen hds rfl (r1.le (e1.trans e2))) (hlen hds rfl (r2.le (e1.trans e2))) rfl rfl rfl) (congrArg D.bl (decide_eq_true rfl))) fun _ => ed_eq (ed_all (bs := List.replicate ds.length true) (ed_lcZ hds (ea_cons (ed_var rfl (r1.le (e1.trans e2))) (ea_cons (ed_var rfl (r2.le (e1.trans e2))) ea_nil)) hz (fun _ _ => rfl) fun x v u H3 e3 hx rv ru => ed_call (ea_cons (ed_var rfl rv) (ea_cons (ed_var rfl ru) ea_nil)) fun H4 e4 => ⟨rfl, .inl ⟨x, rfl, hdp x hx⟩⟩)) ?_) rfl) fun v H3 e3 r => q v _ H3 ((e1.trans e2).trans e3) rfl r
      congr 1
      rw [List.all_eq_true]
      intro b hb2
      rw [List.eq_of_mem_replicate hb2]
      rfl
    · have hf : flat d = true := by cases d <;> first | rfl | cases hb
      have hs : scal (vOf d) (vOf d) = true := by cases d <;> first | rfl | exact absurd no Bool.false_ne_true | cases hb
      have kb := kd_bl no
      exact s_retD (K := K) (d := .bl true) (ed_eq (ed_andV (a := true) (b := true) (ed_eq (ed_eqS (ed_isi (ed_var rfl (r1.le e1)) (noObj_ne no) kb) (ed_isi (ed_var rfl (r2.le e1)) (noObj_ne no) kb) rfl rfl rfl) (congrArg D.bl (vsb _))) fun _ => ed_op (ed_var rfl (r1.le e1)) (ed_var rfl (r2.le e1)) fun x y H2 _ q1 q2 Q q => .inl ⟨by rw [rp_flat hf q1, rp_flat hf q2]; exact hs, by rw [rp_flat hf q1, rp_flat hf q2, decide_eq_true rfl]; exact q _ _ H2 (Le.refl _) rfl (.bl _)⟩) rfl) fun v H3 e3 r => q v _ H3 (e1.trans e3) rfl r
end
end W1

set_option maxRecDepth 100000
set_option maxHeartbeats 4000000
namespace W1
open PySem PyProof.Rows L2 RZ
local macro_rules | `(tactic| walk_at "rp") => `(tactic| first | assumption | exact Rp.int _ | exact Rp.bl _ | exact Rp.str _ | exact Rp.non | exact Rp.obj _ | (refine Rp.le (by assumption) ?_; walk_at "rp"))
local macro_rules | `(tactic| walk_at "ed") => `(tactic| first
  | exact ed_int | exact ed_str | exact ed_bl | exact ed_non
  | (refine ed_var rfl ?_; walk_at "rp")
  | (refine ed_ixT (ds := [_, _]) ?_ ed_int (by decide) rfl; walk_at "ed")
  | (refine ed_I0 ?_ ?_ <;> walk_at "ed")
  | (refine ed_B0 ?_ ?_ <;> walk_at "ed")
  | (refine ed_eqS ?_ ?_ rfl rfl rfl <;> walk_at "ed")
  | assumption)
local macro_rules | `(tactic| walk_at "ea") => `(tactic| first | exact ea_nil | (refine ea_cons ?_ ?_; walk_at "ed"; walk_at "ea"))

abbrev s__law_nested : Stmt := topS 31
abbrev N__law_nested : List Str := ["_law_hand_here", "_law_thing", "_law_turn"]
theorem sc__law_nested : FnScope N__law_nested ["_law_hand_here"] (defScope s__law_nested) := ⟨rfl, rfl, rfl, by decide +kernel, rfl, by decide +kernel, by decide +kernel⟩
theorem ep_any {K : PySem.W.Frag} {σ : L2.St} {H : Hp} {E : XK} {h : Addr} {ta : TA} {PX : List D → Prop} (hh : Hand H h) (ha : EA K ta σ H (fun ds _ => ∃ xs, ds = [.obj (.ref h), .lst xs] ∧ PX xs)) (hne : ∀ xs, PX xs → xs ≠ [] ∧ xs.length ≤ 100000) :
    EP K (tCall (spD K R_any) [] E ta) σ H (fun d _ => ∃ xs, PX xs ∧ d ∈ xs) :=
  ep_call ha fun ds H2 e ⟨xs, ed, px⟩ => ⟨fun d _ => d ∈ xs, ⟨h, xs, ed, hh.le e, (hne xs px).1, (hne xs px).2, rfl⟩, fun d H3 _ hd => ⟨xs, px, hd⟩⟩
section
variable {P : Program} {w : World} {K : PySem.W.Frag} {mg : Str → Option Value} {base : Heap}
theorem Dp.up : ∀ {n : Nat} {d : D}, Dp n d → Dp (n + 1) d
  | 0, _, h => absurd h id
  | n + 1, .tup xs, h => ⟨h.1, fun x hx => Dp.up (h.2 x hx)⟩
  | n + 1, .lst xs, h => ⟨h.1, fun x hx => Dp.up (h.2 x hx)⟩
  | n + 1, .obj _, h => absurd h id
  | n + 1, .non, _ => trivial
  | n + 1, .bl _, _ => trivial
  | n + 1, .int _, _ => trivial
  | n + 1, .str _, _ => trivial
def R_nested : List D → Hp → Pd → Prop := fun ds H P => ∃ h : Addr, ds = [.obj (.ref h)] ∧ Hand H h ∧ P = fun d _ => Dp 38 d
theorem ok_nested (T : STxt mg) (g : GDef K mg "_law_nested" s__law_nested ["_law_hand_here"]) (G_law_any : Def P w K mg base 2 "_law_any" ["_law_hand_here", "_law_items"] (spD K R_any)) : Def P w K mg base 3 "_law_nested" ["_law_hand_here"] (spD K R_nested) := by
  refine defD g sc__law_nested (fun ds H Pd h => ?_) fun cdv A outer s f H vs ds Pd Q E hr r h q => ?_
  · obtain ⟨h, rfl, _⟩ := h
    rfl
  obtain ⟨h, rfl, hh, rfl⟩ := h
  obtain ⟨v1, rfl, r1⟩ := rps1 r
  have ev := rp_obj r1
  subst ev
  refine ⟨_, (pss_cons (ps_set (i := 1) sc__law_nested.nd rfl (Or.inl rfl) (pe_def G_law_any (hr.mono (by decide)) (pa_cons (pv 0) (pa_cons (pe_lst (pa_cons (pe_tup pa_nil) (pa_cons pe_int (pa_cons pe_str (pa_cons pe_non pa_nil))))) pa_nil))))
    (pss_cons (ps_for PassesOwn.never rfl (pi_range1 (by rfl) T.n_range (pa_cons pe_int pa_nil)) (pg_name (i := 2) sc__law_nested.nd rfl (Or.inl rfl))
      (pss_one (ps_set (i := 1) sc__law_nested.nd rfl (Or.inl rfl) (pe_ifExp (pt_cmpR op_eq (pe_op op_mod (pe_callTy call_int1 (by rfl) T.n_int boot_int (pa_cons (pv 2) pa_nil)) pe_int) pe_int (nomark _)) (pe_lst (pa_cons (pv 1) pa_nil)) (pe_tup (pa_cons (pv 1) pa_nil))))))
    (pss_one (ps_ret (pv 1))))), ?_⟩
  refine q_asg (K := K) (ep_any (K := K) (PX := fun xs => xs = [.tup [], .int 0, .str "a", .non]) hh (EA_weak (ea_cons (ed_var rfl (.obj (.ref h))) (ea_cons (ed_lst (ea_cons (ed_tup ea_nil (by decide)) (ea_cons ed_int (ea_cons ed_str (ea_cons ed_non ea_nil)))) (by show 4 ≤ 100000; decide) rfl) ea_nil)) fun ds H2 p => ⟨_, p, rfl⟩) fun xs hx => by rw [hx]; exact ⟨(fun h => nomatch h), by show 4 ≤ 100000; decide⟩) fun v d H1 e1 p r2 => ?_
  have hd : Dp 2 d := by
    obtain ⟨xs, rfl, hm⟩ := p
    simp only [List.mem_cons, List.not_mem_nil, or_false] at hm
    rcases hm with rfl | rfl | rfl | rfl
    · exact ⟨Nat.zero_le _, fun x hx => nomatch hx⟩
    · trivial
    · trivial
    · trivial
  refine q_forR1 (K := K) (n := 36) (ea_cons ed_int ea_nil) (by omega) fun H2 e2 => ?_
  refine ⟨fun i σ H' => ∃ v y d, σ = [some (.ref h), some v, y] ∧ Le H H' ∧ Rp K H' v d ∧ Dp (i + 2) d, ⟨v, none, d, rfl, e1.trans e2, r2.le e2, hd⟩, ?_, ?_⟩
  · rintro i σ' H3 hi ⟨v, y, d, rfl, e, r2, hd⟩
    refine s_asg (K := K) (P := fun d' _ => Dp (i + 3) d') (ep_if (et_test (K := K) (ed_eqS (d2 := .int 4) (ed_I (f := fun i j => i % j) (ed_int1 (ed_var rfl (.int (i : Int)))) ed_int (by show (0 : Int) < 5; decide)) ed_int rfl rfl rfl)) (fun _ => ?_) fun _ => ?_) fun v' d' H4 e4 p r => ⟨v', _, d', rfl, e.trans e4, r, p⟩
    · refine ep_lst (PA := fun ds _ => ds = [d]) (ea_cons (ed_var rfl r2) ea_nil) (fun ds H4 p => by rw [p]; show 1 ≤ 100000; decide) (fun ds H4 xs p rr => notH_len (by rw [rr.len, p]; show 1 ≠ 5; decide)) fun ds H4 p H5 _ => ?_
      subst p
      exact ⟨by show 1 ≤ 50000; decide, fun x hx => by rw [List.mem_singleton.mp hx]; exact hd⟩
    · refine EP.weak (ed_tup (ea_cons (ed_var rfl r2) ea_nil) (by show 1 ≤ 100000; decide)) fun d' H4 _ p => ?_
      have p' : d' = .tup [d] := p
      subst p'
      exact ⟨by show 1 ≤ 50000; decide, fun x hx => by rw [List.mem_singleton.mp hx]; exact hd⟩
  · rintro σ' H3 ⟨v, y, d, rfl, e, r2, hd⟩
    exact s_ret (K := K) (ed_var rfl r2) fun v' d' H4 e4 p r => q v' d' H4 (e.trans e4) (by
      have p' : d' = d := p
      subst p'
      exact hd) r
end
end W1

set_option maxRecDepth 100000
set_option maxHeartbeats 4000000
/-! own rule: an own error's __init__ that says super().__init__() and nothing else -/
namespace L2
open PySem PySem.Spec PySem.Calls PyProof.Rows
abbrev topE0 (i : Nat) : Stmt := PySem.Challenge.pw_staletags_k00_errors_of_the_package.main.body.getD i (.Pass ⟨0, 0, 0, 0⟩)
abbrev s_TagError___init__ : Stmt := inClass (topE0 1) 0
structure SupF (P : Program) (K : PySem.W.Frag) (mg : Str → Option Value) (D f : Addr) (fd : FuncData) : Prop where
  fn : ∃ (oc : Value) (od : Option Addr) (osl : Array (Option Value)) (kV doc pm : Value) (an : Option Addr) (cda : Addr) (ct : Value) (cc : Addr), fd = PySem.W.fnX "__init__" "TagError.__init__" (defArgs s_TagError___init__) (defBody s_TagError___init__) (defScope s_TagError___init__) [("__class__", cc)] .none kV doc pm an (.ref cda) ct ∧
    K.lookup f = some ⟨oc, od, .func fd, osl⟩ ∧ PySem.W.codeIn K (.ref cda) "TagError.__init__" = true ∧
    (∃ (ccl : Value) (cdd : Option Addr) (vs : Array Value) (ccs : Array (Option Value)) (file : Str) (tf : Tok), K.lookup cda = some ⟨ccl, cdd, .fields vs, ccs⟩ ∧ vs[2]? = some (.str file tf) ∧ ((P.main.file : Str) == file) = true) ∧
    ∃ (cl : Value) (cld : Option Addr) (csl : Array (Option Value)), K.lookup cc = some ⟨cl, cld, .cell (some (.ref D)), csl⟩
  cd : ∃ cdD, PySem.W.clsIn K D = some cdD
  op : PySem.W.nsIn K cStatics "thirdparty.any" = some none
  sup : mg "super" = none
  top : (P.main.scope.names.lookup ("super" : Str)).isSome = false
structure SupC (K : PySem.W.Frag) (D C : Addr) : Prop where
  ox : OexC K C
  sub : PySem.W.mroIn K C (.ref D) = some true
  init : PySem.W.ks_superIn K C D "__init__" = some (some (.builtin "ValueError.__init__"))
  ve : PySem.W.subIn K (.ref C) (.type "ValueError") = some true
def spSup (K : PySem.W.Frag) (D : Addr) : Sp := fun vs H Q _ => ∃ a C, vs = [.ref a] ∧ H a = some (exo a C none) ∧ SupC K D C ∧ Q .non H
theorem sup_ok {P : Program} {w : World} {K : PySem.W.Frag} {mg : Str → Option Value} {base : Heap} {D f : Addr} {fd : FuncData} {k : Nat} (S : SupF P K mg D f fd) : FnOk P w K mg base CX0 (k + 1) f fd ["self"] (spSup K D) := by
  obtain ⟨oc, od, osl, kV, doc, pm, an, cda, ct, cc, rfl, lk, hcd, ⟨ccl, cdd, vs, ccs, file, tf, lcda, hvs, hfile⟩, ⟨cl, cld, csl, lcc⟩⟩ := S.fn
  obtain ⟨cdD, hcdD⟩ := S.cd
  refine ⟨fun vs H Q E h => ?_, fun A outer s H args us vs Q E hr e0 hb r hsp => ?_⟩
  · obtain ⟨a, C, rfl, _⟩ := h
    rfl
  obtain ⟨a, C, rfl, ha, SC, q⟩ := hsp
  have hus : us = [.ref a] := by
    cases r with
    | cons h r =>
      cases r
      rw [show _ = Value.ref a from h]
  subst hus
  have KX : K.In s.heap := e0.mod.kin.keeps fun b o e => (e0.bs b o e).1
  have lim : s.heap.NoLimit := e0.mod.nolimit.keeps fun b o e => (e0.bs b o e).1
  have glob : s.heap.Ns mainGlobals mg := e0.mod.glob.keeps fun b o e => (e0.bs b o e).1
  obtain ⟨mb, hmb, hboot⟩ := e0.mod.blt
  have blt : s.heap.Ns builtinsNs mb := hmb.keeps fun b o e => (e0.bs b o e).1
  obtain ⟨t0, hx⟩ := exo_at e0.hok ha
  refine ks_codeAny_call_defAt (body := defBody s_TagError___init__) (binds := [("self", .ref a)]) hr.depth (KX _ _ lk) rfl lim (PySem.W.codeRec_of KX hcd) rfl hb (by show ∀ x ∈ (defScope s_TagError___init__).names, x.2 ≠ .cell; decide +kernel) (fun x hx => ?_) (fun h₁ hns hk₁ => ?_) rfl rfl rfl
  · rw [List.mem_singleton.mp hx]
    rfl
  refine ks_wpAt_execs_cons (ks_wpAt_Expr_any (ks_wpAt_MethodCall ?_))
  obtain ⟨s0, g, d, t, os⟩ := s
  have kk : ∀ b o, s0.get? b = some o → h₁.get? b = some o := hk₁
  have K1 : K.In h₁ := KX.keeps kk
  obtain ⟨oD, hD1, hD2⟩ : ∃ oD, h₁.get? D = some oD ∧ oD.data = .cls cdD := by
    unfold PySem.W.clsIn at hcdD
    split at hcdD
    · rename_i c d cd' sl ho
      cases hcdD
      exact ⟨_, K1 _ _ ho, rfl⟩
    · cases hcdD
  refine ks_wpAt_super_base rfl rfl rfl rfl (K1 _ _ lk) rfl rfl rfl (K1 _ _ lcda) rfl hvs hfile S.top ?_
  refine PySem.W.ks_loadName_global rfl rfl (loadGlobal_builtin (glob.keeps kk) S.sup (blt.keeps kk) ((hboot "super" (by decide)).trans (by decide +kernel)) ⟨rfl, ?_⟩)
  refine wpAny_loadName_free rfl rfl rfl ⟨_, K1 _ _ lcc, rfl⟩ ?_
  refine wpAny_loadName_local rfl rfl hns rfl ?_
  refine ks_wpAny_isType_cls hD1 hD2 ⟨rfl, ?_⟩
  refine ks_wpAny_call_super hD1 hD2 (kk _ _ hx) rfl (fun c e => nomatch e) (PySem.W.looks_mroIn K1 SC.sub) (fun h2 e2 k2 => ?_)
  have K2 : K.In h2 := K1.keeps k2
  have xa2 := k2 _ _ (kk _ _ hx)
  have I2 : PySem.W.InstAt h2 a _ C none := ⟨xa2, rfl, rfl, trivial⟩
  cases hc : PySem.W.clsIn K C with
  | none =>
    have h := SC.init
    unfold PySem.W.ks_superIn at h
    rw [hc] at h
    cases h
  | some cd =>
    have hi := SC.init
    unfold PySem.W.ks_superIn at hi
    rw [hc] at hi
    refine PySem.W.kxs_getMethod PySem.W.kxs_ValueError e2 (PySem.W.looks_opaque K2 S.op) (l₀ := cd.mro) (fun A Q E s k q => wpAny_bind ((PySem.W.looks_clsIn K2 hc) A _ E s k (wpAny_pure q))) rfl K2 hi (I2.type.andThen (PySem.W.looks_subIn K2 SC.ve)) (PySem.W.ks_ne K2 I2 hc) rfl ?_
    have k3 : ∀ b o, h2.get? b = some o → (h2.push (PySem.W.kxs_mw "ValueError.__init__" a)).get? b = some o := fun b o e => Heap.get?_push_of_some _ e
    have hu : (h2.push (PySem.W.kxs_mw "ValueError.__init__" a)).get? h2.objs.size = some (PySem.W.kxs_mw "ValueError.__init__" a) := Heap.get?_push_at rfl rfl
    refine PySem.W.kxs_callWith (i := "ValueError.__init__") (x := a) rfl (evalArgs_empty ⟨hu, ?_⟩)
    obtain ⟨nm, qn, N, bs, bm, sn, sub, ab, col, dd, k0, k1, k2', k3', k5, hC, hbm⟩ := SC.ox.cls
    refine wpAny_call (codeAny_of_tree ?_)
    show wpAny _ _ (callAny (.ref h2.objs.size) ⟨[], []⟩) _ _ _
    simp only [callAny]
    refine wpAny_bind (wpAny_load hu ?_)
    simp only [PySem.W.kxs_mw, show (Value.type "method-wrapper" == Value.type "method" || Value.type "method-wrapper" == Value.type "builtin_function_or_method" || Value.type "method-wrapper" == Value.type "method-wrapper") = true by decide, if_true]
    refine PySem.W.KFB.if_so (by decide) ?_
    refine wpAny_bind (PySem.W.check_bound_init F.excBase_ValueError.toExcCallFacts (k3 _ _ (K2 _ _ hC)) (k3 _ _ xa2) rfl ?_)
    refine wpAny_bind (wpAny_pure (wpAny_pure ?_))
    refine ⟨plainId_quiet F.excBase_ValueError.init.plain _, codeAny_builtin F.excBase_ValueError.initEntry ?_⟩
    refine PySem.W.exc_init_tree (cls := .ref C) (t0 := t0) (dv := none) (c2 := .none) (c3 := .none) (b4 := .bool false) (k3 _ _ xa2) (Nat.zero_le _) fun h' k4 ex et => ?_
    have kf : ∀ b u, b ≠ a → s0.get? b = some u → h'.get? b = some u := fun b u hb e => k4 b u hb (k3 _ _ (k2 _ _ (kk _ _ e)))
    have ao : ∃ u, h'.get? a = some u := ⟨_, ex⟩
    have mu : Mut (H a) := by
      rw [ha]
      exact True.intro
    have eu : upd H a (exo a C none) = H := by
      funext b
      by_cases hb : b = a
      · rw [hb, upd_same, ha]
      · rw [upd_ne hb]
    have un : Un (frs outer) [] H (upd H a (exo a C none)) s0 h' := Un.write mu (.inl rfl) kf ao
    have ok : HOk P w (upd H a (exo a C none)) h' := e0.hok.write mu (.inl rfl) kf ao (exo_ok ex)
    rw [eu] at un ok
    refine wpAt_of_wpAny (wpAny_execs_nil ?_)
    exact ⟨.non, H, rfl, e0.bare, un, ok, rfl, q⟩
/-- C(), an own error class whose __init__ is such: a new error, its dict none -/
theorem pe_sup0 {X : Cx} {x : Str} {D C fI : Addr} {k : Nat} {fd : FuncData} {p pos : Pos} (T : SupC X.K D C) (iC : PySem.W.findIn X.K (.ref C) "__init__" = some (some (.ref fI))) (tI : PySem.W.typeIn X.K (.ref fI) = some (.type "function"))
    (F1 : FnOk X.prog X.w X.K X.mg X.base CX0 k fI fd ["self"] (spSup X.K D)) (hr : Room (k + 1) X.A) (hb : Binds X.K fd ["self"] []) (hg : Gl X x) (hm : X.mg x = some (.ref C)) (hdb : (x == ("__debug__" : Str)) = false := by decide) :
    PE X (.Call (.Name x p) [] [] pos) (fun σ H Q => ∀ a, H a = none → Q (.ref a) (upd H a (exo a C none))) := by
  refine ⟨fun pins s σ H Q I h => ?_⟩
  obtain ⟨nm, q, N, bs, bm, sn, sub, ab, col, dd, k0, k1, k2, k3, k5, hC, hbm⟩ := T.ox.cls
  refine wpAny_Call_Name_kw (ld_glob I hg hm ?_ hdb)
  refine PySem.W.callWith_K0 I.kIn T.ox.kC ?_
  obtain ⟨hp, g, dr, tk, os⟩ := s
  have hsz : hp.objs.size ≤ hp.objs.size + 1 := Nat.le_succ _
  have hn : H (hp.objs.size + 1) = none := I.hok.fresh hsz
  have hq := h (hp.objs.size + 1) hn
  have kk : ∀ b o, hp.get? b = some o → ((hp.push (PySem.W.kdv_tup [])).push (PySem.HandSPX.excO C hp.objs.size)).get? b = some o := fun b o e => Heap.get?_push_of_some _ (Heap.get?_push_of_some _ e)
  have hget : ((hp.push (PySem.W.kdv_tup [])).push (PySem.HandSPX.excO C hp.objs.size)).get? (hp.objs.size + 1) = some (PySem.HandSPX.excO C hp.objs.size) := by heap_get
  have I2 : Inv X pins σ (upd H (hp.objs.size + 1) (exo (hp.objs.size + 1) C none)) ⟨(hp.push (PySem.W.kdv_tup [])).push (PySem.HandSPX.excO C hp.objs.size), g, dr, tk, os⟩ :=
    I.laid (t' := tk) (a := hp.objs.size + 1) (o := exo (hp.objs.size + 1) C none) (h' := (hp.push (PySem.W.kdv_tup [])).push (PySem.HandSPX.excO C hp.objs.size)) kk hsz (exo_ok hget)
  have hsp : spSup X.K D [.ref (hp.objs.size + 1)] (upd H (hp.objs.size + 1) (exo (hp.objs.size + 1) C none)) (fun v H2 => v = .non ∧ Q (.ref (hp.objs.size + 1)) H2) (fun _ _ _ => False) := ⟨_, C, rfl, upd_same, T, rfl, hq⟩
  refine wpAny_call (PySem.HandSPX.call_own F.excBase_ValueError (fun Y => PySem.HandSPX.refsVE_contains Y bm hbm) (I.kIn _ _ hC) (PySem.W.looks_findIn I.kIn iC) (fun self => PySem.W.bind_fn I.kIn self tI) (Nat.zero_le _)
    (codeAny_mono (F1.run _ X.stack _ _ ⟨Value.ref (hp.objs.size + 1) :: [], []⟩ [Value.ref (hp.objs.size + 1)] [V.ref (hp.objs.size + 1)] _ (fun _ _ _ => False) (hr.make C [] []) (I2.env0.make C [] []) (hb _ [Value.ref (hp.objs.size + 1)] I2.kIn rfl) (.cons rfl .nil) hsp) fun r s' hq' => ?_))
  cases r with
  | error er => exact hq'.elim
  | ok fl =>
    cases fl with
    | ret u =>
      obtain ⟨v, H', I3, rv, ev, q3⟩ := I2.after hq'
      subst ev
      exact ⟨rv, ⟨V.ref (hp.objs.size + 1), H', I3, rfl, q3⟩⟩
    | next => exact False.elim hq'
    | brk => exact False.elim hq'
    | cont => exact False.elim hq'
end L2

set_option maxRecDepth 100000
set_option maxHeartbeats 4000000
/-! own rules: errors of own classes held as values -/
namespace L2
open PySem PySem.Spec PySem.Calls PyProof.Rows
section
variable {X : Cx} {pins : List (Addr × Obj)} {σ : St} {H : Hp} {s : Shared}
/-- the error at a of the class C: without a dict, or with one that holds fs -/
def ErrAt (H : Hp) (a C : Addr) (fs : Option (List (Str × V))) : Prop := match fs with
  | none => H a = some (exo a C none)
  | some l => ∃ dx, H a = some (exo a C (some dx)) ∧ H dx = some (exd dx l)
theorem err_inst {a C : Addr} {fs : Option (List (Str × V))} (I : Inv X pins σ H s) (e : ErrAt H a C fs) : ∃ (oe : Obj) (od : Option Obj), PySem.W.InstAt s.heap a oe C od ∧ (fs = none → od = none) := by
  cases fs with
  | none =>
    obtain ⟨t0, hx⟩ := exo_at I.hok e
    exact ⟨_, none, ⟨hx, rfl, rfl, trivial⟩, fun _ => rfl⟩
  | some l =>
    obtain ⟨dx, e1, e2⟩ := e
    obtain ⟨t0, hx⟩ := exo_at I.hok e1
    obtain ⟨mA, hns, hr⟩ := exd_at I.hok e2
    obtain ⟨od, ho, hl⟩ := lookIn_ns hns
    exact ⟨_, some od, ⟨hx, rfl, rfl, ho⟩, fun h => nomatch h⟩
/-- isinstance(e, c), e such an error -/
def rIsX (K : PySem.W.Frag) : List V → Hp → VK → Prop := fun xs H Q => ∃ (a C : Addr) (fs : Option (List (Str × V))) (c : V) (cv : Value) (b : Bool), xs = [.ref a, c] ∧ ErrAt H a C fs ∧ ExcC K C ∧ (∀ u, RelV c u → u = cv) ∧ PySem.W.kitOne K (.ref C) cv = some b ∧ Q (.bl b) H
theorem call_isX : CallR X (.builtin "isinstance") (rIsX X.K) := by
  intro pins s σ H xs us Q I r h
  obtain ⟨a, C, fs, c, cv, b, rfl, he, T, hcv, e, q⟩ := h
  cases r with
  | cons rx rr =>
    cases rr with
    | cons rt rr =>
      cases rr
      cases rx
      have ec := hcv _ rt
      subst ec
      obtain ⟨oe, od, J, _⟩ := err_inst I he
      have hcl : (PySem.W.clsIn X.K C).isSome = true := by
        obtain ⟨cd, hc, _⟩ := PySem.W.any_some T.hd
        rw [hc]
        rfl
      exact PySem.W.kia_one (PySem.W.kitx_exc hcl T.hg T.hk T.hs T.ha T.hn T.ht T.hm) I.kIn J e (fun z => nomatch z) fun tk => ⟨.bl b, H, I.kept (t' := tk) fun _ _ z => z, rfl, q⟩
/-- e.f, e such an error -/
def tXv (K : PySem.W.Frag) (te : TE) (n : Str) : TE := fun σ H Q => te σ H fun x H1 => ∃ (a C : Addr) (fs : List (Str × V)) (v : V), x = .ref a ∧ ErrAt H1 a C (some fs) ∧ XfC K C ∧ PySem.W.findIn K (.ref C) n = some none ∧ fs.lookup n = some v ∧ Q v H1
theorem pe_xv {e : Expr} {te : TE} {pos : Pos} {n : Str} (he : PE X e te) (hb : attributeBase e n X.env (eval e X.env) = eval e X.env) : PE X (.Attribute e n pos) (tXv X.K te n) := by
  refine ⟨fun pins s σ H Q I h => ?_⟩
  refine attr_of hb (thn (he.run pins s σ H _ I h) fun u s1 hh => ?_)
  obtain ⟨x, H1, I1, rx, a, C, fs, v, ex, ⟨dx, e1, e2⟩, T, hno, l, q⟩ := hh
  subst ex
  obtain rfl : u = Value.ref a := rx
  obtain ⟨t0, ha⟩ := exo_at I1.hok e1
  obtain ⟨mA, hns, hr⟩ := exd_at I1.hok e2
  obtain ⟨od, ho, hl⟩ := lookIn_ns hns
  obtain ⟨u, hu, ru⟩ := RelO.some_of (v := v) (o := mA n) (by rw [← l]; exact hr n)
  have J : PySem.W.InstAt s1.heap a _ C (some od) := ⟨ha, rfl, rfl, ho⟩
  exact HandSPX.exc_get I1.kIn J T.ga T.gg T.exC (PySem.W.findObj_own T.hdC hno rfl (by rw [hl, hu])) (handed_of ru) ⟨v, H1, I1.tok _, ru, q⟩
/-- raise e, e such an error without a dict -/
theorem pmk_exo {e : Expr} {te : TE} (hx : X.ex = []) (he : PE X e te) :
    PMk X e (fun σ H Q => te σ H fun x H1 => ∃ a C, x = .ref a ∧ H1 a = some (exo a C none) ∧ Fr0 X.H_0 a ∧ Raises X (.ref C) ∧ Q (.ref C) none (delH H1 a)) := by
  intro pins s σ H Q I h
  refine wpAny_mono (he.run pins s σ H _ I h) (fun u s1 hu => ?_) fun _ _ x => x
  obtain ⟨v, H1, I1, r1, a, C, rfl, ha, h0, hr, q⟩ := hu
  cases r1
  obtain ⟨t0, ho⟩ := exo_at I1.hok ha
  obtain ⟨G, gs, ga, J⟩ := I1.untrack ha h0 hx
  exact ⟨a, _, _, { s1 with heap := G }, delH H1 a, .ref C, none, rfl, J, gs, ga, ho, ⟨rfl, rfl⟩, rfl, rfl, delH_same, rfl, I1.bare, hr, q⟩
end
/-- C(e, ..), C's own __init__ keeping sp, as a value -/
theorem pe_ovx {X : Cx} {CX : CXT} {x : Str} {C fI : Addr} {k : Nat} {fd : FuncData} {ps : List Str} {sp : Sp} {e : Expr} {es : List Expr} {ta : TA} {p pos : Pos} (T : OexC X.K C) (iC : PySem.W.findIn X.K (.ref C) "__init__" = some (some (.ref fI))) (tI : PySem.W.typeIn X.K (.ref fI) = some (.type "function"))
    (F1 : FnOk X.prog X.w X.K X.mg X.base CX k fI fd ps sp) (hr : Room (k + 1) X.A) (hb : Binds X.K fd ps []) (hx : Passes CX X (fun _ _ _ => False)) (hg : Gl X x) (hm : X.mg x = some (.ref C)) (ha : PA X (e :: es) ta)
    (hdb : (x == ("__debug__" : Str)) = false := by decide) (he : starEach (e :: es) X.env = (false, eval e X.env) :: starEach es X.env := by rfl) (hpl : (backTo pos (starEach es X.env)).any (·.1) = false := by rfl) :
    PE X (.Call (.Name x p) (e :: es) [] pos) (fun σ H Q => ta σ H fun vs H1 => vs.length ≤ 1000 ∧ ∀ a, H1 a = none → sp (.ref a :: vs) (upd H1 a (exo a C none)) (fun v H2 => v = .non ∧ Q (.ref a) H2) (fun _ _ _ => False)) := by
  refine ⟨fun pins s σ H Q I h => ?_⟩
  obtain ⟨nm, q, N, bs, bm, sn, sub, ab, col, dd, k0, k1, k2, k3, k5, hC, hbm⟩ := T.cls
  refine wpAny_Call_Name_kw (ld_glob I hg hm ?_ hdb)
  refine PySem.W.callWith_K (h₀ := X.base) I.ok.mod.kin T.kC (thn (ha.run pos pins s σ H _ I h) fun us s1 ⟨vs, H1, I1, r1, hz, q1⟩ => ⟨I1.kIn, ?_⟩) he hpl
  show wpAny _ _ (call (.ref C) us) _ _ _
  obtain ⟨hp, g, dr, tk, os⟩ := s1
  have hn : H1 (hp.objs.size + 1) = none := I1.hok.fresh (Nat.le_succ _)
  have hq := q1 (hp.objs.size + 1) hn
  have hget : ((hp.push (PySem.W.kdv_tup us)).push (PySem.HandSPX.excO C hp.objs.size)).get? (hp.objs.size + 1) = some (PySem.HandSPX.excO C hp.objs.size) := by heap_get
  have I2 : Inv X pins σ (upd H1 (hp.objs.size + 1) (exo (hp.objs.size + 1) C none)) ⟨(hp.push (PySem.W.kdv_tup us)).push (PySem.HandSPX.excO C hp.objs.size), g, dr, tk, os⟩ :=
    I1.laid (t' := tk) (o := exo (hp.objs.size + 1) C none) (fun b o e => Heap.get?_push_of_some _ (Heap.get?_push_of_some _ e)) (Nat.le_succ _) (exo_ok hget)
  have r2 : Vals (V.ref (hp.objs.size + 1) :: vs) (Value.ref (hp.objs.size + 1) :: us) := .cons rfl r1
  have hl : (Value.ref (hp.objs.size + 1) :: us).length = ps.length := by
    have e := r2.length
    rw [F1.len _ _ _ _ hq] at e
    exact e.symm
  have hus : us.length ≤ sizeLine := by
    rw [← Paired.length r1, sizeLine_eq]
    omega
  have hbt := hb ⟨(hp.push (PySem.W.kdv_tup us)).push (PySem.HandSPX.excO C hp.objs.size), g, dr, tk, os⟩ (Value.ref (hp.objs.size + 1) :: us) I2.kIn (by rw [List.append_nil]; exact hl)
  rw [List.append_nil] at hbt
  refine wpAny_call (PySem.HandSPX.call_own F.excBase_ValueError (fun Y => PySem.HandSPX.refsVE_contains Y bm hbm) (I1.kIn _ _ hC) (PySem.W.looks_findIn I1.kIn iC) (fun self => PySem.W.bind_fn I1.kIn self tI) hus
    (codeAny_mono (F1.run _ X.stack _ _ ⟨Value.ref (hp.objs.size + 1) :: us, []⟩ (Value.ref (hp.objs.size + 1) :: us) _ _ (fun _ _ _ => False) (hr.make C us []) (I2.env0.make C us []) hbt r2 hq) fun r s' hq' => ?_))
  cases r with
  | error er => exact hx pins σ _ _ er s' I2 hq'
  | ok fl =>
    cases fl with
    | ret u =>
      obtain ⟨v, H', I3, rv, ev, q3⟩ := I2.after hq'
      subst ev
      exact ⟨rv, ⟨V.ref (hp.objs.size + 1), H', I3, rfl, q3⟩⟩
    | next => exact False.elim hq'
    | brk => exact False.elim hq'
    | cont => exact False.elim hq'
end L2

set_option maxRecDepth 100000
set_option maxHeartbeats 4000000
namespace W1
open PySem PySem.Spec PyProof.Rows L2 RZ
theorem Le.ext {H H' : Hp} {a : Addr} {φ : Heap → Prop} (e : Le H H') (h : H a = some (.ext φ)) : H' a = some (.ext φ) := by
  rcases e a _ h with h1 | ⟨_, _, _, _, _, _, _, _, _, z, _⟩
  · exact h1
  · cases z
theorem Le.err {H H' : Hp} {a C : Addr} {fs : Option (List (Str × V))} (e : Le H H') (h : ErrAt H a C fs) : ErrAt H' a C fs := by
  cases fs with
  | none => exact e.ext h
  | some l =>
    obtain ⟨dx, h1, h2⟩ := h
    exact ⟨dx, e.ext h1, e.ext h2⟩
/-- an __init__ that keeps its argument -/
def spFld (K : PySem.W.Frag) (f : Str) : Sp := fun vs H Q _ => ∃ a C v, vs = [.ref a, v] ∧ H a = some (exo a C none) ∧ OexC K C ∧ PySem.W.findIn K (.ref C) f = some none ∧ ∀ dx, H dx = none → dx ≠ a → Q .non (upd (upd H dx (exd dx [(f, v)])) a (exo a C (some dx)))
inductive Errs (H : Hp) : List D → List Addr → Prop
  | nil : Errs H [] []
  | cons {a C : Addr} {fs : Option (List (Str × V))} {ds : List D} {Cl : List Addr} : ErrAt H a C fs → Errs H ds Cl → Errs H (.obj (.ref a) :: ds) (C :: Cl)
theorem Errs.le {H H' : Hp} (e : Le H H') : ∀ {ds : List D} {Cl : List Addr}, Errs H ds Cl → Errs H' ds Cl
  | _, _, .nil => .nil
  | _, _, .cons h r => .cons (e.err h) (Errs.le e r)
theorem Errs.app {H : Hp} : ∀ {ds es : List D} {Cl Dl : List Addr}, Errs H ds Cl → Errs H es Dl → Errs H (ds ++ es) (Cl ++ Dl)
  | _, _, _, _, .nil, s => s
  | _, _, _, _, .cons h r, s => .cons h (Errs.app r s)
theorem Errs.len {H : Hp} : ∀ {ds : List D} {Cl : List Addr}, Errs H ds Cl → ds.length = Cl.length
  | _, _, .nil => rfl
  | _, _, .cons _ r => by rw [List.length_cons, List.length_cons, Errs.len r]
theorem Errs.at {H : Hp} : ∀ {ds : List D} {Cl : List Addr} {i : Nat} {d : D}, Errs H ds Cl → ds[i]? = some d → ∃ a C fs, d = .obj (.ref a) ∧ Cl[i]? = some C ∧ ErrAt H a C fs
  | _, _, _, _, .nil, h => by simp at h
  | _, _, 0, _, .cons h _, e => by
    simp at e
    exact ⟨_, _, _, e.symm, rfl, h⟩
  | _, _, i + 1, d, .cons _ r, e => by
    obtain ⟨a, C, fs, h1, h2, h3⟩ := Errs.at (i := i) (d := d) r (by simpa using e)
    exact ⟨a, C, fs, h1, by simpa using h2, h3⟩
theorem Errs.nh {K : PySem.W.Frag} {H H' : Hp} {ds : List D} {Cl : List Addr} {xs : List V} (h : Errs H ds Cl) (r : Rps K H' xs ds) : NotH xs := notH_of fun v hv i e => by
  obtain ⟨d, h1, h2⟩ := r.at' hv
  obtain ⟨a, C, fs, rfl, _⟩ := h.at h1
  rw [rp_obj h2] at e
  cases e
section
variable {K : PySem.W.Frag} {σ : L2.St} {H : Hp} {ta tb te : TE} {C : Addr} {f : Str} {d0 : D} {Cl Dl : List Addr} {D1 : Ends} {tu tz : TS}
abbrev ErrP (C : Addr) : Pd := fun d H => ∃ a fs, d = .obj (.ref a) ∧ ErrAt H a C fs
/-- C() -/
theorem ep_mk0 : EP K (fun _ H Q => ∀ a, H a = none → Q (.ref a) (upd H a (exo a C none))) σ H (ErrP C) := fun H1 e Q q a na => q _ (.obj (.ref a)) _ (Le.new na) ⟨a, none, rfl, upd_same⟩ (.obj _)
abbrev tMkF (K : PySem.W.Frag) (C : Addr) (f : Str) (A : TA) : TE := fun σ H Q => A σ H fun vs H1 => vs.length ≤ 1000 ∧ ∀ a, H1 a = none → spFld K f (.ref a :: vs) (upd H1 a (exo a C none)) (fun v H2 => v = .non ∧ Q (.ref a) H2) (fun _ _ _ => False)
/-- C(e), and what it holds -/
theorem ep_mkF (T : OexC K C) (hno : PySem.W.findIn K (.ref C) f = some none) (h : ED K te σ H d0) : EP K (tMkF K C f (tCons te tNil)) σ H (fun d H => ∃ a v, d = .obj (.ref a) ∧ ErrAt H a C (some [(f, v)]) ∧ Rp K H v d0) := fun H1 e Q q => ea_cons h ea_nil H1 e _ fun vs es H2 e2 p r => by
  have p' : es = [d0] := p
  subst p'
  obtain ⟨v, rfl, r1⟩ := rps1 r
  refine ⟨by show 1 ≤ 1000; decide, fun a na => ⟨a, C, v, rfl, upd_same, T, hno, fun dx hdx hne => ⟨rfl, ?_⟩⟩⟩
  have hd : H2 dx = none := by
    rw [upd_ne hne] at hdx
    exact hdx
  have l2 : Le H2 (upd (upd (upd H2 a (exo a C none)) dx (exd dx [(f, v)])) a (exo a C (some dx))) := (((Le.refl H2).mut na).mut hd).mut na
  exact q _ (.obj (.ref a)) _ (e2.trans l2) ⟨a, v, rfl, ⟨dx, upd_same, by rw [upd_ne hne, upd_same]⟩, r1.le l2⟩ (.obj _)
theorem ep_mkE (T : OexC K C) (hno : PySem.W.findIn K (.ref C) f = some none) (h : ED K te σ H d0) : EP K (tMkF K C f (tCons te tNil)) σ H (ErrP C) := (ep_mkF T hno h).weak fun d H2 _ ⟨a, v, e1, e2, _⟩ => ⟨a, _, e1, e2⟩
/-- C(e).f -/
theorem ed_mkG (T : OexC K C) (X : XfC K C) (hno : PySem.W.findIn K (.ref C) f = some none) (h : ED K te σ H d0) : ED K (tXv K (tMkF K C f (tCons te tNil)) f) σ H d0 := by
  intro H1 e Q q
  unfold tXv
  refine ep_mkF T hno h H1 e _ fun v d H2 e2 p r => ?_
  obtain ⟨a, u, rfl, he, ru⟩ := p
  have ev := rp_obj r
  subst ev
  exact ⟨a, C, _, u, rfl, he, X, hno, by simp, q _ _ H2 e2 rfl ru⟩
/-- isinstance(e, c) -/
theorem ed_isX {c : V} {cv : Value} {b : Bool} {a : Addr} {fs : Option (List (Str × V))} (h : ED K te σ H (.obj (.ref a))) (he : ErrAt H a C fs) (T : ExcC K C) (hc : ∀ u, RelV c u → u = cv) (hk : PySem.W.kitOne K (.ref C) cv = some b) : ED K (tCB (rIsX K) (tCons te (tCons (tC c) tNil))) σ H (.bl b) := fun H1 e Q q => h H1 e _ fun v d H2 e2 p r => by
  have p' : d = .obj (.ref a) := p
  subst p'
  exact ⟨a, C, fs, c, cv, b, by rw [rp_obj r], (e.trans e2).err he, T, hc, hk, q _ _ H2 e2 rfl (.bl _)⟩
theorem ep_isX {c : V} {cv : Value} {b : Bool} (h : EP K te σ H (ErrP C)) (T : ExcC K C) (hc : ∀ u, RelV c u → u = cv) (hk : PySem.W.kitOne K (.ref C) cv = some b) : ED K (tCB (rIsX K) (tCons te (tCons (tC c) tNil))) σ H (.bl b) := fun H1 e Q q => h H1 e _ fun v d H2 e2 p r => by
  obtain ⟨a, fs, rfl, he⟩ := p
  exact ⟨a, C, fs, c, cv, b, by rw [rp_obj r], he, T, hc, hk, q _ _ H2 e2 rfl (.bl _)⟩
theorem ea_errs {A : TA} (h : EP K te σ H (ErrP C)) (hr : EA K A σ H (fun ds H => Errs H ds Cl)) : EA K (tCons te A) σ H (fun ds H => Errs H ds (C :: Cl)) := EA_weak (ep_cons h hr) fun ds H2 p => by
  obtain ⟨d, r, H1, rfl, e, ⟨a, fs, rfl, he⟩, hr⟩ := p
  exact .cons (e.err he) hr
theorem ea_errs0 : EA K tNil σ H (fun ds H => Errs H ds []) := EA_weak ea_nil fun ds H2 p => by
  have p' : ds = [] := p
  subst p'
  exact .nil
abbrev ErrsP (Cl : List Addr) : Pd := fun d H => ∃ ds, d = .lst ds ∧ Errs H ds Cl
theorem ep_errs {A : TA} (h : EA K A σ H (fun ds H => Errs H ds Cl)) (hl : Cl.length ≤ 100000) : EP K (tLst A) σ H (ErrsP Cl) := ep_lst h (fun ds H2 p => by rw [p.len]; exact hl) (fun ds H2 xs p r => p.nh r) fun ds H2 p H3 e => ⟨ds, rfl, p.le e⟩
theorem ep_errsCat (h : EP K ta σ H (ErrsP Cl)) (h2 : EP K tb σ H (ErrsP Dl)) (hl : Cl.length + Dl.length ≤ 100000) : EP K (tOp rCat ta tb) σ H (ErrsP (Cl ++ Dl)) :=
  ep_op h h2 fun x y d1 d2 H1 H2 _ e12 p1 p2 r1 r2 Q q => by
    obtain ⟨ds, rfl, q1⟩ := p1
    obtain ⟨es, rfl, q2⟩ := p2
    obtain ⟨a, xs, rfl, s, nh, rr⟩ := rp_lst r1
    obtain ⟨b, ys, rfl, s2, nh2, rr2⟩ := rp_lst r2
    refine ⟨a, b, xs, ys, rfl, rfl, s, s2, by rw [rr.len, rr2.len, q1.len, q2.len]; exact Evl.sz_of hl, fun p np => ?_⟩
    have E := ((q1.le e12).app q2).le (Le.new (o := .lst (xs ++ ys)) np)
    have rf := (rr.app rr2).le (Le.new (o := .lst (xs ++ ys)) np)
    exact q _ (.lst (ds ++ es)) _ (Le.new np) ⟨_, rfl, E⟩ (.lst upd_same (E.nh rf) rf)
/-- for i, x in enumerate(a list), where all that is tracked stays -/
theorem s_forEL {A : TA} {j l : Nat} {ds : List D} (h : EDA K A σ H [.lst ds])
    (k : ∀ H1, Le H H1 → ∃ Pv : Nat → L2.St → Hp → Prop, Pv 0 σ H1 ∧ (∀ i σ' H', i ≤ ds.length → Pv i σ' H' → Le H1 H') ∧
      (∀ (i : Nat) d v σ' H' H2, ds[i]? = some d → Pv i σ' H' → Le H' H2 → Rp K H2 v d → tu (bodyEnds D1 (Pv (i + 1))) ((σ'.set j (some (.int (i : Int)))).set l (some v)) H2) ∧ ∀ σ' H', Pv ds.length σ' H' → D1.nx σ' H') :
    tFor (iEnum K A) (gTup K 2 (gCons (gName j) (gCons (gName l) gNil))) tu D1 σ H := h H (Le.refl _) _ fun vs es H1 e p r => by
  have p' : es = [.lst ds] := p
  subst p'
  cases r with
  | cons r1 r =>
    cases r
    obtain ⟨a, xs, rfl, s, nh, rr⟩ := rp_lst r1
    obtain ⟨Pv, h0, hle, hs, hd⟩ := k H1 e
    refine ⟨a, xs, rfl, SqL.of s, for_it (walk_enum (xs := xs)) Pv h0 (fun i σ' H' hi q => SqL.of ((hle i σ' H' (by rw [← rr.len]; exact hi) q).lst s nh)) ?_ (fun σ' H' q => hd σ' H' (by rw [← rr.len]; exact q))⟩
    rintro i x σ' H' H2 hi q ⟨T, x1, x2, rfl, nT, rfl, f1, f2⟩
    have ex : x1 = .int (i : Nat) := (Option.some.inj f1).symm
    subst ex
    obtain ⟨d, h1, h2⟩ := rr.at' f2
    have e2 : Le H' (upd H' T (.tup [.int (i : Nat), x2])) := Le.new nT
    exact ⟨T, _, rfl, Evl.st_of upd_same, rfl, _, _, rfl, _, _, rfl, rfl, hs i d x2 σ' _ _ h1 q e2 ((h2.le (hle i σ' _ (by rw [← rr.len]; omega) q)).le e2)⟩
theorem q_forEL {A : TA} {j l : Nat} {ds : List D} (h : EDA K A σ H [.lst ds])
    (k : ∀ H1, Le H H1 → ∃ Pv : Nat → L2.St → Hp → Prop, Pv 0 σ H1 ∧ (∀ i σ' H', i ≤ ds.length → Pv i σ' H' → Le H1 H') ∧
      (∀ (i : Nat) d v σ' H' H2, ds[i]? = some d → Pv i σ' H' → Le H' H2 → Rp K H2 v d → tu (bodyEnds { D1 with nx := tz D1 } (Pv (i + 1))) ((σ'.set j (some (.int (i : Int)))).set l (some v)) H2) ∧ ∀ σ' H', Pv ds.length σ' H' → tz D1 σ' H') :
    tSeq (tFor (iEnum K A) (gTup K 2 (gCons (gName j) (gCons (gName l) gNil))) tu) tz D1 σ H := s_forEL (D1 := { D1 with nx := tz D1 }) h k
end
end W1

set_option maxRecDepth 100000
set_option maxHeartbeats 4000000
namespace W1
open PySem PySem.Spec PyProof.Rows L2 RZ
abbrev s_BadWeb___init__ : Stmt := inClass (topS 18) 0
abbrev N_BadWeb___init__ : List Str := ["self", "part"]
theorem sc_BadWeb___init__ : FnScope N_BadWeb___init__ ["self", "part"] (defScope s_BadWeb___init__) := ⟨rfl, rfl, rfl, by decide +kernel, rfl, by decide +kernel, by decide +kernel⟩
abbrev s_NoRow___init__ : Stmt := inClass (topS 19) 0
abbrev N_NoRow___init__ : List Str := ["self", "index"]
theorem sc_NoRow___init__ : FnScope N_NoRow___init__ ["self", "index"] (defScope s_NoRow___init__) := ⟨rfl, rfl, rfl, by decide +kernel, rfl, by decide +kernel, by decide +kernel⟩
abbrev s_TooMany___init__ : Stmt := inClass (topS 20) 0
abbrev N_TooMany___init__ : List Str := ["self", "most"]
theorem sc_TooMany___init__ : FnScope N_TooMany___init__ ["self", "most"] (defScope s_TooMany___init__) := ⟨rfl, rfl, rfl, by decide +kernel, rfl, by decide +kernel, by decide +kernel⟩
abbrev s_BadFoe___init__ : Stmt := inClass (topS 21) 0
abbrev N_BadFoe___init__ : List Str := ["self", "index"]
theorem sc_BadFoe___init__ : FnScope N_BadFoe___init__ ["self", "index"] (defScope s_BadFoe___init__) := ⟨rfl, rfl, rfl, by decide +kernel, rfl, by decide +kernel, by decide +kernel⟩
abbrev s_NotKept___init__ : Stmt := inClass (topS 22) 0
abbrev N_NotKept___init__ : List Str := ["self", "word"]
theorem sc_NotKept___init__ : FnScope N_NotKept___init__ ["self", "word"] (defScope s_NotKept___init__) := ⟨rfl, rfl, rfl, by decide +kernel, rfl, by decide +kernel, by decide +kernel⟩
abbrev s_BadProgram___init__ : Stmt := inClass (topS 23) 0
abbrev N_BadProgram___init__ : List Str := ["self", "place"]
theorem sc_BadProgram___init__ : FnScope N_BadProgram___init__ ["self", "place"] (defScope s_BadProgram___init__) := ⟨rfl, rfl, rfl, by decide +kernel, rfl, by decide +kernel, by decide +kernel⟩
abbrev s_BadText___init__ : Stmt := inClass (topS 24) 0
abbrev N_BadText___init__ : List Str := ["self", "line"]
theorem sc_BadText___init__ : FnScope N_BadText___init__ ["self", "line"] (defScope s_BadText___init__) := ⟨rfl, rfl, rfl, by decide +kernel, rfl, by decide +kernel, by decide +kernel⟩
abbrev s_NoWeaving___init__ : Stmt := inClass (topS 25) 0
abbrev N_NoWeaving___init__ : List Str := ["self", "place"]
theorem sc_NoWeaving___init__ : FnScope N_NoWeaving___init__ ["self", "place"] (defScope s_NoWeaving___init__) := ⟨rfl, rfl, rfl, by decide +kernel, rfl, by decide +kernel, by decide +kernel⟩
/-! ### count, of flags -/
theorem reads_bls {h : Heap} : ∀ {bs : List Bool} {us : List Value}, Vals (bs.map V.bl) us → ∃ as, ReadsAll h us (bs.map PyData.bool) as
  | [], _, r => by
    cases r
    exact ⟨_, .nil⟩
  | b :: bs, _, r => by
    cases r with
    | cons h1 r =>
      obtain ⟨as, q⟩ := reads_bls (h := h) r
      cases h1
      exact ⟨_, .cons (.bool b) q⟩
theorem plain_bls : ∀ bs : List Bool, PyData.plainAll (bs.map PyData.bool) = true
  | [] => rfl
  | b :: bs => by
    rw [List.map_cons]
    show (true && PyData.plainAll (bs.map PyData.bool)) = true
    rw [plain_bls bs]
    rfl
theorem count_bls (k : Bool) : ∀ bs : List Bool, (bs.map PyData.bool).countP (fun y => PyData.eqv y (.bool k)) = bs.count k
  | [] => rfl
  | b :: bs => by
    rw [List.map_cons, List.countP_cons, count_bls k bs, List.count_cons]
    cases b <;> cases k <;> rfl
def rCntB (K : PySem.W.Frag) : V → List V → Hp → VK → Prop := fun x xs H Q => ∃ (p : Addr) (bs : List Bool) (k : Bool), x = .ref p ∧ xs = [.bl k] ∧ SqL K H p (bs.map V.bl) ∧ Q (.int (bs.count k : Nat)) H
theorem mt_lcountB {X : Cx} (hu : X.A.units + 64 < cLine) : MtR X "list.count" (rCntB X.K) := by
  intro pins s σ H x xs v us Q I rx rxs h
  obtain ⟨p, bs, k, rfl, rfl, hs, q⟩ := h
  cases rx
  obtain ⟨u, rfl, ru⟩ := rxs.one
  cases ru
  obtain ⟨its, rv, pl, hlen⟩ := I.list hs
  obtain ⟨as, ra⟩ := reads_bls (h := s.heap) rv
  refine PySem.SeqAt.count_list_data (d := .bool k) pl.isList (by simpa using ra) (.bool k) (plain_bls bs) rfl (Nat.lt_of_le_of_lt ?_ hu) ?_
  · have : min (PyData.depthAll (bs.map PyData.bool)) (PyData.depth (.bool k)) ≤ 1 := Nat.le_trans (Nat.min_le_right _ _) (by cases k <;> decide)
    omega
  · rw [count_bls]
    exact ⟨.int (bs.count k : Nat), H, I.tok _, ⟨_, rfl⟩, q⟩
theorem kmt_lcountB {X : Cx} {K : PySem.W.Frag} (hu : X.A.units + 64 < cLine) (h : X.K = K := by rfl) : MtR X "list.count" (rCntB K) := h ▸ mt_lcountB hu
section
variable {P : Program} {w : World} {K : PySem.W.Frag} {mg : Str → Option Value} {base : Heap}
theorem ok_BadWeb {f : Addr} {fd : FuncData} (F : Fun K "__init__" "BadWeb.__init__" s_BadWeb___init__ f fd) : FnOk P w K mg base CX0 1 f fd ["self", "part"] (spFld K "part") := by
  refine F.ok sc_BadWeb___init__ (fun vs H Q E h => ?_) (fun cdv A outer s H vs Q E hr h => ?_)
  · obtain ⟨a, C, v, rfl, _⟩ := h
    rfl
  obtain ⟨a, C, v, rfl, ha, T, hno, k⟩ := h
  refine ⟨_, pss_one (ps_ost (pv 0) (pv 1)), ?_⟩
  exact ⟨_, rfl, _, rfl, a, C, rfl, T, hno, .inl ⟨ha, fun dx hdx hne => k dx hdx hne⟩⟩
theorem ok_NoRow {f : Addr} {fd : FuncData} (F : Fun K "__init__" "NoRow.__init__" s_NoRow___init__ f fd) : FnOk P w K mg base CX0 1 f fd ["self", "index"] (spFld K "index") := by
  refine F.ok sc_NoRow___init__ (fun vs H Q E h => ?_) (fun cdv A outer s H vs Q E hr h => ?_)
  · obtain ⟨a, C, v, rfl, _⟩ := h
    rfl
  obtain ⟨a, C, v, rfl, ha, T, hno, k⟩ := h
  refine ⟨_, pss_one (ps_ost (pv 0) (pv 1)), ?_⟩
  exact ⟨_, rfl, _, rfl, a, C, rfl, T, hno, .inl ⟨ha, fun dx hdx hne => k dx hdx hne⟩⟩
theorem ok_TooMany {f : Addr} {fd : FuncData} (F : Fun K "__init__" "TooMany.__init__" s_TooMany___init__ f fd) : FnOk P w K mg base CX0 1 f fd ["self", "most"] (spFld K "most") := by
  refine F.ok sc_TooMany___init__ (fun vs H Q E h => ?_) (fun cdv A outer s H vs Q E hr h => ?_)
  · obtain ⟨a, C, v, rfl, _⟩ := h
    rfl
  obtain ⟨a, C, v, rfl, ha, T, hno, k⟩ := h
  refine ⟨_, pss_one (ps_ost (pv 0) (pv 1)), ?_⟩
  exact ⟨_, rfl, _, rfl, a, C, rfl, T, hno, .inl ⟨ha, fun dx hdx hne => k dx hdx hne⟩⟩
theorem ok_BadFoe {f : Addr} {fd : FuncData} (F : Fun K "__init__" "BadFoe.__init__" s_BadFoe___init__ f fd) : FnOk P w K mg base CX0 1 f fd ["self", "index"] (spFld K "index") := by
  refine F.ok sc_BadFoe___init__ (fun vs H Q E h => ?_) (fun cdv A outer s H vs Q E hr h => ?_)
  · obtain ⟨a, C, v, rfl, _⟩ := h
    rfl
  obtain ⟨a, C, v, rfl, ha, T, hno, k⟩ := h
  refine ⟨_, pss_one (ps_ost (pv 0) (pv 1)), ?_⟩
  exact ⟨_, rfl, _, rfl, a, C, rfl, T, hno, .inl ⟨ha, fun dx hdx hne => k dx hdx hne⟩⟩
theorem ok_NotKept {f : Addr} {fd : FuncData} (F : Fun K "__init__" "NotKept.__init__" s_NotKept___init__ f fd) : FnOk P w K mg base CX0 1 f fd ["self", "word"] (spFld K "word") := by
  refine F.ok sc_NotKept___init__ (fun vs H Q E h => ?_) (fun cdv A outer s H vs Q E hr h => ?_)
  · obtain ⟨a, C, v, rfl, _⟩ := h
    rfl
  obtain ⟨a, C, v, rfl, ha, T, hno, k⟩ := h
  refine ⟨_, pss_one (ps_ost (pv 0) (pv 1)), ?_⟩
  exact ⟨_, rfl, _, rfl, a, C, rfl, T, hno, .inl ⟨ha, fun dx hdx hne => k dx hdx hne⟩⟩
theorem ok_BadProgram {f : Addr} {fd : FuncData} (F : Fun K "__init__" "BadProgram.__init__" s_BadProgram___init__ f fd) : FnOk P w K mg base CX0 1 f fd ["self", "place"] (spFld K "place") := by
  refine F.ok sc_BadProgram___init__ (fun vs H Q E h => ?_) (fun cdv A outer s H vs Q E hr h => ?_)
  · obtain ⟨a, C, v, rfl, _⟩ := h
    rfl
  obtain ⟨a, C, v, rfl, ha, T, hno, k⟩ := h
  refine ⟨_, pss_one (ps_ost (pv 0) (pv 1)), ?_⟩
  exact ⟨_, rfl, _, rfl, a, C, rfl, T, hno, .inl ⟨ha, fun dx hdx hne => k dx hdx hne⟩⟩
theorem ok_BadText {f : Addr} {fd : FuncData} (F : Fun K "__init__" "BadText.__init__" s_BadText___init__ f fd) : FnOk P w K mg base CX0 1 f fd ["self", "line"] (spFld K "line") := by
  refine F.ok sc_BadText___init__ (fun vs H Q E h => ?_) (fun cdv A outer s H vs Q E hr h => ?_)
  · obtain ⟨a, C, v, rfl, _⟩ := h
    rfl
  obtain ⟨a, C, v, rfl, ha, T, hno, k⟩ := h
  refine ⟨_, pss_one (ps_ost (pv 0) (pv 1)), ?_⟩
  exact ⟨_, rfl, _, rfl, a, C, rfl, T, hno, .inl ⟨ha, fun dx hdx hne => k dx hdx hne⟩⟩
theorem ok_NoWeaving {f : Addr} {fd : FuncData} (F : Fun K "__init__" "NoWeaving.__init__" s_NoWeaving___init__ f fd) : FnOk P w K mg base CX0 1 f fd ["self", "place"] (spFld K "place") := by
  refine F.ok sc_NoWeaving___init__ (fun vs H Q E h => ?_) (fun cdv A outer s H vs Q E hr h => ?_)
  · obtain ⟨a, C, v, rfl, _⟩ := h
    rfl
  obtain ⟨a, C, v, rfl, ha, T, hno, k⟩ := h
  refine ⟨_, pss_one (ps_ost (pv 0) (pv 1)), ?_⟩
  exact ⟨_, rfl, _, rfl, a, C, rfl, T, hno, .inl ⟨ha, fun dx hdx hne => k dx hdx hne⟩⟩
end
end W1

set_option maxRecDepth 100000
set_option maxHeartbeats 4000000
namespace W1
open PySem PySem.Spec PyProof.Rows L2 RZ
abbrev s_law : Stmt := topS 32
abbrev N_law : List Str := ["_law_script", "_law_hand_here", "_law_things", "_law_thing", "_law_fields", "_law_made", "_law_at", "_law_one", "_law_flags", "_law_field"]
theorem sc_law : FnScope N_law ["_law_script"] (defScope s_law) := ⟨rfl, rfl, rfl, by decide +kernel, rfl, by decide +kernel, by decide +kernel⟩
structure FC (P : Program) (w : World) (K : PySem.W.Frag) (mg : Str → Option Value) (base : Heap) (x f : Str) (C : Addr) : Prop where
  mgC : mg x = some (.ref C)
  ox : OexC K C
  xf : XfC K C
  no : PySem.W.findIn K (.ref C) f = some none
  ex : ∃ fi fd, PySem.W.findIn K (.ref C) "__init__" = some (some (.ref fi)) ∧ PySem.W.typeIn K (.ref fi) = some (.type "function") ∧ FnOk P w K mg base CX0 1 fi fd ["self", f] (spFld K f) ∧ Binds K fd ["self", f] []
structure NC (P : Program) (w : World) (K : PySem.W.Frag) (mg : Str → Option Value) (base : Heap) (x : Str) (C D : Addr) : Prop where
  mgC : mg x = some (.ref C)
  sc : SupC K D C
  ec : ExcC K C
  ve : PySem.W.kitOne K (.ref C) (.type "ValueError") = some true
  ex : ∃ fi fd, PySem.W.findIn K (.ref C) "__init__" = some (some (.ref fi)) ∧ PySem.W.typeIn K (.ref fi) = some (.type "function") ∧ FnOk P w K mg base CX0 1 fi fd ["self"] (spSup K D) ∧ Binds K fd ["self"] []
section
variable {X : Cx} {x f : Str} {C D : Addr} {p pos : Pos} {e : Expr} {te : TE}
theorem pe_fc (c : FC X.prog X.w X.K X.mg X.base x f C) (hr : Room 2 X.A) (hg : Gl X x) (ha : PE X e te) (hdb : (x == ("__debug__" : Str)) = false := by decide) (he : starEach [e] X.env = (false, eval e X.env) :: starEach [] X.env := by rfl) :
    PE X (.Call (.Name x p) [e] [] pos) (tMkF X.K C f (tCons te tNil)) := by
  obtain ⟨fi, fd, h1, h2, F, b⟩ := c.ex
  exact pe_ovx c.ox h1 h2 F hr b pass0 hg c.mgC (pa_cons ha pa_nil (hs := he)) hdb he (by rfl)
theorem pe_nc (c : NC X.prog X.w X.K X.mg X.base x C D) (hr : Room 2 X.A) (hg : Gl X x) (hdb : (x == ("__debug__" : Str)) = false := by decide) : PE X (.Call (.Name x p) [] [] pos) (fun σ H Q => ∀ a, H a = none → Q (.ref a) (upd H a (exo a C none))) := by
  obtain ⟨fi, fd, h1, h2, F, b⟩ := c.ex
  exact pe_sup0 c.sc h1 h2 F hr b hg c.mgC hdb
theorem pe_gx (hm : X.mg x = some (.ref C)) (hg : Gl X x) (hdb : (x == ("__debug__" : Str)) = false := by decide) : PE X (.Name x pos) (tC (.ref C)) := pe_gl ⟨_, hm, rfl⟩ hg hdb
end
structure LTxt (mg : Str → Option Value) : Prop extends STxt mg where
  n_ValueError : mg "ValueError" = none
structure LF (K : PySem.W.Frag) (D : Addr) (Cs : List Addr) : Prop where
  ec : ∀ (i : Nat) C, Cs[i]? = some C → ExcC K C
  mat : ∀ (i : Nat) C, Cs[i]? = some C → ∀ (j : Nat) E, Cs[j]? = some E → PySem.W.kitOne K (.ref C) (.ref E) = some (decide (i = j))
  te : ∀ (i : Nat) C, Cs[i]? = some C → PySem.W.kitOne K (.ref C) (.ref D) = some true
  ve : ∀ (i : Nat) C, Cs[i]? = some C → PySem.W.kitOne K (.ref C) (.type "ValueError") = some true
def Thing (d : D) (H : Hp) : Prop := Dp 38 d ∨ ∃ p : Addr, d = .obj (.ref p) ∧ H p = some (.dK [])
theorem Thing.le {d : D} {H H' : Hp} (e : Le H H') (g : Thing d H) : Thing d H' := g.elim .inl fun ⟨p, h1, h2⟩ => .inr ⟨p, h1, e.dK h2⟩
theorem good5 {K : PySem.W.Frag} {H : Hp} {d : D} {xs : List V} (r : Rps K H xs [d, d, d, d, d]) : NotH xs := fun c p x s n e => by
  subst e
  cases r with
  | cons a r =>
    cases r with
    | cons b r =>
      cases b with
      | int i => cases a
      | obj v => cases a
theorem ep_dict {K : PySem.W.Frag} {σ : L2.St} {H : Hp} : EP K tDNewK σ H (fun d H => ∃ p : Addr, d = .obj (.ref p) ∧ H p = some (.dK [])) := fun H1 e Q q d nd => q _ (.obj (.ref d)) _ (Le.new nd) ⟨d, rfl, upd_same⟩ (.obj _)
theorem ed_catN {K : PySem.W.Frag} {σ : L2.St} {H : Hp} {ta tb : TE} {ds es : List D} (ha : ED K ta σ H (.lst ds)) (hb : ED K tb σ H (.lst es)) (hz : ds.length + es.length ≤ 100000) (h5 : ds.length + es.length ≠ 5) : ED K (tOp rCat ta tb) σ H (.lst (ds ++ es)) :=
  ed_op ha hb fun x y H2 _ r1 r2 Q q => by
    obtain ⟨a, xs, rfl, s, nh, rr⟩ := rp_lst r1
    obtain ⟨b, ys, rfl, s2, nh2, rr2⟩ := rp_lst r2
    refine ⟨a, b, xs, ys, rfl, rfl, s, s2, by rw [rr.len, rr2.len]; exact Evl.sz_of hz, fun p np => ?_⟩
    exact q _ _ _ (Le.new np) rfl (.lst upd_same (notH_len (by rw [List.length_append, rr.len, rr2.len]; exact h5)) ((rr.app rr2).le (Le.new np)))
theorem ed_lstN {K : PySem.W.Frag} {σ : L2.St} {H : Hp} {A : TA} {ds : List D} (h : EDA K A σ H ds) (hz : ds.length ≤ 100000) (hn : ∀ H2 xs, Rps K H2 xs ds → NotH xs) : ED K (tLst A) σ H (.lst ds) :=
  ep_lst h (fun es H2 p => by rw [p]; exact hz) (fun es H2 xs p r => hn H2 xs (by rw [← p]; exact r)) fun es H2 p H3 e => by rw [p]
theorem ed_count {K : PySem.W.Frag} {σ : L2.St} {H : Hp} {ta : TE} {bs : List Bool} (h : ED K ta σ H (.lst (bs.map .bl))) : ED K (tBM K "list" (rCntB K) ta (tCons (tC (.bl true)) tNil)) σ H (.int (bs.count true : Nat)) := fun H1 e Q q => h H1 e _ fun v d H2 e2 p r => by
  have p' : d = .lst (bs.map .bl) := p
  subst p'
  obtain ⟨a, xs, rfl, s, nh, rr⟩ := rp_lst r
  have ex := bls_rps rr
  subst ex
  exact ⟨.inl ⟨rfl, _, SqL.of s⟩, a, bs, true, rfl, rfl, SqL.of s, q _ _ H2 e2 rfl (.int _)⟩
theorem cnt24 : ∀ i : _root_.Fin 24, ((List.range 24).map fun j => decide (i.val = j)).count true = 1 := by decide +kernel
def spLaw (K : PySem.W.Frag) : Sp := fun vs H Q _ => ∃ (a : Addr) (ns : List Int), vs = [.ref a] ∧ SqL K H a (ns.map V.int) ∧ ns.length ≤ 63 ∧ ∀ H', Q (.bl true) H'
theorem sqL_le {K : PySem.W.Frag} {H H' : Hp} {a : Addr} {ns : List Int} (e : Le H H') (h : SqL K H a (ns.map V.int)) : SqL K H' a (ns.map V.int) := by
  rcases h with (h | ⟨o, h⟩) | h
  · exact .inl (.inl (e.lst h (notH_ints _)))
  · exact .inl (.inr ⟨o, e.frz h⟩)
  · exact .inr h
section
variable {P : Program} {w : World} {K : PySem.W.Frag} {mg : Str → Option Value} {base : Heap} {C_BadWeb : Addr} {C_NoRow : Addr} {C_TooMany : Addr} {C_BadFoe : Addr} {C_NotKept : Addr} {C_BadProgram : Addr} {C_BadText : Addr} {C_NoRoom : Addr} {C_NoNumber : Addr} {C_NoTags : Addr} {C_NoDeed : Addr} {C_TooFew : Addr} {C_NotFew : Addr} {C_NoSlip : Addr} {C_NotRight : Addr} {C_NotFree : Addr} {C_Full : Addr} {C_NoGiving : Addr} {C_NoNear : Addr} {C_NoPast : Addr} {C_NoText : Addr} {C_NoWeaving : Addr} {C_NoHands : Addr} {C_NoWay : Addr} {C_TagError : Addr}
theorem ok_law {f : Addr} {fd : FuncData} (T : LTxt mg) (F : Fun K "law" "law" s_law f fd) (G_law_hand : Def P w K mg base 1 "_law_hand" ["_law_script"] (spD K (R_hand K))) (G_law_any : Def P w K mg base 2 "_law_any" ["_law_hand_here", "_law_items"] (spD K R_any))
    (G_law_nested : Def P w K mg base 3 "_law_nested" ["_law_hand_here"] (spD K R_nested)) (G_law_is : Def P w K mg base 40 "_law_is" ["_law_told", "_law_due"] (spD K (R_is 39)))
    (c_BadWeb : FC P w K mg base "BadWeb" "part" C_BadWeb)
    (c_NoRow : FC P w K mg base "NoRow" "index" C_NoRow)
    (c_TooMany : FC P w K mg base "TooMany" "most" C_TooMany)
    (c_BadFoe : FC P w K mg base "BadFoe" "index" C_BadFoe)
    (c_NotKept : FC P w K mg base "NotKept" "word" C_NotKept)
    (c_BadProgram : FC P w K mg base "BadProgram" "place" C_BadProgram)
    (c_BadText : FC P w K mg base "BadText" "line" C_BadText)
    (c_NoRoom : NC P w K mg base "NoRoom" C_NoRoom C_TagError)
    (c_NoNumber : NC P w K mg base "NoNumber" C_NoNumber C_TagError)
    (c_NoTags : NC P w K mg base "NoTags" C_NoTags C_TagError)
    (c_NoDeed : NC P w K mg base "NoDeed" C_NoDeed C_TagError)
    (c_TooFew : NC P w K mg base "TooFew" C_TooFew C_TagError)
    (c_NotFew : NC P w K mg base "NotFew" C_NotFew C_TagError)
    (c_NoSlip : NC P w K mg base "NoSlip" C_NoSlip C_TagError)
    (c_NotRight : NC P w K mg base "NotRight" C_NotRight C_TagError)
    (c_NotFree : NC P w K mg base "NotFree" C_NotFree C_TagError)
    (c_Full : NC P w K mg base "Full" C_Full C_TagError)
    (c_NoGiving : NC P w K mg base "NoGiving" C_NoGiving C_TagError)
    (c_NoNear : NC P w K mg base "NoNear" C_NoNear C_TagError)
    (c_NoPast : NC P w K mg base "NoPast" C_NoPast C_TagError)
    (c_NoText : NC P w K mg base "NoText" C_NoText C_TagError)
    (c_NoWeaving : FC P w K mg base "NoWeaving" "place" C_NoWeaving)
    (c_NoHands : NC P w K mg base "NoHands" C_NoHands C_TagError)
    (c_NoWay : NC P w K mg base "NoWay" C_NoWay C_TagError)
    (c_TagError : NC P w K mg base "TagError" C_TagError C_TagError)
    (L : LF K C_TagError [C_BadWeb, C_NoRow, C_TooMany, C_BadFoe, C_NotKept, C_BadProgram, C_BadText, C_NoRoom, C_NoNumber, C_NoTags, C_NoDeed, C_TooFew, C_NotFew, C_NoSlip, C_NotRight, C_NotFree, C_Full, C_NoGiving, C_NoNear, C_NoPast, C_NoText, C_NoWeaving, C_NoHands, C_NoWay]) : FnOk P w K mg base CX0 46 f fd ["_law_script"] (spLaw K) := by
  refine F.ok sc_law (fun vs H Q E h => ?_) (fun cdv A outer s H vs Q E hr h => ?_)
  · obtain ⟨a, ns, rfl, _⟩ := h
    rfl
  obtain ⟨a, ns, rfl, hS, hl, q⟩ := h
  refine ⟨_, (pss_cons (ps_set (i := 1) sc_law.nd rfl (Or.inl rfl) (pe_def G_law_hand (hr.mono (by decide)) (pa_cons (pv 0) pa_nil)))
    (pss_cons (ps_set (i := 2) sc_law.nd rfl (Or.inl rfl) (pe_lst (pa_cons pe_non (pa_cons pe_int (pa_cons pe_int (pa_cons pe_str (pa_cons (pe_tup (pa_cons pe_int (pa_cons pe_int pa_nil))) (pa_cons (pe_lst (pa_cons pe_int pa_nil)) (pa_cons pe_dnewK (pa_cons (pe_op op_pow pe_int pe_int) (pa_cons pe_bl (pa_cons (pe_def G_law_nested (hr.mono (by decide)) (pa_cons (pv 1) pa_nil)) pa_nil))))))))))))
    (pss_cons (ps_set (i := 3) sc_law.nd rfl (Or.inr rfl) (pe_def G_law_any (hr.mono (by decide)) (pa_cons (pv 1) (pa_cons (pv 2) pa_nil))))
    (pss_cons (ps_set (i := 4) sc_law.nd rfl (Or.inl rfl) (pe_lst (pa_cons (pe_xv (pe_fc c_BadWeb (hr.mono (by decide)) (by rfl) (pv 3)) rfl) (pa_cons (pe_xv (pe_fc c_NoRow (hr.mono (by decide)) (by rfl) (pv 3)) rfl) (pa_cons (pe_xv (pe_fc c_TooMany (hr.mono (by decide)) (by rfl) (pv 3)) rfl) (pa_cons (pe_xv (pe_fc c_BadFoe (hr.mono (by decide)) (by rfl) (pv 3)) rfl) (pa_cons (pe_xv (pe_fc c_NotKept (hr.mono (by decide)) (by rfl) (pv 3)) rfl) pa_nil)))))))
    (pss_cons (ps_set (i := 4) sc_law.nd rfl (Or.inl rfl) (pe_op op_cat (pv 4) (pe_lst (pa_cons (pe_xv (pe_fc c_BadProgram (hr.mono (by decide)) (by rfl) (pv 3)) rfl) (pa_cons (pe_xv (pe_fc c_BadText (hr.mono (by decide)) (by rfl) (pv 3)) rfl) (pa_cons (pe_xv (pe_fc c_NoWeaving (hr.mono (by decide)) (by rfl) (pv 3)) rfl) pa_nil))))))
    (pss_cons (ps_if (pt_not (pt_val (pe_callB (kc_all (K := K) rfl) (by rfl) T.n_all boot_all (pa_cons (pe_lc (own := [("_law_field", 9)]) rfl sc_law.nd (kpi_list (K := K) (pv 4)) (blkOk_by (N := N_law) (sc := defScope s_law) (by decide +kernel)) (fun _ _ _ _ _ => (pg_name (i := 9) sc_law.nd rfl (Or.inl rfl))) (fun _ _ _ _ _ => pts_nil) (fun _ _ _ _ _ => (pe_def G_law_is (hr.mono (by decide)) (pa_cons (pv 9) (pa_cons (pv 3) pa_nil))))) pa_nil))))
      (pss_one (ps_ret pe_bl))
      pss_nil)
    (pss_cons (ps_set (i := 5) sc_law.nd rfl (Or.inl rfl) (pe_lst (pa_cons (pe_fc c_BadWeb (hr.mono (by decide)) (by rfl) pe_int) (pa_cons (pe_fc c_NoRow (hr.mono (by decide)) (by rfl) pe_int) (pa_cons (pe_fc c_TooMany (hr.mono (by decide)) (by rfl) pe_int) (pa_cons (pe_fc c_BadFoe (hr.mono (by decide)) (by rfl) pe_int) (pa_cons (pe_fc c_NotKept (hr.mono (by decide)) (by rfl) pe_int) (pa_cons (pe_fc c_BadProgram (hr.mono (by decide)) (by rfl) pe_int) (pa_cons (pe_fc c_BadText (hr.mono (by decide)) (by rfl) pe_int) (pa_cons (pe_nc c_NoRoom (hr.mono (by decide)) (by rfl)) (pa_cons (pe_nc c_NoNumber (hr.mono (by decide)) (by rfl)) pa_nil)))))))))))
    (pss_cons (ps_set (i := 5) sc_law.nd rfl (Or.inl rfl) (pe_op op_cat (pv 5) (pe_lst (pa_cons (pe_nc c_NoTags (hr.mono (by decide)) (by rfl)) (pa_cons (pe_nc c_NoDeed (hr.mono (by decide)) (by rfl)) (pa_cons (pe_nc c_TooFew (hr.mono (by decide)) (by rfl)) (pa_cons (pe_nc c_NotFew (hr.mono (by decide)) (by rfl)) (pa_cons (pe_nc c_NoSlip (hr.mono (by decide)) (by rfl)) (pa_cons (pe_nc c_NotRight (hr.mono (by decide)) (by rfl)) (pa_cons (pe_nc c_NotFree (hr.mono (by decide)) (by rfl)) (pa_cons (pe_nc c_Full (hr.mono (by decide)) (by rfl)) (pa_cons (pe_nc c_NoGiving (hr.mono (by decide)) (by rfl)) pa_nil))))))))))))
    (pss_cons (ps_set (i := 5) sc_law.nd rfl (Or.inl rfl) (pe_op op_cat (pv 5) (pe_lst (pa_cons (pe_nc c_NoNear (hr.mono (by decide)) (by rfl)) (pa_cons (pe_nc c_NoPast (hr.mono (by decide)) (by rfl)) (pa_cons (pe_nc c_NoText (hr.mono (by decide)) (by rfl)) (pa_cons (pe_fc c_NoWeaving (hr.mono (by decide)) (by rfl) pe_int) (pa_cons (pe_nc c_NoHands (hr.mono (by decide)) (by rfl)) (pa_cons (pe_nc c_NoWay (hr.mono (by decide)) (by rfl)) pa_nil)))))))))
    (pss_cons (ps_for PassesOwn.never rfl (pi_enum (by rfl) T.n_enumerate (pa_cons (pv 5) pa_nil)) (kpg_tup (K := K) (n := 2) rfl (pgs_cons (pg_name (i := 6) sc_law.nd rfl (Or.inl rfl)) (pgs_cons (pg_name (i := 7) sc_law.nd rfl (Or.inl rfl)) pgs_nil)))
      (pss_cons (ps_set (i := 8) sc_law.nd rfl (Or.inl rfl) (pe_lst (pa_cons (pe_callB call_isX (by rfl) T.n_isinstance boot_isinstance (pa_cons (pv 7) (pa_cons (pe_gx c_BadWeb.mgC (by rfl)) pa_nil))) (pa_cons (pe_callB call_isX (by rfl) T.n_isinstance boot_isinstance (pa_cons (pv 7) (pa_cons (pe_gx c_NoRow.mgC (by rfl)) pa_nil))) (pa_cons (pe_callB call_isX (by rfl) T.n_isinstance boot_isinstance (pa_cons (pv 7) (pa_cons (pe_gx c_TooMany.mgC (by rfl)) pa_nil))) (pa_cons (pe_callB call_isX (by rfl) T.n_isinstance boot_isinstance (pa_cons (pv 7) (pa_cons (pe_gx c_BadFoe.mgC (by rfl)) pa_nil))) pa_nil))))))
    (pss_cons (ps_set (i := 8) sc_law.nd rfl (Or.inl rfl) (pe_op op_cat (pv 8) (pe_lst (pa_cons (pe_callB call_isX (by rfl) T.n_isinstance boot_isinstance (pa_cons (pv 7) (pa_cons (pe_gx c_NotKept.mgC (by rfl)) pa_nil))) (pa_cons (pe_callB call_isX (by rfl) T.n_isinstance boot_isinstance (pa_cons (pv 7) (pa_cons (pe_gx c_BadProgram.mgC (by rfl)) pa_nil))) (pa_cons (pe_callB call_isX (by rfl) T.n_isinstance boot_isinstance (pa_cons (pv 7) (pa_cons (pe_gx c_BadText.mgC (by rfl)) pa_nil))) pa_nil))))))
    (pss_cons (ps_set (i := 8) sc_law.nd rfl (Or.inl rfl) (pe_op op_cat (pv 8) (pe_lst (pa_cons (pe_callB call_isX (by rfl) T.n_isinstance boot_isinstance (pa_cons (pv 7) (pa_cons (pe_gx c_NoRoom.mgC (by rfl)) pa_nil))) (pa_cons (pe_callB call_isX (by rfl) T.n_isinstance boot_isinstance (pa_cons (pv 7) (pa_cons (pe_gx c_NoNumber.mgC (by rfl)) pa_nil))) (pa_cons (pe_callB call_isX (by rfl) T.n_isinstance boot_isinstance (pa_cons (pv 7) (pa_cons (pe_gx c_NoTags.mgC (by rfl)) pa_nil))) pa_nil))))))
    (pss_cons (ps_set (i := 8) sc_law.nd rfl (Or.inl rfl) (pe_op op_cat (pv 8) (pe_lst (pa_cons (pe_callB call_isX (by rfl) T.n_isinstance boot_isinstance (pa_cons (pv 7) (pa_cons (pe_gx c_NoDeed.mgC (by rfl)) pa_nil))) (pa_cons (pe_callB call_isX (by rfl) T.n_isinstance boot_isinstance (pa_cons (pv 7) (pa_cons (pe_gx c_TooFew.mgC (by rfl)) pa_nil))) (pa_cons (pe_callB call_isX (by rfl) T.n_isinstance boot_isinstance (pa_cons (pv 7) (pa_cons (pe_gx c_NotFew.mgC (by rfl)) pa_nil))) pa_nil))))))
    (pss_cons (ps_set (i := 8) sc_law.nd rfl (Or.inl rfl) (pe_op op_cat (pv 8) (pe_lst (pa_cons (pe_callB call_isX (by rfl) T.n_isinstance boot_isinstance (pa_cons (pv 7) (pa_cons (pe_gx c_NoSlip.mgC (by rfl)) pa_nil))) (pa_cons (pe_callB call_isX (by rfl) T.n_isinstance boot_isinstance (pa_cons (pv 7) (pa_cons (pe_gx c_NotRight.mgC (by rfl)) pa_nil))) (pa_cons (pe_callB call_isX (by rfl) T.n_isinstance boot_isinstance (pa_cons (pv 7) (pa_cons (pe_gx c_NotFree.mgC (by rfl)) pa_nil))) pa_nil))))))
    (pss_cons (ps_set (i := 8) sc_law.nd rfl (Or.inl rfl) (pe_op op_cat (pv 8) (pe_lst (pa_cons (pe_callB call_isX (by rfl) T.n_isinstance boot_isinstance (pa_cons (pv 7) (pa_cons (pe_gx c_Full.mgC (by rfl)) pa_nil))) (pa_cons (pe_callB call_isX (by rfl) T.n_isinstance boot_isinstance (pa_cons (pv 7) (pa_cons (pe_gx c_NoGiving.mgC (by rfl)) pa_nil))) (pa_cons (pe_callB call_isX (by rfl) T.n_isinstance boot_isinstance (pa_cons (pv 7) (pa_cons (pe_gx c_NoNear.mgC (by rfl)) pa_nil))) pa_nil))))))
    (pss_cons (ps_set (i := 8) sc_law.nd rfl (Or.inl rfl) (pe_op op_cat (pv 8) (pe_lst (pa_cons (pe_callB call_isX (by rfl) T.n_isinstance boot_isinstance (pa_cons (pv 7) (pa_cons (pe_gx c_NoPast.mgC (by rfl)) pa_nil))) (pa_cons (pe_callB call_isX (by rfl) T.n_isinstance boot_isinstance (pa_cons (pv 7) (pa_cons (pe_gx c_NoText.mgC (by rfl)) pa_nil))) (pa_cons (pe_callB call_isX (by rfl) T.n_isinstance boot_isinstance (pa_cons (pv 7) (pa_cons (pe_gx c_NoWeaving.mgC (by rfl)) pa_nil))) pa_nil))))))
    (pss_cons (ps_set (i := 8) sc_law.nd rfl (Or.inl rfl) (pe_op op_cat (pv 8) (pe_lst (pa_cons (pe_callB call_isX (by rfl) T.n_isinstance boot_isinstance (pa_cons (pv 7) (pa_cons (pe_gx c_NoHands.mgC (by rfl)) pa_nil))) (pa_cons (pe_callB call_isX (by rfl) T.n_isinstance boot_isinstance (pa_cons (pv 7) (pa_cons (pe_gx c_NoWay.mgC (by rfl)) pa_nil))) pa_nil)))))
    (pss_one (ps_if (PW.pt (pw_or (pt_cmpR op_ne (pe_bm PySem.F.plainAttrs_list PySem.F.slot_list_count PySem.F.type_list_count (kmt_lcountB (K := K) hr.units) (pv 8) (pa_cons pe_bl pa_nil)) pe_int (nomark _)) (pw_or (pt_not (pt_val (pe_ix (kix_list (K := K)) (pv 8) (pv 6) (fun _ _ => rfl)))) (pw_or (pt_not (pt_val (pe_callB call_isX (by rfl) T.n_isinstance boot_isinstance (pa_cons (pv 7) (pa_cons (pe_gx c_TagError.mgC (by rfl)) pa_nil))))) (pw_or1 (pt_not (pt_val (pe_callB call_isX (by rfl) T.n_isinstance boot_isinstance (pa_cons (pv 7) (pa_cons (pe_bltn (v := V.ty "ValueError") (by rfl) T.n_ValueError boot_ValueError rfl) pa_nil))))))))))
      (pss_one (ps_ret pe_bl))
      pss_nil)))))))))))
    (pss_one (ps_ret (pe_callB call_isX (by rfl) T.n_isinstance boot_isinstance (pa_cons (pe_nc c_TagError (hr.mono (by decide)) (by rfl)) (pa_cons (pe_bltn (v := V.ty "ValueError") (by rfl) T.n_ValueError boot_ValueError rfl) pa_nil))))))))))))))), ?_⟩
  -- hand
  refine q_asg (K := K) (P := fun d H2 => ∃ h, d = .obj (.ref h) ∧ Hand H2 h) (ed_call (ea_cons (ed_var rfl (.obj (.ref a))) ea_nil) fun H1 e1 => ⟨a, ns, rfl, sqL_le e1 hS, hl, rfl⟩) fun v1 d H1 e1 p1 r1 => ?_
  obtain ⟨h, rfl, hh⟩ := p1
  have ev := rp_obj r1
  subst ev
  -- things
  refine q_asg (K := K) (P := fun d H => ∃ ds, d = .lst ds ∧ ds.length = 10 ∧ ∀ x ∈ ds, Thing x H) ?_ fun v2 d H2 e2 p2 r2 => ?_
  · refine ep_lst (PA := fun ds H => ds.length = 10 ∧ ∀ x ∈ ds, Thing x H) ?_ (fun ds H2 p => by rw [p.1]; decide) (fun ds H2 xs p r => notH_len (by rw [r.len, p.1]; decide)) fun ds H2 p H3 e => ⟨ds, rfl, p.1, fun x hx => (p.2 x hx).le e⟩
    refine EA_weak (ep_cons ed_non (ep_cons ed_int (ep_cons ed_int (ep_cons ed_str (ep_cons (ed_tup (ea_cons ed_int (ea_cons ed_int ea_nil)) (by show 2 ≤ 100000; decide)) (ep_cons (ed_lst (ea_cons ed_int ea_nil) (by show 1 ≤ 100000; decide) rfl) (ep_cons ep_dict (ep_cons (ed_I (f := fun i j => i ^ j.toNat) ed_int ed_int ⟨by decide, by decide, by decide⟩) (ep_cons ed_bl (ep_cons (ed_call (P := fun d _ => Dp 38 d) (ea_cons (ed_var rfl (.obj (.ref h))) ea_nil) fun H3 e3 => ⟨h, rfl, hh.le e3, rfl⟩) ea_nil)))))))))) ?_
    rintro ds H3 ⟨d1, t1, G1, rfl, f1, h1, d2, t2, G2, rfl, f2, h2, d3, t3, G3, rfl, f3, h3, d4, t4, G4, rfl, f4, h4, d5, t5, G5, rfl, f5, h5, d6, t6, G6, rfl, f6, h6, d7, t7, G7, rfl, f7, h7, d8, t8, G8, rfl, f8, h8, d9, t9, G9, rfl, f9, h9, d10, t10, G10, rfl, f10, h10, rfl⟩
    refine ⟨rfl, fun x hx => ?_⟩
    simp only [List.mem_cons, List.not_mem_nil, or_false] at hx
    rcases hx with hx | hx | hx | hx | hx | hx | hx | hx | hx | hx
    · exact .inl (by rw [hx, show d1 = D.non from h1]; trivial)
    · exact .inl (by rw [hx, show d2 = D.int _ from h2]; trivial)
    · exact .inl (by rw [hx, show d3 = D.int _ from h3]; trivial)
    · exact .inl (by rw [hx, show d4 = D.str _ from h4]; trivial)
    · exact .inl (by rw [hx, show d5 = D.tup _ from h5]; exact ⟨by show 2 ≤ 50000; decide, fun y hy => by simp only [List.mem_cons, List.not_mem_nil, or_false] at hy; rcases hy with rfl | rfl <;> trivial⟩)
    · exact .inl (by rw [hx, show d6 = D.lst _ from h6]; exact ⟨by show 1 ≤ 50000; decide, fun y hy => by simp only [List.mem_cons, List.not_mem_nil, or_false] at hy; rw [hy]; trivial⟩)
    · obtain ⟨p, h71, h72⟩ := h7
      exact .inr ⟨p, by rw [hx, h71], f7.dK h72⟩
    · exact .inl (by rw [hx, show d8 = D.int _ from h8]; trivial)
    · exact .inl (by rw [hx, show d9 = D.bl _ from h9]; trivial)
    · exact .inl (by rw [hx]; exact h10)
  obtain ⟨ds, rfl, hdl, hds⟩ := p2
  -- thing
  refine q_asg (K := K) (P := fun d _ => d ∈ ds) (ed_call (ea_cons (ed_var rfl (.obj (.ref h))) (ea_cons (ed_var rfl r2) ea_nil)) fun H3 e3 => ⟨h, ds, rfl, hh.le (e2.trans e3), (fun z => by rw [z] at hdl; cases hdl), by rw [hdl]; decide, rfl⟩) fun v3 d0 H3 e3 p3 r3 => ?_
  have gd : Thing d0 H3 := (hds d0 p3).le e3
  -- fields
  refine q_asgD (K := K) (d := .lst [d0, d0, d0, d0, d0]) (ed_lstN (ea_cons (ed_mkG c_BadWeb.ox c_BadWeb.xf c_BadWeb.no (ed_var rfl r3)) (ea_cons (ed_mkG c_NoRow.ox c_NoRow.xf c_NoRow.no (ed_var rfl r3)) (ea_cons (ed_mkG c_TooMany.ox c_TooMany.xf c_TooMany.no (ed_var rfl r3)) (ea_cons (ed_mkG c_BadFoe.ox c_BadFoe.xf c_BadFoe.no (ed_var rfl r3)) (ea_cons (ed_mkG c_NotKept.ox c_NotKept.xf c_NotKept.no (ed_var rfl r3)) ea_nil))))) (by show 5 ≤ 100000; decide) fun H4 xs r => good5 r) fun v4 H4 e4 r4 => ?_
  refine q_asgD (K := K) (d := .lst [d0, d0, d0, d0, d0, d0, d0, d0]) (ed_catN (ds := [d0, d0, d0, d0, d0]) (es := [d0, d0, d0]) (ed_var rfl r4) (ed_lstN (ea_cons (ed_mkG c_BadProgram.ox c_BadProgram.xf c_BadProgram.no (ed_var rfl (r3.le e4))) (ea_cons (ed_mkG c_BadText.ox c_BadText.xf c_BadText.no (ed_var rfl (r3.le e4))) (ea_cons (ed_mkG c_NoWeaving.ox c_NoWeaving.xf c_NoWeaving.no (ed_var rfl (r3.le e4))) ea_nil))) (by show 3 ≤ 100000; decide) fun H4 xs r => notH_len (by rw [r.len]; show 3 ≠ 5; decide)) (by show 8 ≤ 100000; decide) (by show 8 ≠ 5; decide)) fun v4' H5 e5 r5 => ?_
  have hall : ∀ (i : Nat) d, ([d0, d0, d0, d0, d0, d0, d0, d0] : List D)[i]? = some d → d = d0 ∧ i < 8 := fun i d hd => by
    have hm := List.mem_of_getElem? hd
    have hi := (List.getElem?_eq_some_iff.mp hd).1
    simp only [List.mem_cons, List.not_mem_nil, or_false, or_self] at hm
    exact ⟨hm, hi⟩
  refine q_no (b := !true) (eb_not (et_B (K := K) (ed_eq (ed_all (bs := List.replicate 8 true) (EP.weak (ep_lcL (I := GI D.bl fun i zs => zs = List.replicate i true ∧ i ≤ 8) (PT := fun i d b => b = true) (good enc_bl _) (ed_var rfl r5) (fun _ => rfl) ⟨[], rfl, Nat.zero_le _, rfl, Nat.zero_le _⟩ (fun i d v acc H6 e6 hd rv ia => et_yes) (fun i d v acc H6 e6 hd rv ia _ => ?_) (fun i d acc hd ia hf => nomatch hf)) fun d H6 _ p => ?_)) rfl))) rfl fun H6 e6 => ?_
  · obtain ⟨zs, rfl, hz, rfl, hi⟩ := ia
    obtain ⟨rfl, hi8⟩ := hall i d hd
    refine EP.weak (ed_call (P := is (.bl true)) (ea_cons (ed_var rfl rv) (ea_cons (ed_var rfl (r3.le ((e4.trans e5).trans e6))) ea_nil)) fun H7 e7 => ⟨rfl, ?_⟩) fun d' H7 _ p => ?_
    · rcases gd with gd | ⟨p, h1, h2⟩
      · exact .inl ⟨_, rfl, gd.up⟩
      · exact .inr ⟨by decide, p, by rw [h1], (((e4.trans e5).trans e6).trans e7).dK h2⟩
    · have p' : d' = .bl true := p
      subst p'
      exact ⟨GI.more (by simp; omega) ⟨by rw [← List.replicate_succ'], by omega⟩, .bl _⟩
  · obtain ⟨acc, rfl, zs, rfl, _, rfl, _⟩ := p
    rfl
  -- made
  refine q_asg (K := K) (P := ErrsP [C_BadWeb, C_NoRow, C_TooMany, C_BadFoe, C_NotKept, C_BadProgram, C_BadText, C_NoRoom, C_NoNumber]) (ep_errs (K := K) (Cl := [C_BadWeb, C_NoRow, C_TooMany, C_BadFoe, C_NotKept, C_BadProgram, C_BadText, C_NoRoom, C_NoNumber]) (ea_errs (ep_mkE c_BadWeb.ox c_BadWeb.no ed_int) (ea_errs (ep_mkE c_NoRow.ox c_NoRow.no ed_int) (ea_errs (ep_mkE c_TooMany.ox c_TooMany.no ed_int) (ea_errs (ep_mkE c_BadFoe.ox c_BadFoe.no ed_int) (ea_errs (ep_mkE c_NotKept.ox c_NotKept.no ed_int) (ea_errs (ep_mkE c_BadProgram.ox c_BadProgram.no ed_int) (ea_errs (ep_mkE c_BadText.ox c_BadText.no ed_int) (ea_errs ep_mk0 (ea_errs ep_mk0 ea_errs0))))))))) (by simp)) fun v5 d5 H7 e7 p7 r7 => ?_
  obtain ⟨es1, rfl, E1⟩ := p7
  refine q_asg (K := K) (P := ErrsP ([C_BadWeb, C_NoRow, C_TooMany, C_BadFoe, C_NotKept, C_BadProgram, C_BadText, C_NoRoom, C_NoNumber] ++ [C_NoTags, C_NoDeed, C_TooFew, C_NotFew, C_NoSlip, C_NotRight, C_NotFree, C_Full, C_NoGiving])) (ep_errsCat (EP.weak (ed_var rfl r7) fun d H _ p => ⟨es1, p, E1.le ‹_›⟩) (ep_errs (K := K) (Cl := [C_NoTags, C_NoDeed, C_TooFew, C_NotFew, C_NoSlip, C_NotRight, C_NotFree, C_Full, C_NoGiving]) (ea_errs ep_mk0 (ea_errs ep_mk0 (ea_errs ep_mk0 (ea_errs ep_mk0 (ea_errs ep_mk0 (ea_errs ep_mk0 (ea_errs ep_mk0 (ea_errs ep_mk0 (ea_errs ep_mk0 ea_errs0))))))))) (by simp)) (by simp)) fun v6 d6 H8 e8 p8 r8 => ?_
  obtain ⟨es2, rfl, E2⟩ := p8
  refine q_asg (K := K) (P := ErrsP [C_BadWeb, C_NoRow, C_TooMany, C_BadFoe, C_NotKept, C_BadProgram, C_BadText, C_NoRoom, C_NoNumber, C_NoTags, C_NoDeed, C_TooFew, C_NotFew, C_NoSlip, C_NotRight, C_NotFree, C_Full, C_NoGiving, C_NoNear, C_NoPast, C_NoText, C_NoWeaving, C_NoHands, C_NoWay]) (ep_errsCat (Cl := [C_BadWeb, C_NoRow, C_TooMany, C_BadFoe, C_NotKept, C_BadProgram, C_BadText, C_NoRoom, C_NoNumber] ++ [C_NoTags, C_NoDeed, C_TooFew, C_NotFew, C_NoSlip, C_NotRight, C_NotFree, C_Full, C_NoGiving]) (Dl := [C_NoNear, C_NoPast, C_NoText, C_NoWeaving, C_NoHands, C_NoWay]) (EP.weak (ed_var rfl r8) fun d H _ p => ⟨es2, p, E2.le ‹_›⟩) (ep_errs (K := K) (Cl := [C_NoNear, C_NoPast, C_NoText, C_NoWeaving, C_NoHands, C_NoWay]) (ea_errs ep_mk0 (ea_errs ep_mk0 (ea_errs ep_mk0 (ea_errs (ep_mkE c_NoWeaving.ox c_NoWeaving.no ed_int) (ea_errs ep_mk0 (ea_errs ep_mk0 ea_errs0)))))) (by simp)) (by simp)) fun v7 d7 H9 e9 p9 r9 => ?_
  obtain ⟨es, rfl, E⟩ := p9
  refine q_forEL (K := K) (ds := es) (ea_cons (ed_var rfl r9) ea_nil) fun H10 e10 => ?_
  refine ⟨fun i σ H' => ∃ y6 y7 y8, σ = [some (.ref a), some (.ref h), some v2, some v3, some v4', some v7, y6, y7, y8, none] ∧ Le H10 H', ⟨none, none, none, rfl, Le.refl _⟩, fun i σ H' _ ⟨_, _, _, _, e⟩ => e, ?_, ?_⟩
  · rintro i d v σ' H11 H12 hd ⟨y6, y7, y8, rfl, e11⟩ e12 rv
    obtain ⟨b, C, fs, rfl, hC, he⟩ := E.at hd
    have hi : i < 24 := (List.getElem?_eq_some_iff.mp hC).1
    have he12 := ((e10.trans e11).trans e12).err he
    have isx : ∀ {σ : L2.St} {H1 : Hp} {j : Nat} {G : Addr}, [C_BadWeb, C_NoRow, C_TooMany, C_BadFoe, C_NotKept, C_BadProgram, C_BadText, C_NoRoom, C_NoNumber, C_NoTags, C_NoDeed, C_TooFew, C_NotFew, C_NoSlip, C_NotRight, C_NotFree, C_Full, C_NoGiving, C_NoNear, C_NoPast, C_NoText, C_NoWeaving, C_NoHands, C_NoWay][j]? = some G → Le H12 H1 → (hs : σ[7]? = some (some v) := by rfl) → ED K (tCB (rIsX K) (tCons (tVar 7) (tCons (tC (.ref G)) tNil))) σ H1 (.bl (decide (i = j))) := fun hj e hs =>
      ed_isX (ed_var hs (rv.le e)) (e.err he12) (L.ec i C hC) (fun u r => r) (L.mat i C hC _ _ hj)
    refine q_asgD (K := K) (d := .lst (([decide (i = 0), decide (i = 1), decide (i = 2), decide (i = 3)] : List Bool).map .bl)) (ed_lst (ds := [.bl (decide (i = 0)), .bl (decide (i = 1)), .bl (decide (i = 2)), .bl (decide (i = 3))]) (ea_cons (isx (j := 0) rfl (Le.refl _)) (ea_cons (isx (j := 1) rfl (Le.refl _)) (ea_cons (isx (j := 2) rfl (Le.refl _)) (ea_cons (isx (j := 3) rfl (Le.refl _)) ea_nil)))) (by show 4 ≤ 100000; decide) rfl) fun f0 H20 e20 rf0 => ?_
    refine q_asgD (K := K) (d := .lst (([decide (i = 0), decide (i = 1), decide (i = 2), decide (i = 3), decide (i = 4), decide (i = 5), decide (i = 6)] : List Bool).map .bl)) (ed_eq (ed_cat (ds := ([decide (i = 0), decide (i = 1), decide (i = 2), decide (i = 3)] : List Bool).map .bl) (es := ([decide (i = 4), decide (i = 5), decide (i = 6)] : List Bool).map .bl) (ed_var rfl rf0) (ed_lst (ds := [.bl (decide (i = 4)), .bl (decide (i = 5)), .bl (decide (i = 6))]) (ea_cons (isx (j := 4) rfl e20) (ea_cons (isx (j := 5) rfl e20) (ea_cons (isx (j := 6) rfl e20) ea_nil))) (by show 3 ≤ 100000; decide) rfl) (by show 7 ≤ 100000; decide) (by rw [← List.map_append]; exact enc_bl.un _)) rfl) fun f1 H21 e21 rf1 => ?_
    refine q_asgD (K := K) (d := .lst (([decide (i = 0), decide (i = 1), decide (i = 2), decide (i = 3), decide (i = 4), decide (i = 5), decide (i = 6), decide (i = 7), decide (i = 8), decide (i = 9)] : List Bool).map .bl)) (ed_eq (ed_cat (ds := ([decide (i = 0), decide (i = 1), decide (i = 2), decide (i = 3), decide (i = 4), decide (i = 5), decide (i = 6)] : List Bool).map .bl) (es := ([decide (i = 7), decide (i = 8), decide (i = 9)] : List Bool).map .bl) (ed_var rfl rf1) (ed_lst (ds := [.bl (decide (i = 7)), .bl (decide (i = 8)), .bl (decide (i = 9))]) (ea_cons (isx (j := 7) rfl (e20.trans e21)) (ea_cons (isx (j := 8) rfl (e20.trans e21)) (ea_cons (isx (j := 9) rfl (e20.trans e21)) ea_nil))) (by show 3 ≤ 100000; decide) rfl) (by show 10 ≤ 100000; decide) (by rw [← List.map_append]; exact enc_bl.un _)) rfl) fun f2 H22 e22 rf2 => ?_
    refine q_asgD (K := K) (d := .lst (([decide (i = 0), decide (i = 1), decide (i = 2), decide (i = 3), decide (i = 4), decide (i = 5), decide (i = 6), decide (i = 7), decide (i = 8), decide (i = 9), decide (i = 10), decide (i = 11), decide (i = 12)] : List Bool).map .bl)) (ed_eq (ed_cat (ds := ([decide (i = 0), decide (i = 1), decide (i = 2), decide (i = 3), decide (i = 4), decide (i = 5), decide (i = 6), decide (i = 7), decide (i = 8), decide (i = 9)] : List Bool).map .bl) (es := ([decide (i = 10), decide (i = 11), decide (i = 12)] : List Bool).map .bl) (ed_var rfl rf2) (ed_lst (ds := [.bl (decide (i = 10)), .bl (decide (i = 11)), .bl (decide (i = 12))]) (ea_cons (isx (j := 10) rfl ((e20.trans e21).trans e22)) (ea_cons (isx (j := 11) rfl ((e20.trans e21).trans e22)) (ea_cons (isx (j := 12) rfl ((e20.trans e21).trans e22)) ea_nil))) (by show 3 ≤ 100000; decide) rfl) (by show 13 ≤ 100000; decide) (by rw [← List.map_append]; exact enc_bl.un _)) rfl) fun f3 H23 e23 rf3 => ?_
    refine q_asgD (K := K) (d := .lst (([decide (i = 0), decide (i = 1), decide (i = 2), decide (i = 3), decide (i = 4), decide (i = 5), decide (i = 6), decide (i = 7), decide (i = 8), decide (i = 9), decide (i = 10), decide (i = 11), decide (i = 12), decide (i = 13), decide (i = 14), decide (i = 15)] : List Bool).map .bl)) (ed_eq (ed_cat (ds := ([decide (i = 0), decide (i = 1), decide (i = 2), decide (i = 3), decide (i = 4), decide (i = 5), decide (i = 6), decide (i = 7), decide (i = 8), decide (i = 9), decide (i = 10), decide (i = 11), decide (i = 12)] : List Bool).map .bl) (es := ([decide (i = 13), decide (i = 14), decide (i = 15)] : List Bool).map .bl) (ed_var rfl rf3) (ed_lst (ds := [.bl (decide (i = 13)), .bl (decide (i = 14)), .bl (decide (i = 15))]) (ea_cons (isx (j := 13) rfl (((e20.trans e21).trans e22).trans e23)) (ea_cons (isx (j := 14) rfl (((e20.trans e21).trans e22).trans e23)) (ea_cons (isx (j := 15) rfl (((e20.trans e21).trans e22).trans e23)) ea_nil))) (by show 3 ≤ 100000; decide) rfl) (by show 16 ≤ 100000; decide) (by rw [← List.map_append]; exact enc_bl.un _)) rfl) fun f4 H24 e24 rf4 => ?_
    refine q_asgD (K := K) (d := .lst (([decide (i = 0), decide (i = 1), decide (i = 2), decide (i = 3), decide (i = 4), decide (i = 5), decide (i = 6), decide (i = 7), decide (i = 8), decide (i = 9), decide (i = 10), decide (i = 11), decide (i = 12), decide (i = 13), decide (i = 14), decide (i = 15), decide (i = 16), decide (i = 17), decide (i = 18)] : List Bool).map .bl)) (ed_eq (ed_cat (ds := ([decide (i = 0), decide (i = 1), decide (i = 2), decide (i = 3), decide (i = 4), decide (i = 5), decide (i = 6), decide (i = 7), decide (i = 8), decide (i = 9), decide (i = 10), decide (i = 11), decide (i = 12), decide (i = 13), decide (i = 14), decide (i = 15)] : List Bool).map .bl) (es := ([decide (i = 16), decide (i = 17), decide (i = 18)] : List Bool).map .bl) (ed_var rfl rf4) (ed_lst (ds := [.bl (decide (i = 16)), .bl (decide (i = 17)), .bl (decide (i = 18))]) (ea_cons (isx (j := 16) rfl ((((e20.trans e21).trans e22).trans e23).trans e24)) (ea_cons (isx (j := 17) rfl ((((e20.trans e21).trans e22).trans e23).trans e24)) (ea_cons (isx (j := 18) rfl ((((e20.trans e21).trans e22).trans e23).trans e24)) ea_nil))) (by show 3 ≤ 100000; decide) rfl) (by show 19 ≤ 100000; decide) (by rw [← List.map_append]; exact enc_bl.un _)) rfl) fun f5 H25 e25 rf5 => ?_
    refine q_asgD (K := K) (d := .lst (([decide (i = 0), decide (i = 1), decide (i = 2), decide (i = 3), decide (i = 4), decide (i = 5), decide (i = 6), decide (i = 7), decide (i = 8), decide (i = 9), decide (i = 10), decide (i = 11), decide (i = 12), decide (i = 13), decide (i = 14), decide (i = 15), decide (i = 16), decide (i = 17), decide (i = 18), decide (i = 19), decide (i = 20), decide (i = 21)] : List Bool).map .bl)) (ed_eq (ed_cat (ds := ([decide (i = 0), decide (i = 1), decide (i = 2), decide (i = 3), decide (i = 4), decide (i = 5), decide (i = 6), decide (i = 7), decide (i = 8), decide (i = 9), decide (i = 10), decide (i = 11), decide (i = 12), decide (i = 13), decide (i = 14), decide (i = 15), decide (i = 16), decide (i = 17), decide (i = 18)] : List Bool).map .bl) (es := ([decide (i = 19), decide (i = 20), decide (i = 21)] : List Bool).map .bl) (ed_var rfl rf5) (ed_lst (ds := [.bl (decide (i = 19)), .bl (decide (i = 20)), .bl (decide (i = 21))]) (ea_cons (isx (j := 19) rfl (((((e20.trans e21).trans e22).trans e23).trans e24).trans e25)) (ea_cons (isx (j := 20) rfl (((((e20.trans e21).trans e22).trans e23).trans e24).trans e25)) (ea_cons (isx (j := 21) rfl (((((e20.trans e21).trans e22).trans e23).trans e24).trans e25)) ea_nil))) (by show 3 ≤ 100000; decide) rfl) (by show 22 ≤ 100000; decide) (by rw [← List.map_append]; exact enc_bl.un _)) rfl) fun f6 H26 e26 rf6 => ?_
    refine q_asgD (K := K) (d := .lst (([decide (i = 0), decide (i = 1), decide (i = 2), decide (i = 3), decide (i = 4), decide (i = 5), decide (i = 6), decide (i = 7), decide (i = 8), decide (i = 9), decide (i = 10), decide (i = 11), decide (i = 12), decide (i = 13), decide (i = 14), decide (i = 15), decide (i = 16), decide (i = 17), decide (i = 18), decide (i = 19), decide (i = 20), decide (i = 21), decide (i = 22), decide (i = 23)] : List Bool).map .bl)) (ed_eq (ed_cat (ds := ([decide (i = 0), decide (i = 1), decide (i = 2), decide (i = 3), decide (i = 4), decide (i = 5), decide (i = 6), decide (i = 7), decide (i = 8), decide (i = 9), decide (i = 10), decide (i = 11), decide (i = 12), decide (i = 13), decide (i = 14), decide (i = 15), decide (i = 16), decide (i = 17), decide (i = 18), decide (i = 19), decide (i = 20), decide (i = 21)] : List Bool).map .bl) (es := ([decide (i = 22), decide (i = 23)] : List Bool).map .bl) (ed_var rfl rf6) (ed_lst (ds := [.bl (decide (i = 22)), .bl (decide (i = 23))]) (ea_cons (isx (j := 22) rfl ((((((e20.trans e21).trans e22).trans e23).trans e24).trans e25).trans e26)) (ea_cons (isx (j := 23) rfl ((((((e20.trans e21).trans e22).trans e23).trans e24).trans e25).trans e26)) ea_nil)) (by show 2 ≤ 100000; decide) rfl) (by show 24 ≤ 100000; decide) (by rw [← List.map_append]; exact enc_bl.un _)) rfl) fun f7 H27 e27 rf7 => ?_
    have e8f := (((((((e20.trans e21).trans e22).trans e23).trans e24).trans e25).trans e26).trans e27)
    have hb : ([decide (i = 0), decide (i = 1), decide (i = 2), decide (i = 3), decide (i = 4), decide (i = 5), decide (i = 6), decide (i = 7), decide (i = 8), decide (i = 9), decide (i = 10), decide (i = 11), decide (i = 12), decide (i = 13), decide (i = 14), decide (i = 15), decide (i = 16), decide (i = 17), decide (i = 18), decide (i = 19), decide (i = 20), decide (i = 21), decide (i = 22), decide (i = 23)] : List Bool) = (List.range 24).map fun j => decide (i = j) := rfl
    have hcnt : ([decide (i = 0), decide (i = 1), decide (i = 2), decide (i = 3), decide (i = 4), decide (i = 5), decide (i = 6), decide (i = 7), decide (i = 8), decide (i = 9), decide (i = 10), decide (i = 11), decide (i = 12), decide (i = 13), decide (i = 14), decide (i = 15), decide (i = 16), decide (i = 17), decide (i = 18), decide (i = 19), decide (i = 20), decide (i = 21), decide (i = 22), decide (i = 23)] : List Bool).count true = 1 := by
      rw [hb]
      exact cnt24 ⟨i, hi⟩
    have hat : (([decide (i = 0), decide (i = 1), decide (i = 2), decide (i = 3), decide (i = 4), decide (i = 5), decide (i = 6), decide (i = 7), decide (i = 8), decide (i = 9), decide (i = 10), decide (i = 11), decide (i = 12), decide (i = 13), decide (i = 14), decide (i = 15), decide (i = 16), decide (i = 17), decide (i = 18), decide (i = 19), decide (i = 20), decide (i = 21), decide (i = 22), decide (i = 23)] : List Bool).map D.bl)[((i : Nat) : Int).toNat]? = some (.bl true) := by
      rw [hb, Int.toNat_natCast, List.getElem?_map, List.getElem?_map, List.getElem?_range hi]
      show some (D.bl (decide (i = i))) = _
      rw [decide_eq_true rfl]
    refine s_no (b := false) (eb_eq (eb_or (a := false) (b := false) (eb_eq (et_test (K := K) (ed_neS (d1 := .int 1) (d2 := .int 1) (ed_eq (ed_count (ed_var rfl rf7)) (by rw [hcnt]; rfl)) ed_int rfl rfl rfl)) (by decide)) fun _ => eb_eq (eb_or (a := false) (b := false) (eb_eq (eb_not (et_B (K := K) (ed_ixL (ed_var rfl rf7) (ed_var rfl (.int (i : Int))) (by omega) hat))) rfl) fun _ => eb_eq (eb_or (a := false) (b := false)
      (eb_eq (eb_not (et_B (K := K) (ed_isX (ed_var rfl (rv.le e8f)) (e8f.err he12) (L.ec i C hC) (fun u r => r) (L.te i C hC)))) rfl) fun _ => eb_eq (eb_not (et_B (K := K) (ed_isX (ed_var rfl (rv.le e8f)) (e8f.err he12) (L.ec i C hC) (fun u r => r) (L.ve i C hC)))) rfl) rfl) rfl) rfl) rfl fun H28 e28 => ?_
    exact ⟨_, _, _, rfl, (((e11.trans e12).trans e8f).trans e28)⟩
  · rintro σ' H11 ⟨y6, y7, y8, rfl, e11⟩
    exact s_retD (K := K) (d := .bl true) (ep_isX ep_mk0 c_TagError.ec (fun u r => r) c_TagError.ve) fun v H12 _ r => by rw [rp_bl r]; exact q H12
end
end W1

set_option maxRecDepth 100000
set_option maxHeartbeats 4000000
namespace W1
open PySem PySem.Spec PyProof.Rows L2 RZ
def Fact (K : PySem.W.Frag) (x : Str) (st : Stmt) : Prop := ∃ (f : Addr) (od an : Option Addr) (sl : Array (Option Value)) (oc kV dc pm cd ct : Value), PySem.W.nsIn K mainGlobals x = some (some (.ref f)) ∧
  K.lookup f = some ⟨oc, od, .func (PySem.W.fnOf x x (defArgs st) (defBody st) (defScope st) .none kV dc pm an cd ct), sl⟩ ∧ PySem.W.codeIn K cd x = true ∧ PySem.W.keepIn K (.ref f) = true
theorem fact_mk {K : PySem.W.Frag} {x : Str} {st : Stmt} {f : Addr} {od an : Option Addr} {sl : Array (Option Value)} {oc kV dc pm cd ct : Value} (a : PySem.W.nsIn K mainGlobals x = some (some (.ref f)))
    (l : K.lookup f = some ⟨oc, od, .func (PySem.W.fnOf x x (defArgs st) (defBody st) (defScope st) .none kV dc pm an cd ct), sl⟩) (c : PySem.W.codeIn K cd x = true) (k : PySem.W.keepIn K (.ref f) = true) : Fact K x st := ⟨f, od, an, sl, oc, kV, dc, pm, cd, ct, a, l, c, k⟩
theorem Fact.g {K : PySem.W.Frag} {h : Heap} {mg : Str → Option Value} {x : Str} {st : Stmt} {ps : List Str} (F : Fact K x st) (X : K.In h) (G : h.Ns mainGlobals mg)
    (hb : ∀ (kV doc pm : Value) (an : Option Addr) (cdv ct : Value) (us : List Value), us.length = ps.length → bindArgs (PySem.W.fnOf x x (defArgs st) (defBody st) (defScope st) .none kV doc pm an cdv ct) ⟨us, []⟩ = pure (ps.zip us)) : GDef K mg x st ps := by
  obtain ⟨f, od, an, sl, oc, kV, dc, pm, cd, ct, a, l, c, k⟩ := F
  have F := fun_mk (st := st) l c k
  exact ⟨f, _, PySem.W.mg_of X G a, F, F.binds hb⟩
/-- what the written part says of an error class, told by one test -/
def clsB (K : PySem.W.Frag) (C D : Addr) : Bool :=
  decide (PySem.W.findIn K (.ref C) "__setattr__" = some (some (.builtin "object.__setattr__"))) && (decide (PySem.W.subIn K (.ref C) (.type "BaseException") = some true) && (decide (PySem.W.typeIn K (.ref C) = some (.type "type")) && (PySem.W.keepIn K (.ref C) &&
  (decide (PySem.W.findIn K (.ref C) "__getattribute__" = some (some (.builtin "BaseException.__getattribute__"))) && (decide (PySem.W.findIn K (.ref C) "__getattr__" = some none) && (PySem.W.hasDictIn K C && (decide (PySem.W.findIn K (.ref C) "__class__" = some (some (.builtin "object.__class__"))) &&
  (decide (PySem.W.specialIn K (.builtin "object.__class__") "__get__" = some (some (.builtin "getset_descriptor.__get__"))) && (decide (PySem.W.takesIn K (.builtin "object.__class__") = some true) && (decide (PySem.W.mroIn K C (.type "object") = some true) && (decide (PySem.W.mroIn K C (.ref D) = some true) &&
  (decide (PySem.W.ks_superIn K C D "__init__" = some (some (.builtin "ValueError.__init__"))) && (decide (PySem.W.subIn K (.ref C) (.type "ValueError") = some true) && decide (PySem.W.kitOne K (.ref C) (.type "ValueError") = some true))))))))))))))
structure CF (K : PySem.W.Frag) (x : Str) (C D : Addr) : Prop where
  a : PySem.W.nsIn K mainGlobals x = some (some (.ref C))
  ox : OexC K C
  xf : XfC K C
  ec : ExcC K C
  sc : PySem.W.mroIn K C (.ref D) = some true ∧ PySem.W.ks_superIn K C D "__init__" = some (some (.builtin "ValueError.__init__")) ∧ PySem.W.subIn K (.ref C) (.type "ValueError") = some true
  ve : PySem.W.kitOne K (.ref C) (.type "ValueError") = some true
theorem cf_mk {K : PySem.W.Frag} {x : Str} {C D : Addr} {nm q : Str} {N : Addr} {bs bm : List Value} {sn : List Str} {sub : List Value} {ab : Bool} {col : Option Bool} {dd : Option Addr} {k0 k1 k2 k3 k5 : Option Value} (a : PySem.W.nsIn K mainGlobals x = some (some (.ref C)))
    (lk : K.lookup C = some (excClassObj nm q C N bs bm true sn sub ab col dd k0 k1 k2 k3 k5 "ValueError.__new__")) (hb : PySem.HandSPX.refsVE bm = true) (b : clsB K C D = true) : CF K x C D := by
  unfold clsB at b
  simp only [Bool.and_eq_true, decide_eq_true_eq] at b
  obtain ⟨b1, b2, b3, b4, b5, b6, b7, b8, b9, b10, b11, b12, b13, b14, b15⟩ := b
  exact ⟨a, ⟨⟨nm, q, N, bs, bm, sn, sub, ab, col, dd, k0, k1, k2, k3, k5, lk, hb⟩, b1, b2, b3, b4⟩, ⟨b5, b6, b2, b7⟩, ⟨b5, b6, b2, b7, b8, b9, b10, b11⟩, ⟨b12, b13, b14⟩, b15⟩
structure FF (K : PySem.W.Frag) (x q f : Str) (st : Stmt) (C D : Addr) : Prop where
  c : CF K x C D
  no : PySem.W.findIn K (.ref C) f = some none
  ex : ∃ fi fd, PySem.W.findIn K (.ref C) "__init__" = some (some (.ref fi)) ∧ PySem.W.typeIn K (.ref fi) = some (.type "function") ∧ Fun K "__init__" q st fi fd
theorem ff_mk {K : PySem.W.Frag} {x q f : Str} {st : Stmt} {C D fi : Addr} {od an : Option Addr} {sl : Array (Option Value)} {oc kV dc pm cd ct : Value} (c : CF K x C D) (no : PySem.W.findIn K (.ref C) f = some none) (i : PySem.W.findIn K (.ref C) "__init__" = some (some (.ref fi))) (t : PySem.W.typeIn K (.ref fi) = some (.type "function"))
    (l : K.lookup fi = some ⟨oc, od, .func (PySem.W.fnOf "__init__" q (defArgs st) (defBody st) (defScope st) .none kV dc pm an cd ct), sl⟩) (k1 : PySem.W.codeIn K cd q = true) (k2 : PySem.W.keepIn K (.ref fi) = true) : FF K x q f st C D := ⟨c, no, fi, _, i, t, fun_mk l k1 k2⟩
structure NF0 (K : PySem.W.Frag) (x : Str) (C D fT : Addr) : Prop where
  c : CF K x C D
  i : PySem.W.findIn K (.ref C) "__init__" = some (some (.ref fT))
def matB (K : PySem.W.Frag) (D : Addr) (Cs : List Addr) : Bool := (List.range Cs.length).all fun i => decide (PySem.W.kitOne K (.ref (Cs.getD i 0)) (.ref D) = some true) && (List.range Cs.length).all fun j => decide (PySem.W.kitOne K (.ref (Cs.getD i 0)) (.ref (Cs.getD j 0)) = some (decide (i = j)))
theorem mat_te {K : PySem.W.Frag} {D : Addr} {Cs : List Addr} (h : matB K D Cs = true) {i : Nat} {C : Addr} (hC : Cs[i]? = some C) : PySem.W.kitOne K (.ref C) (.ref D) = some true ∧ ∀ (j : Nat) E, Cs[j]? = some E → PySem.W.kitOne K (.ref C) (.ref E) = some (decide (i = j)) := by
  have hi := (List.getElem?_eq_some_iff.mp hC).1
  have h1 := Bool.and_eq_true_iff.mp (List.all_eq_true.mp h i (List.mem_range.mpr hi))
  have eC : Cs.getD i 0 = C := by rw [List.getD_eq_getElem?_getD, hC]; rfl
  rw [eC] at h1
  refine ⟨of_decide_eq_true h1.1, fun j E hE => ?_⟩
  have hj := (List.getElem?_eq_some_iff.mp hE).1
  have h2 := of_decide_eq_true (List.all_eq_true.mp h1.2 j (List.mem_range.mpr hj))
  have eE : Cs.getD j 0 = E := by rw [List.getD_eq_getElem?_getD, hE]; rfl
  rw [eE] at h2
  exact h2

theorem all_ok {l : PySem.W.OpenLaw} {w : World} {K : PySem.W.Frag} {h : Heap} {mg : Str → Option Value} {fa : Addr} {C_BadWeb C_NoRow C_TooMany C_BadFoe C_NotKept C_BadProgram C_BadText C_NoRoom C_NoNumber C_NoTags C_NoDeed C_TooFew C_NotFew C_NoSlip C_NotRight C_NotFree C_Full C_NoGiving C_NoNear C_NoPast C_NoText C_NoWeaving C_NoHands C_NoWay C_TagError fT cda cc : Addr} {ocT kVT dcT pmT ctT ccl clC : Value} {odT anT cdd cld : Option Addr} {slT ccs csl : Array (Option Value)} {vsA : Array Value} {file : Str} {tf : Tok} (X : K.In h) (G : h.Ns mainGlobals mg) (hfa : mg "law" = some (.ref fa))
    (z_len : PySem.W.nsIn K mainGlobals "len" = some none)
    (z_abs : PySem.W.nsIn K mainGlobals "abs" = some none)
    (z_int : PySem.W.nsIn K mainGlobals "int" = some none)
    (z_range : PySem.W.nsIn K mainGlobals "range" = some none)
    (z_tuple : PySem.W.nsIn K mainGlobals "tuple" = some none)
    (z_list : PySem.W.nsIn K mainGlobals "list" = some none)
    (z_sorted : PySem.W.nsIn K mainGlobals "sorted" = some none)
    (z_set : PySem.W.nsIn K mainGlobals "set" = some none)
    (z_enumerate : PySem.W.nsIn K mainGlobals "enumerate" = some none)
    (z_isinstance : PySem.W.nsIn K mainGlobals "isinstance" = some none)
    (z_all : PySem.W.nsIn K mainGlobals "all" = some none)
    (z_max : PySem.W.nsIn K mainGlobals "max" = some none)
    (z_min : PySem.W.nsIn K mainGlobals "min" = some none)
    (z_bool : PySem.W.nsIn K mainGlobals "bool" = some none)
    (z_zip : PySem.W.nsIn K mainGlobals "zip" = some none)
    (z_ValueError : PySem.W.nsIn K mainGlobals "ValueError" = some none)
    (z_super : PySem.W.nsIn K mainGlobals "super" = some none)
    (aT : PySem.W.nsIn K mainGlobals "TagError" = some (some (.ref C_TagError))) (iT : PySem.W.findIn K (.ref C_TagError) "__init__" = some (some (.ref fT))) (tT : PySem.W.typeIn K (.ref fT) = some (.type "function"))
    (lT : K.lookup fT = some ⟨ocT, odT, .func (PySem.W.fnX "__init__" "TagError.__init__" (defArgs s_TagError___init__) (defBody s_TagError___init__) (defScope s_TagError___init__) [("__class__", cc)] .none kVT dcT pmT anT (.ref cda) ctT), slT⟩) (kT : PySem.W.codeIn K (.ref cda) "TagError.__init__" = true)
    (lA : K.lookup cda = some ⟨ccl, cdd, .fields vsA, ccs⟩) (vA : vsA[2]? = some (.str file tf)) (fA : ((l.prog.main.file : Str) == file) = true) (lC : K.lookup cc = some ⟨clC, cld, .cell (some (.ref C_TagError)), csl⟩)
    (cD : (PySem.W.clsIn K C_TagError).isSome = true) (opq : PySem.W.nsIn K cStatics "thirdparty.any" = some none) (top : (l.prog.main.scope.names.lookup ("super" : Str)).isSome = false)
    (c_BadWeb : FF K "BadWeb" "BadWeb.__init__" "part" s_BadWeb___init__ C_BadWeb C_TagError)
    (c_NoRow : FF K "NoRow" "NoRow.__init__" "index" s_NoRow___init__ C_NoRow C_TagError)
    (c_TooMany : FF K "TooMany" "TooMany.__init__" "most" s_TooMany___init__ C_TooMany C_TagError)
    (c_BadFoe : FF K "BadFoe" "BadFoe.__init__" "index" s_BadFoe___init__ C_BadFoe C_TagError)
    (c_NotKept : FF K "NotKept" "NotKept.__init__" "word" s_NotKept___init__ C_NotKept C_TagError)
    (c_BadProgram : FF K "BadProgram" "BadProgram.__init__" "place" s_BadProgram___init__ C_BadProgram C_TagError)
    (c_BadText : FF K "BadText" "BadText.__init__" "line" s_BadText___init__ C_BadText C_TagError)
    (c_NoRoom : NF0 K "NoRoom" C_NoRoom C_TagError fT)
    (c_NoNumber : NF0 K "NoNumber" C_NoNumber C_TagError fT)
    (c_NoTags : NF0 K "NoTags" C_NoTags C_TagError fT)
    (c_NoDeed : NF0 K "NoDeed" C_NoDeed C_TagError fT)
    (c_TooFew : NF0 K "TooFew" C_TooFew C_TagError fT)
    (c_NotFew : NF0 K "NotFew" C_NotFew C_TagError fT)
    (c_NoSlip : NF0 K "NoSlip" C_NoSlip C_TagError fT)
    (c_NotRight : NF0 K "NotRight" C_NotRight C_TagError fT)
    (c_NotFree : NF0 K "NotFree" C_NotFree C_TagError fT)
    (c_Full : NF0 K "Full" C_Full C_TagError fT)
    (c_NoGiving : NF0 K "NoGiving" C_NoGiving C_TagError fT)
    (c_NoNear : NF0 K "NoNear" C_NoNear C_TagError fT)
    (c_NoPast : NF0 K "NoPast" C_NoPast C_TagError fT)
    (c_NoText : NF0 K "NoText" C_NoText C_TagError fT)
    (c_NoWeaving : FF K "NoWeaving" "NoWeaving.__init__" "place" s_NoWeaving___init__ C_NoWeaving C_TagError)
    (c_NoHands : NF0 K "NoHands" C_NoHands C_TagError fT)
    (c_NoWay : NF0 K "NoWay" C_NoWay C_TagError fT)
    (c_TagError : NF0 K "TagError" C_TagError C_TagError fT)
    (mt : matB K C_TagError [C_BadWeb, C_NoRow, C_TooMany, C_BadFoe, C_NotKept, C_BadProgram, C_BadText, C_NoRoom, C_NoNumber, C_NoTags, C_NoDeed, C_TooFew, C_NotFew, C_NoSlip, C_NotRight, C_NotFree, C_Full, C_NoGiving, C_NoNear, C_NoPast, C_NoText, C_NoWeaving, C_NoHands, C_NoWay] = true)
    (h__law_hand : Fact K "_law_hand" s__law_hand)
    (h__law_draw : Fact K "_law_draw" s__law_draw)
    (h__law_any : Fact K "_law_any" s__law_any)
    (h__law_is : Fact K "_law_is" s__law_is)
    (h__law_nested : Fact K "_law_nested" s__law_nested)
    (h_law : Fact K "law" s_law) :
    ∃ fd : FuncData, (∀ (s : Shared) (v : Value), BindsTo s fd ⟨[v], []⟩ [("_law_script", v)]) ∧ ∀ base : Heap, K.In base → base.Ns mainGlobals mg → FnOk l.prog w K mg base CX0 46 fa fd ["_law_script"] (spLaw K) := by
  have T : LTxt mg := ⟨⟨⟨PySem.W.mg_none_of X G z_len, PySem.W.mg_none_of X G z_abs, PySem.W.mg_none_of X G z_int, PySem.W.mg_none_of X G z_range, PySem.W.mg_none_of X G z_tuple, PySem.W.mg_none_of X G z_list, PySem.W.mg_none_of X G z_sorted, PySem.W.mg_none_of X G z_set, PySem.W.mg_none_of X G z_enumerate, PySem.W.mg_none_of X G z_isinstance, PySem.W.mg_none_of X G z_all, PySem.W.mg_none_of X G z_max, PySem.W.mg_none_of X G z_min, PySem.W.mg_none_of X G z_bool⟩, PySem.W.mg_none_of X G z_zip⟩, PySem.W.mg_none_of X G z_ValueError⟩
  have g__law_hand := h__law_hand.g (ps := ["_law_script"]) X G fun _ _ _ _ _ _ us hl => match us, hl with | [_], _ => rfl
  have g__law_draw := h__law_draw.g (ps := ["_law_hand_here", "_law_many"]) X G fun _ _ _ _ _ _ us hl => match us, hl with | [_, _], _ => rfl
  have g__law_any := h__law_any.g (ps := ["_law_hand_here", "_law_items"]) X G fun _ _ _ _ _ _ us hl => match us, hl with | [_, _], _ => rfl
  have g__law_is := h__law_is.g (ps := ["_law_told", "_law_due"]) X G fun _ _ _ _ _ _ us hl => match us, hl with | [_, _], _ => rfl
  have g__law_nested := h__law_nested.g (ps := ["_law_hand_here"]) X G fun _ _ _ _ _ _ us hl => match us, hl with | [_], _ => rfl
  obtain ⟨f, od, an, sl, oc, kV, dc, pm, cd, ct, a, lk, c, k⟩ := h_law
  have e := hfa.symm.trans (PySem.W.mg_of X G a)
  cases e
  have F := fun_mk (st := s_law) lk c k
  refine ⟨PySem.W.fnOf "law" "law" (defArgs s_law) (defBody s_law) (defScope s_law) .none kV dc pm an cd ct, fun s v => .of_eq rfl, fun base _ _ => ?_⟩
  have L1 := ok_hand (P := l.prog) (w := w) (base := base) T.toTxt g__law_hand
  have L2' := ok_draw (P := l.prog) (w := w) (base := base) T.toTxt g__law_draw
  have L3 := ok_any T.toTxt g__law_any L2'
  have L4 := ok_nested T.toSTxt g__law_nested L3
  have L5 := ok_is (P := l.prog) (w := w) (base := base) T.toSTxt g__law_is 39
  have S : SupF l.prog K mg C_TagError fT (PySem.W.fnX "__init__" "TagError.__init__" (defArgs s_TagError___init__) (defBody s_TagError___init__) (defScope s_TagError___init__) [("__class__", cc)] .none kVT dcT pmT anT (.ref cda) ctT) :=
    ⟨⟨ocT, odT, slT, kVT, dcT, pmT, anT, cda, ctT, cc, rfl, lT, kT, ⟨ccl, cdd, vsA, ccs, file, tf, lA, vA, fA⟩, ⟨clC, cld, csl, lC⟩⟩, Option.isSome_iff_exists.mp cD, opq, PySem.W.mg_none_of X G z_super, top⟩
  have ST := sup_ok (w := w) (base := base) (k := 0) S
  have bT : Binds K (PySem.W.fnX "__init__" "TagError.__init__" (defArgs s_TagError___init__) (defBody s_TagError___init__) (defScope s_TagError___init__) [("__class__", cc)] .none kVT dcT pmT anT (.ref cda) ctT) ["self"] [] := .all fun us hl => match us, hl with | [_], _ => rfl
  have mkN : ∀ {x : Str} {C : Addr}, NF0 K x C C_TagError fT → NC l.prog w K mg base x C C_TagError := fun n => ⟨PySem.W.mg_of X G n.c.a, ⟨n.c.ox, n.c.sc.1, n.c.sc.2.1, n.c.sc.2.2⟩, n.c.ec, n.c.ve, fT, _, n.i, tT, ST, bT⟩
  have k_BadWeb : FC l.prog w K mg base "BadWeb" "part" C_BadWeb := by
    obtain ⟨fi, fd, i, t, FI⟩ := c_BadWeb.ex
    exact ⟨PySem.W.mg_of X G c_BadWeb.c.a, c_BadWeb.c.ox, c_BadWeb.c.xf, c_BadWeb.no, fi, fd, i, t, ok_BadWeb FI, FI.binds fun _ _ _ _ _ _ us hl => match us, hl with | [_, _], _ => rfl⟩
  have k_NoRow : FC l.prog w K mg base "NoRow" "index" C_NoRow := by
    obtain ⟨fi, fd, i, t, FI⟩ := c_NoRow.ex
    exact ⟨PySem.W.mg_of X G c_NoRow.c.a, c_NoRow.c.ox, c_NoRow.c.xf, c_NoRow.no, fi, fd, i, t, ok_NoRow FI, FI.binds fun _ _ _ _ _ _ us hl => match us, hl with | [_, _], _ => rfl⟩
  have k_TooMany : FC l.prog w K mg base "TooMany" "most" C_TooMany := by
    obtain ⟨fi, fd, i, t, FI⟩ := c_TooMany.ex
    exact ⟨PySem.W.mg_of X G c_TooMany.c.a, c_TooMany.c.ox, c_TooMany.c.xf, c_TooMany.no, fi, fd, i, t, ok_TooMany FI, FI.binds fun _ _ _ _ _ _ us hl => match us, hl with | [_, _], _ => rfl⟩
  have k_BadFoe : FC l.prog w K mg base "BadFoe" "index" C_BadFoe := by
    obtain ⟨fi, fd, i, t, FI⟩ := c_BadFoe.ex
    exact ⟨PySem.W.mg_of X G c_BadFoe.c.a, c_BadFoe.c.ox, c_BadFoe.c.xf, c_BadFoe.no, fi, fd, i, t, ok_BadFoe FI, FI.binds fun _ _ _ _ _ _ us hl => match us, hl with | [_, _], _ => rfl⟩
  have k_NotKept : FC l.prog w K mg base "NotKept" "word" C_NotKept := by
    obtain ⟨fi, fd, i, t, FI⟩ := c_NotKept.ex
    exact ⟨PySem.W.mg_of X G c_NotKept.c.a, c_NotKept.c.ox, c_NotKept.c.xf, c_NotKept.no, fi, fd, i, t, ok_NotKept FI, FI.binds fun _ _ _ _ _ _ us hl => match us, hl with | [_, _], _ => rfl⟩
  have k_BadProgram : FC l.prog w K mg base "BadProgram" "place" C_BadProgram := by
    obtain ⟨fi, fd, i, t, FI⟩ := c_BadProgram.ex
    exact ⟨PySem.W.mg_of X G c_BadProgram.c.a, c_BadProgram.c.ox, c_BadProgram.c.xf, c_BadProgram.no, fi, fd, i, t, ok_BadProgram FI, FI.binds fun _ _ _ _ _ _ us hl => match us, hl with | [_, _], _ => rfl⟩
  have k_BadText : FC l.prog w K mg base "BadText" "line" C_BadText := by
    obtain ⟨fi, fd, i, t, FI⟩ := c_BadText.ex
    exact ⟨PySem.W.mg_of X G c_BadText.c.a, c_BadText.c.ox, c_BadText.c.xf, c_BadText.no, fi, fd, i, t, ok_BadText FI, FI.binds fun _ _ _ _ _ _ us hl => match us, hl with | [_, _], _ => rfl⟩
  have k_NoWeaving : FC l.prog w K mg base "NoWeaving" "place" C_NoWeaving := by
    obtain ⟨fi, fd, i, t, FI⟩ := c_NoWeaving.ex
    exact ⟨PySem.W.mg_of X G c_NoWeaving.c.a, c_NoWeaving.c.ox, c_NoWeaving.c.xf, c_NoWeaving.no, fi, fd, i, t, ok_NoWeaving FI, FI.binds fun _ _ _ _ _ _ us hl => match us, hl with | [_, _], _ => rfl⟩
  have ecs : ∀ (i : Nat) C, [C_BadWeb, C_NoRow, C_TooMany, C_BadFoe, C_NotKept, C_BadProgram, C_BadText, C_NoRoom, C_NoNumber, C_NoTags, C_NoDeed, C_TooFew, C_NotFew, C_NoSlip, C_NotRight, C_NotFree, C_Full, C_NoGiving, C_NoNear, C_NoPast, C_NoText, C_NoWeaving, C_NoHands, C_NoWay][i]? = some C → ∃ x, CF K x C C_TagError := fun i C hC => by
    have hm := List.mem_of_getElem? hC
    simp only [List.mem_cons, List.not_mem_nil, or_false] at hm
    rcases hm with rfl | rfl | rfl | rfl | rfl | rfl | rfl | rfl | rfl | rfl | rfl | rfl | rfl | rfl | rfl | rfl | rfl | rfl | rfl | rfl | rfl | rfl | rfl | rfl
    · exact ⟨_, c_BadWeb.c⟩
    · exact ⟨_, c_NoRow.c⟩
    · exact ⟨_, c_TooMany.c⟩
    · exact ⟨_, c_BadFoe.c⟩
    · exact ⟨_, c_NotKept.c⟩
    · exact ⟨_, c_BadProgram.c⟩
    · exact ⟨_, c_BadText.c⟩
    · exact ⟨_, c_NoRoom.c⟩
    · exact ⟨_, c_NoNumber.c⟩
    · exact ⟨_, c_NoTags.c⟩
    · exact ⟨_, c_NoDeed.c⟩
    · exact ⟨_, c_TooFew.c⟩
    · exact ⟨_, c_NotFew.c⟩
    · exact ⟨_, c_NoSlip.c⟩
    · exact ⟨_, c_NotRight.c⟩
    · exact ⟨_, c_NotFree.c⟩
    · exact ⟨_, c_Full.c⟩
    · exact ⟨_, c_NoGiving.c⟩
    · exact ⟨_, c_NoNear.c⟩
    · exact ⟨_, c_NoPast.c⟩
    · exact ⟨_, c_NoText.c⟩
    · exact ⟨_, c_NoWeaving.c⟩
    · exact ⟨_, c_NoHands.c⟩
    · exact ⟨_, c_NoWay.c⟩
  have LL : LF K C_TagError [C_BadWeb, C_NoRow, C_TooMany, C_BadFoe, C_NotKept, C_BadProgram, C_BadText, C_NoRoom, C_NoNumber, C_NoTags, C_NoDeed, C_TooFew, C_NotFew, C_NoSlip, C_NotRight, C_NotFree, C_Full, C_NoGiving, C_NoNear, C_NoPast, C_NoText, C_NoWeaving, C_NoHands, C_NoWay] := ⟨fun i C hC => (ecs i C hC).elim fun _ h => h.ec, fun i C hC => (mat_te mt hC).2, fun i C hC => (mat_te mt hC).1, fun i C hC => (ecs i C hC).elim fun _ h => h.ve⟩
  exact ok_law T F L1 L3 L4 L5 k_BadWeb k_NoRow k_TooMany k_BadFoe k_NotKept k_BadProgram k_BadText (mkN c_NoRoom) (mkN c_NoNumber) (mkN c_NoTags) (mkN c_NoDeed) (mkN c_TooFew) (mkN c_NotFew) (mkN c_NoSlip) (mkN c_NotRight) (mkN c_NotFree) (mkN c_Full) (mkN c_NoGiving) (mkN c_NoNear) (mkN c_NoPast) (mkN c_NoText) k_NoWeaving (mkN c_NoHands) (mkN c_NoWay) (mkN c_TagError) LL
theorem walk {l : PySem.W.OpenLaw} {q : Program} {loose : List Str} {XP : (Str → Option Value) → Heap → Prop} {YP : World → Heap → Prop} {d : DefRec} {K : Params → PySem.W.Frag} (hn : l.most = some 63) (hdf : d.params.defaults = [])
    (hY : ∀ (w : World) (h : Heap), YP w h → (K w.params).In h)
    (F : ∀ (w : World) (mg : Str → Option Value) (fa : Addr) (h : Heap), (K w.params).In h → h.Ns mainGlobals mg → mg d.name = some (.ref fa) →
      ∃ fd : FuncData, (∀ (s : Shared) (u : Value), BindsTo s fd ⟨[u], []⟩ [("_law_script", u)]) ∧ ∀ base : Heap, (K w.params).In base → base.Ns mainGlobals mg → FnOk l.prog w (K w.params) mg base CX0 46 fa fd ["_law_script"] (spLaw (K w.params))) :
    PySem.W.WalkO q loose XP YP l.row.toRowW d [] (fun f vs => PySem.call f vs) :=
  L2.walk_of (n := 63) (k := 46) (x := "_law_script") (CX := fun _ => CX0) (sp := fun w => spLaw (K w.params)) hn (by decide) hdf ⟨rfl, by decide, by decide⟩ hY F (fun _ _ a ns hl _ hS => ⟨a, ns, rfl, hS, hl, fun _ => rfl⟩) fun _ _ _ _ _ z => z
end W1

set_option maxRecDepth 100000
open PySem PySem.W PyProof.Rows
local macro_rules | `(tactic| walk_at "fact") => `(tactic| (refine' W1.fact_mk ?a ?l ?c ?k; (case a => k_is); (case l => k_is); (case c => k_is); (case k => k_is)))
local macro_rules | `(tactic| walk_at "cf") => `(tactic| (refine' W1.cf_mk ?a ?lk ?hb ?b; (case a => k_is); (case lk => k_is); (case hb => first | rfl | decide +kernel | k_is); (case b => first | kernel_rfl | rfl | decide +kernel)))
local macro_rules | `(tactic| walk_at "ff") => `(tactic| (refine' W1.ff_mk ?c ?no ?i ?t ?l ?k1 ?k2; (case c => walk_at "cf"); (case no => k_is); (case i => k_is); (case t => k_is); (case l => k_is); (case k1 => k_is); (case k2 => k_is)))
local macro_rules | `(tactic| walk_at "nf") => `(tactic| (refine' ⟨?c, ?i⟩; (case c => walk_at "cf"); (case i => k_is)))
set_option maxHeartbeats 0 in
theorem PySem.Challenge.cw_staletags_k00_errors_of_the_package_holds : PySem.Challenge.rw_staletags_k00_errors_of_the_package.Holds := by
  w_on; o_law; k_head; (case hw => w_witness2)
  k_fill
  refine W1.walk (l := PySem.Challenge.rw_staletags_k00_errors_of_the_package) rfl rfl (fun w h Y => PySem.W.kIn_of Y) ?F
  case F =>
    intro w mg fa h KX G hmg
    refine' W1.all_ok (l := PySem.Challenge.rw_staletags_k00_errors_of_the_package) KX G hmg ?z_len ?z_abs ?z_int ?z_range ?z_tuple ?z_list ?z_sorted ?z_set ?z_enumerate ?z_isinstance ?z_all ?z_max ?z_min ?z_bool ?z_zip ?z_ValueError ?z_super ?aT ?iT ?tT ?lT ?kT ?lA ?vA ?fA ?lC ?cD ?opq ?top ?c_BadWeb ?c_NoRow ?c_TooMany ?c_BadFoe ?c_NotKept ?c_BadProgram ?c_BadText ?c_NoRoom ?c_NoNumber ?c_NoTags ?c_NoDeed ?c_TooFew ?c_NotFew ?c_NoSlip ?c_NotRight ?c_NotFree ?c_Full ?c_NoGiving ?c_NoNear ?c_NoPast ?c_NoText ?c_NoWeaving ?c_NoHands ?c_NoWay ?c_TagError ?mt ?h__law_hand ?h__law_draw ?h__law_any ?h__law_is ?h__law_nested ?h_law
    (case z_len => k_is)
    (case z_abs => k_is)
    (case z_int => k_is)
    (case z_range => k_is)
    (case z_tuple => k_is)
    (case z_list => k_is)
    (case z_sorted => k_is)
    (case z_set => k_is)
    (case z_enumerate => k_is)
    (case z_isinstance => k_is)
    (case z_all => k_is)
    (case z_max => k_is)
    (case z_min => k_is)
    (case z_bool => k_is)
    (case z_zip => k_is)
    (case z_ValueError => k_is)
    (case z_super => k_is)
    (case aT => k_is)
    (case iT => k_is)
    (case tT => k_is)
    (case lT => k_is)
    (case kT => k_is)
    (case lA => k_is)
    (case vA => first | rfl | k_is)
    (case fA => first | rfl | decide +kernel | k_is)
    (case lC => k_is)
    (case cD => first | kernel_rfl | rfl)
    (case opq => k_is)
    (case top => first | rfl | decide +kernel | k_is)
    (case c_BadWeb => walk_at "ff")
    (case c_NoRow => walk_at "ff")
    (case c_TooMany => walk_at "ff")
    (case c_BadFoe => walk_at "ff")
    (case c_NotKept => walk_at "ff")
    (case c_BadProgram => walk_at "ff")
    (case c_BadText => walk_at "ff")
    (case c_NoRoom => walk_at "nf")
    (case c_NoNumber => walk_at "nf")
    (case c_NoTags => walk_at "nf")
    (case c_NoDeed => walk_at "nf")
    (case c_TooFew => walk_at "nf")
    (case c_NotFew => walk_at "nf")
    (case c_NoSlip => walk_at "nf")
    (case c_NotRight => walk_at "nf")
    (case c_NotFree => walk_at "nf")
    (case c_Full => walk_at "nf")
    (case c_NoGiving => walk_at "nf")
    (case c_NoNear => walk_at "nf")
    (case c_NoPast => walk_at "nf")
    (case c_NoText => walk_at "nf")
    (case c_NoWeaving => walk_at "ff")
    (case c_NoHands => walk_at "nf")
    (case c_NoWay => walk_at "nf")
    (case c_TagError => walk_at "nf")
    (case mt => first | kernel_rfl | rfl | decide +kernel)
    (case h__law_hand => walk_at "fact")
    (case h__law_draw => walk_at "fact")
    (case h__law_any => walk_at "fact")
    (case h__law_is => walk_at "fact")
    (case h__law_nested => walk_at "fact")
    (case h_law => walk_at "fact")

