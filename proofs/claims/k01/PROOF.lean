import PyProof.Rows.All
import Wide.All
import OpenK.AllK
import Wide.FinOn
import HandS.ForMost
import HandS.Walk
import HandS.SetFor
import HandS.Strs
import HandS.TupMul
import HandS.TupAny
import HandS.TupLe
import HandS.Style
import HandS.SortInts
import HandS.IsInst
import HandS.Conv
import KE.GoesEnum
import HandS.Evl
import HandS.Zip
import KE.GoesZip
import PySem.Challenge.RW_staletags_k01_webs_judged_and_made
import HandS.Base
import HandS.Call
import HandS.Words
import HandS.ExcInit
import KE.KExcSuper
import HandS.ExcValue
import HandS.ExcIs
import HandS.ExcField
import KE.KExcIs
import KE.DataFind
import HandS.OwnEq
import PyProof.InstEq
import HandS.WordsExc
import HandS.SortRule
import HandS.Sort
import KE.KTupSum
import HandS.ExcOwn
import HandS.ExcBuiltin
import HandS.Lambda
import HandS.EndOwn
set_option Elab.async false
set_option linter.all false
set_option maxRecDepth 100000
set_option maxHeartbeats 4000000
/-! own rules: enumerate over a tuple, set of a list of ints, a tuple times one -/
namespace PySem
section
open Builtin
theorem en1_new {v : Value} {o : Obj} {G : Heap → Prop} (B : Begins v o G) :
    Meets (Builtin.«enumerate.__new__» ⟨[.type "enumerate", v], []⟩) (fun _ R s => G s.heap ∧
      R (.ok (.ret (.ref (s.heap.push o).objs.size)))
        { s with heap := (s.heap.push o).push { cls := .type "enumerate", data := .fields #[.none, .bool false, .ref s.heap.objs.size, rawInt 0, .none, .none] } }) := by
  refine .of_wp fun prog w A R s h => ?_
  obtain ⟨hp, g, d, tk, os⟩ := s
  obtain ⟨h1, h⟩ := h
  have hsb := sub_enumerate
  have qi : ∀ {A' : Around} {E : Value → Shared → Prop} {Q : Value → Shared → Prop},
      Q (.ref hp.objs.size) ⟨hp.push o, g, d, tk, os⟩ → wpAny (model prog w) A' (pyIter v) Q E ⟨hp, g, d, tk, os⟩ := fun {A'} {E} {Q} q =>
    B.iter prog w _ _ ⟨hp, g, d, tk, os⟩ _ h1 q
  wp_walk using qi
  refine wpAny_stack_any fun st => ?_
  refine wpAny_pure ?_
  split
  · rename_i c _ _ _ _ _
    cases (c == Value.type "enumerate") <;> (wp_walk using qi; exact ⟨_, rfl, h⟩)
  · wp_walk using qi
    exact ⟨_, rfl, h⟩
end
theorem en1_call {prog : Program} {w : World} {A : Around} {E : Value → Shared → Prop} {s : Shared} {v : Value} {o : Obj} {G : Heap → Prop} {Q : Value → Shared → Prop} (B : Begins v o G) (hG : G s.heap)
    (hq : ∀ h', IsEnum h' (s.heap.objs.size + 1) s.heap.objs.size 0 .none → h'.get? s.heap.objs.size = some o → (∀ b u, s.heap.get? b = some u → h'.get? b = some u) →
      Q (.ref (s.heap.objs.size + 1)) { s with heap := h' }) :
    wpAny (model prog w) A (call (.type "enumerate") [v]) Q E s := by
  have hz : (s.heap.push o).objs.size = s.heap.objs.size + 1 := Heap.size_push ..
  refine callType_new F.called_enumerate (by decide) (F.typeCall_enumerate_1 v) (F.newCall_enumerate_1 v)
    (fun obj => F.args_object_init_2 obj v) F.entry_enumerate_new (en1_new B) ⟨hG, ?_⟩
  show _ ∧ _
  rw [hz]
  have e0 := Heap.get?_push_size (s.heap.push o)
    (o := { cls := .type "enumerate", data := .fields #[.none, .bool false, .ref s.heap.objs.size, rawInt 0, .none, .none] }) rfl
  rw [hz] at e0
  have he : IsEnum ((s.heap.push o).push { cls := .type "enumerate", data := .fields #[.none, .bool false, .ref s.heap.objs.size, rawInt 0, .none, .none] })
    (s.heap.objs.size + 1) s.heap.objs.size 0 .none := e0
  refine ⟨⟨_, he, rfl⟩, hq _ he ?_ ?_⟩
  · exact Heap.get?_push_of_some _ (Heap.get?_push_size _ B.free)
  · intro b u x
    exact Heap.get?_push_of_some _ (Heap.get?_push_of_some _ x)
end PySem
namespace L2
open PySem PySem.Spec PyProof.Rows
/-- the tuple at a, each item in a new pair with its place -/
def IteT (K : PySem.W.Frag) (a : Addr) : It where
  go := fun i H => ∃ (xs : List V) (x : V), SqT K H a xs ∧ xs[i]? = some x
  yld := fun i H v H' => ∃ T x, v = .ref T ∧ H T = none ∧ H' = upd H T (.tup [.int (i : Nat), x]) ∧ ∀ xs, SqT K H a xs → xs[i]? = some x
  stop := fun i H => ∃ xs : List V, SqT K H a xs ∧ xs.length ≤ i
theorem isTup_isTuple {h : Heap} {a : Addr} {its : Array Value} (x : IsTup h a its) : h.IsTuple a its := by
  obtain ⟨o, ho, hc, n, hd⟩ := x
  exact ⟨o, ho, hc, n, hd⟩

theorem turn_enT {P : Program} {w : World} {K : PySem.W.Frag} {elts : List Expr} {kk : Nat} {tp : Pos} (a e it : Addr) (hai : a ≠ it) (hea : e ≠ a) :
    Turn P w K (.Tuple elts kk tp) (IteT K a) [e, it] e (fun i h => (∃ old, IsEnum h e it ((i : Nat) : Int) old) ∧ h.IsTupleIter it a i ∧ e ≠ it) := by
  refine ⟨by simp, ?_, ?_, ?_, ?_, ?_⟩
  · rintro i h ⟨⟨old, he⟩, hit, _⟩ b hb
    have hb2 : b = e ∨ b = it := by simpa using hb
    rcases hb2 with rfl | rfl
    · exact ⟨_, he, fun v q => nomatch q⟩
    · obtain ⟨o, ho, _, hd⟩ := hit
      exact ⟨o, ho, fun v q => by rw [hd] at q; cases q⟩
  · rintro i h h' ⟨⟨old, he⟩, hit, hne⟩ k
    refine ⟨⟨old, k e (by simp) _ he⟩, ?_, hne⟩
    obtain ⟨o, ho, r⟩ := hit
    exact ⟨o, k it (by simp) o ho, r⟩
  · intro X hP hw hK hc i pins s σ H E I hf st hg
    subst hP hw hK
    obtain ⟨⟨old, he⟩, hit, hne⟩ := st
    obtain ⟨xs, x, hq, hx⟩ := hg
    obtain ⟨its, rv, pt, hz⟩ := I.tuple hq
    obtain ⟨u, hu, ru⟩ := rv.get hx
    have hel : e < s.heap.objs.size := Heap.lt_size he
    have hil : it < s.heap.objs.size := by
      obtain ⟨_, q, _⟩ := hit
      exact Heap.lt_size q
    have hin : i < its.toArray.size := by
      have h2 := (List.getElem?_eq_some_iff.mp hu).1
      simpa using h2
    have hh1 : X.A.in1.handled = none := by
      have h0 := I.ok.hd hc
      simpa using h0
    refine wpAny_pyNext_enum_itemD (Draws.tuple hh1 it a hai its.toArray) he ⟨hit, isTup_isTuple pt⟩ hin hne (by simp [hne, hea]) fun y h1 tk hy hout hst hT hsz hk => ?_
    have ey : y = u := by
      have h3 : its.toArray[i]? = some u := by simpa using hu
      exact Option.some.inj (hy.symm.trans h3)
    subst ey
    refine ⟨_, rfl, wpAny_letOwnedTupleGo_enum (s := { s with heap := h1, toks := tk + 1 }) hout fun h2 he2 sb => ?_⟩
    have hT2 : h2.get? s.heap.objs.size = some { cls := .type "tuple", data := .seq #[.int i tk, y] } := (sb.2 _ (Nat.ne_of_gt hel)).trans hT
    have new : ObjOk X.prog X.w (upd H s.heap.objs.size (.tup [.int (i : Nat), x])) h2 s.heap.objs.size (.tup [.int (i : Nat), x]) := by
      refine ⟨?_, [.int i tk, y], ?_, ?_⟩
      · show 2 ≤ sizeLine
        decide
      · exact .cons ⟨_, rfl⟩ (.cons ru .nil)
      · exact ⟨_, hT2, rfl, _, rfl⟩
    have I1 : Inv X pins σ (upd H s.heap.objs.size (.tup [.int (i : Nat), x])) { s with heap := h2, toks := tk + 1 } := by
      refine I.turnedNew (ch := [e, it]) (fun b ob hb q => ?_) hf (Nat.le_refl _) new
      have nbe : b ≠ e := fun z => hb (by simp [z])
      have nbi : b ≠ it := fun z => hb (by simp [z])
      exact (sb.2 b nbe).trans (hk b ob nbe nbi q)
    refine ⟨.ref s.heap.objs.size, _, I1, rfl, ⟨_, x, rfl, I.hok.fresh (Nat.le_refl _), rfl, fun ys hy2 => ?_⟩, ⟨⟨y, ?_⟩, ?_, hne⟩, fun b hb => ?_⟩
    · rw [I.tuple_inj hy2 hq]
      exact hx
    · have e1 : ((i + 1 : Nat) : Int) = (i : Int) + 1 := by omega
      rw [e1]
      exact he2
    · obtain ⟨o, ho, r⟩ := hst.1
      exact ⟨o, (sb.2 it (Ne.symm hne)).trans ho, r⟩
    · have hlt : b < s.heap.objs.size := by
        have hb2 : b = e ∨ b = it := by simpa using hb
        rcases hb2 with rfl | rfl
        · exact hel
        · exact hil
      rw [upd_ne (Nat.ne_of_lt hlt)]
      exact (hf b hb).1
  · intro X hP hw hK hc i pins s σ H E I hf st hg
    subst hP hw hK
    obtain ⟨⟨old, he⟩, hit, hne⟩ := st
    obtain ⟨xs, hq, hx⟩ := hg
    obtain ⟨its, rv, pt, hz⟩ := I.tuple hq
    obtain ⟨f0, f1, f2, f3, f4, f5⟩ := hf it (by simp)
    have hh1 : X.A.in1.handled = none := by
      have h0 := I.ok.hd hc
      simpa using h0
    have hl := rv.length
    have hend : ∀ h', Heap.ExtBut it s.heap h' → (fun (r : Option Value) (s1 : Shared) => r = none ∧ Inv X pins σ H s1) none { s with heap := h' } := fun h' eb =>
      ⟨rfl, I.turned (t' := s.toks) (fun b o hb q => eb b o hb q) f0 f1 f3 f4 f5⟩
    have hT : s.TypeIs (.ref e) "enumerate" := ⟨_, he, rfl⟩
    unfold pyNext
    refine wpAny_bind (wpAny_attempt (wpAny_callSpecial?_slot (name := Str.ofString "__next__") hT F.slot_enumerate_next
      (wpAny_call_entry F.slot_enumerate_next hT F.entry_enumerate_next ?_ (F.args_enumerate_next_1 _))))
    show wpAny _ _ (field (.ref e) 2 >>= _) _ _ _
    refine wpAny_bind (wpAny_field he rfl (x := .ref it) rfl ?_)
    refine wpAny_bind (wpAny_nextOf_tuple_end hh1 hit (isTup_isTuple pt) (by simp; omega) fun h' y he' hy => ?_)
    obtain ⟨o, ho, hcl⟩ := hy
    refine wpAny_bind (wpAny_isInstance (T := "StopIteration") (b := true) ⟨o, ho, hcl⟩ isSubtype_stop ?_)
    exact wpAny_pure (hend _ he')
  · rintro A i s Q E ⟨⟨old, he⟩, _⟩ h
    exact wpAny_pyIter_enum he h
def iEnumT (K : PySem.W.Frag) (ta : TA) : TI := fun σ H R => ta σ H fun vs H1 => ∃ a xs, vs = [.ref a] ∧ SqT K H1 a xs ∧ R (IteT K a) H1
theorem pi_enumT {X : Cx} {e : Expr} {ta : TA} {p pos tp : Pos} {elts : List Expr} {kk : Nat} (hg : Gl X "enumerate") (hm : X.mg "enumerate" = none) (ha : PA X [e] ta)
    (hs : starEach [e] X.env = [(false, eval e X.env)] := by rfl) : PI X (.Tuple elts kk tp) (.Call (.Name "enumerate" p) [e] [] pos) (iEnumT X.K ta) := by
  constructor
  intro pins s σ H R I h
  refine Call_ (ld_blt I hg hm boot_enumerate ?_)
  refine PyProof.Rows.callWith_type1 (thn (ha.run pos pins s σ H _ I h) fun us s1 hh => ?_) hs rfl
  obtain ⟨vs, H1, I1, r1, a, xs, rfl, hq, q⟩ := hh
  cases r1 with
  | cons r rr =>
    cases rr
    cases r
    obtain ⟨its, rv, pt, hz⟩ := I1.tuple hq
    have ht := isTup_isTuple pt
    have hlt : a < s1.heap.objs.size := by
      obtain ⟨o, ho, _⟩ := pt
      exact Heap.lt_size ho
    refine en1_call (begins_tuple a its.toArray) ht fun h' he hit hk => ?_
    refine wpAny_pyIter_enum he ?_
    have I2 : Inv X pins σ H1 { s1 with heap := h' } := I1.kept (t' := s1.toks) hk
    have T := turn_enT (P := X.prog) (w := X.w) (K := X.K) (elts := elts) (kk := kk) (tp := tp) a (s1.heap.objs.size + 1) s1.heap.objs.size (Nat.ne_of_lt hlt) (by
      intro z
      rw [← z] at hlt
      exact absurd hlt (Nat.not_lt.mpr (Nat.le_succ _)))
    refine ⟨s1.heap.objs.size + 1, [s1.heap.objs.size + 1, s1.heap.objs.size], _, _, H1, rfl, I2, T, ⟨⟨.none, he⟩, ⟨_, hit, rfl, rfl⟩, Nat.succ_ne_self _⟩, fun b hb => ?_, q⟩
    have hb2 : b = s1.heap.objs.size + 1 ∨ b = s1.heap.objs.size := by simpa using hb
    have hle : s1.heap.objs.size ≤ b := by
      rcases hb2 with z | z <;> rw [z]
      · exact Nat.le_succ _
      · exact Nat.le_refl _
    exact I1.fpOk hle (I1.hok.fresh hle)
theorem walk_enT {K : PySem.W.Frag} {a : Addr} {xs : List V} : Walk (IteT K a) xs.length (fun H => SqT K H a xs) (YPair (fun i => some (.int (i : Nat))) (fun i => xs[i]?)) := by
  constructor
  · intro i H hi q
    exact ⟨xs, xs[i], q, by simp [hi]⟩
  · intro H q
    exact ⟨xs, q, Nat.le_refl _⟩
  · rintro i H v H' _ q ⟨T, x, h1, h2, h3, h4⟩
    exact ⟨T, .int (i : Nat), x, h1, h2, h3, rfl, h4 xs q⟩

/-! ### set(a list of ints) -/
section
variable {P : Program} {w : World} {A : Around} {E : Value → Shared → Prop} {s : Shared}
abbrev set0 (w : World) : Obj := { cls := .type "set", dict := none, data := .set #[] 0 (.fresh 0 0 (!w.params.followText "set-order")) }
theorem setL_call {l : Addr} {items : Array Value} (ns : List Int) {Q : Value → Shared → Prop} (hh : A.handled = none) (hl : s.heap.IsList l items) (hit : IntsAre items.toList ns) (hb : ns.length + 1 < scanBound)
    (hq : ∀ (h' : Heap) (tk c : Nat), SetR w h' s.heap.objs.size (fun j => decide (j ∈ ns)) c → c ≤ ns.length → (∀ b o, s.heap.get? b = some o → h'.get? b = some o) →
      Q (.ref s.heap.objs.size) { s with heap := h', toks := tk }) :
    wpAny (model P w) A (call (.type "set") [.ref l]) Q E s := by
  have hisz : items.size = ns.length := by simpa using IntsAre.length hit
  obtain ⟨cm, tl, hmro⟩ := F.called_set.mro
  have hmade := F.called_set.made
  have hsb := F.called_set.sub
  refine wpAny_call (codeAny_of_tree ?_)
  show wpAny _ _ (callAny (.type "set") _) _ _ _
  refine wpAny_pure ⟨Code.quiet_builtin _ (by decide +kernel), ?_⟩
  refine codeAny_builtin F.entry_type_call ?_
  rw [Around.under_plain (weight_type_call_type "set" [.ref l] []) rfl]
  have f1 := F.called_set.notType
  have f2 := F.called_set.canCreate
  have f3 := F.typeCall_set_1 (.ref l)
  repeat (any_goals (first | assumption | wp_step))
  refine codeAny_mono (code_set_led1 (.ref l) (E := E) (Q₁ := fun obj s₁ => obj = .ref s.heap.objs.size ∧ s₁ = { s with heap := s.heap.push (set0 w) }) ⟨rfl, rfl⟩) fun r s₁ hr => ?_
  cases r with
  | error e => exact hr
  | ok fl =>
    cases fl with
    | next => exact hr.elim
    | brk => exact hr.elim
    | cont => exact hr.elim
    | ret obj =>
      obtain ⟨rfl, rfl⟩ := hr
      have hS : (s.heap.push (set0 w)).get? s.heap.objs.size = some (set0 w) := Heap.get?_push_size _ rfl
      have hT : Shared.TypeIs { s with heap := s.heap.push (set0 w) } (.ref s.heap.objs.size) "set" := ⟨_, hS, rfl⟩
      have f4 := F.called_set.init.lookup
      have f5 := F.called_set.init.bind (.ref s.heap.objs.size)
      repeat (any_goals (first | assumption | wp_step))
      refine codeAny_mono (codeAny_call_builtin (R := wants (fun r s₂ => r = .none ∧ ∃ h' tk c, s₂ = { s with heap := h', toks := tk } ∧ SetR w h' s.heap.objs.size (fun j => decide (j ∈ ns)) c ∧
          c ≤ ns.length ∧ ∀ b o, s.heap.get? b = some o → h'.get? b = some o) E) F.called_set.init.plain F.entry_set_init (check_set_init_1 hT ?_)) fun r₂ s₂ hr₂ => ?_
      · obtain ⟨⟨oc, od, odt, osl⟩, hol, hcl, nl, hdl⟩ := hl
        replace hcl : oc = .type "list" := hcl
        replace hdl : odt = .seq items nl := hdl
        subst hcl hdl
        have hol1 : (s.heap.push (set0 w)).get? l = some { cls := .type "list", dict := od, data := .seq items nl, slots := osl } := Heap.get?_push_of_some _ hol
        have f6 := F.sub_list_set
        have f7 := F.sub_list_frozenset
        have hne : (Value.type "list" == Value.type "dict") = false := by decide
        have hl1 : (s.heap.push (set0 w)).IsList l items := ⟨_, hol1, rfl, nl, rfl⟩
        unfold Builtin.«set.__init__» noKeywords Builtin.Frozenset.updateFrom
        generalize hPI : pyIter = PI
        wp_walk
        subst hPI
        refine wpAny_pyIter_list hl1 ?_
        refine wpAny_bind (wpAny_runValue ?_)
        have hlS : l < s.heap.objs.size := Heap.lt_size hol
        have hh3 : A.in1.in1.in1.handled = none := by simp [hh]
        have hsz1 : (s.heap.push (set0 w)).objs.size = s.heap.objs.size + 1 := Heap.size_push ..
        have hneI : l ≠ (s.heap.push (set0 w)).objs.size := by
          rw [hsz1]
          exact Nat.ne_of_lt (Nat.lt_succ_of_lt hlS)
        have hSf : s.heap.objs.size ∉ [(s.heap.push (set0 w)).objs.size, l] := by
          rw [hsz1]
          intro hm
          rcases List.mem_cons.mp hm with z | z
          · exact absurd z (Nat.ne_of_lt (Nat.lt_succ_self _))
          · exact absurd (List.mem_singleton.mp z) (Nat.ne_of_gt hlS)
        have hval : ∀ (i : Nat) (v : Value), items[i]? = some v → ∃ k t, ns[i]? = some k ∧ v = .int k t := fun i v hv => by
          have hi : i < ns.length := by
            rw [← hisz]
            exact (Array.getElem?_eq_some_iff.mp hv).1
          obtain ⟨t, e⟩ := IntsAre.int_at hit i v (by simpa using hv)
          exact ⟨ns[i], t, List.getElem?_eq_getElem hi, by rw [e]; simp [hi]⟩
        refine set_update_ints ((Walks.list hh3 _ l hneI items).toS) s.heap.objs.size hSf ns hisz hb hval (items.size - 0) 0 _ (by omega) (Nat.zero_le _)
          ⟨⟨_, Heap.get?_push_size _ rfl, rfl, rfl⟩, (hl1.push _)⟩ ?hA ?hB
        case hA =>
          have hget := Heap.get?_push_of_some { cls := .type "list_iterator", data := .fields #[.ref l, .int 0 0] } hS
          exact ⟨0, Nat.le_refl 0, setR_new_at hget⟩
        case hB =>
          intro s' c' hm hc' hS'
          obtain ⟨h', g2, d', tk', os'⟩ := s'
          have eg : g2 = s.gens := hm.gens
          have ed : d' = s.drawn := hm.drawn
          have eo : os' = s.os := hm.os
          subst eg ed eo
          show wpAny _ _ _ _ _ _
          refine wpAny_pure ?_
          show wpAny _ _ (ret Value.none) _ _ _
          rw [hisz] at hc'
          refine wpAny_pure ⟨rfl, h', tk', c', rfl, hS', hc', fun b o e => ?_⟩
          have hb0 : b < s.heap.objs.size := Heap.lt_size e
          have hb3 : b ∉ [s.heap.objs.size, (s.heap.push (set0 w)).objs.size] := by
            rw [hsz1]
            intro hm
            rcases List.mem_cons.mp hm with z | z
            · exact absurd z (Nat.ne_of_lt hb0)
            · exact absurd (List.mem_singleton.mp z) (Nat.ne_of_lt (Nat.lt_succ_of_lt hb0))
          exact hm.heap b o hb3 (Heap.get?_push_of_some _ (Heap.get?_push_of_some _ e))
      · cases r₂ with
        | error e => exact hr₂
        | ok fl₂ =>
          cases fl₂ with
          | next => exact hr₂.elim
          | brk => exact hr₂.elim
          | cont => exact hr₂.elim
          | ret r =>
            obtain ⟨rfl, h', tk, c', rfl, hS', hc', hk'⟩ := hr₂
            repeat (any_goals (first | assumption | wp_step))
            exact hq _ _ _ hS' hc' hk'
end
/-- set(xs), xs a list of ints: its members, at most as many as the list is long -/
def rSetOfL (K : PySem.W.Frag) (w : World) : List V → Hp → VK → Prop := fun vs H Q => ∃ (l : Addr) (ns : List Int), vs = [.ref l] ∧ SqL K H l (ns.map V.int) ∧ ns.length ≤ 4000 ∧
  ∀ p n, H p = none → n ≤ ns.length → Q (.ref p) (upd H p (SetO w p (fun j => decide (j ∈ ns)) n))
theorem cr_setL {X : Cx} (hc : X.calm = true) : CallR X (.type "set") (rSetOfL X.K X.w) := by
  intro pins s σ H vs us Q I r h
  obtain ⟨l, ns, rfl, hq, hl, q⟩ := h
  rw [Vals.ref1 r]
  obtain ⟨its, rv, pl, hz⟩ := I.list hq
  have hi := ints_of_vals rv
  refine setL_call ns (I.ok.hd hc) pl.isList (by simpa using hi) (by unfold scanBound; omega) fun h' tk c hS hcn hk => ?_
  have hn : H s.heap.objs.size = none := I.hok.fresh (Nat.le_refl _)
  exact ⟨.ref _, upd H s.heap.objs.size (SetO X.w s.heap.objs.size (fun j => decide (j ∈ ns)) c), I.laid (t' := tk) hk (Nat.le_refl _) (setO_new hS), rfl, q _ _ hn hcn⟩
end L2

set_option maxRecDepth 100000
set_option maxHeartbeats 4000000
/-! data, and what an expression evaluates to in data -/
namespace W1
open PySem L2

inductive D where
  | non | bl (b : Bool) | int (i : Int) | str (s : Str) | tup (xs : List D) | lst (xs : List D) | obj (v : V)

/-- the shape of the law's own hand: it alone changes while others look on -/
def Handy (xs : List V) : Prop := ∃ c p x s n, xs = [.ref c, .int p, .int x, .int s, .int n] ∧ 0 ≤ p ∧ 0 ≤ x
def Le (H H' : Hp) : Prop := ∀ a o, H a = some o → H' a = some o ∨
  ∃ c p x s n p' x' s' n', o = .lst [.ref c, .int p, .int x, .int s, .int n] ∧ H' a = some (.lst [.ref c, .int p', .int x', .int s', .int n']) ∧ 0 ≤ p' ∧ 0 ≤ x'
theorem Le.refl (H : Hp) : Le H H := fun _ _ h => .inl h
theorem Le.trans {H H1 H2 : Hp} (a : Le H H1) (b : Le H1 H2) : Le H H2 := fun x o h => by
  rcases a x o h with h1 | ⟨c, p, q, s, n, p', q', s', n', rfl, h1, u, v⟩
  · exact b x o h1
  · rcases b x _ h1 with h2 | ⟨c2, p2, q2, s2, n2, p3, q3, s3, n3, e, h2, u2, v2⟩
    · exact .inr ⟨c, p, q, s, n, p', q', s', n', rfl, h2, u, v⟩
    · injection e with e
      injection e with e1 e
      injection e1 with e1
      subst e1
      exact .inr ⟨c, p, q, s, n, p3, q3, s3, n3, rfl, h2, u2, v2⟩
theorem Le.ex {H H' : Hp} (e : Evl.Ex H H') : Le H H' := fun a o h => .inl (e a o h)
theorem Le.new {H : Hp} {p : Addr} {o : HO} (h : H p = none) : Le H (upd H p o) := Le.ex (Evl.Ex.new h)
/-- what H does not know may change -/
theorem Le.mut {H H' : Hp} {p : Addr} {o : HO} (e : Le H H') (h : H p = none) : Le H (upd H' p o) := fun a u ha => by
  rw [upd_ne (ne_of_none ha h)]
  exact e a u ha
theorem Le.tup {H H' : Hp} {a : Addr} {xs : List V} (e : Le H H') (h : H a = some (.tup xs)) : H' a = some (.tup xs) := by
  rcases e a _ h with h1 | ⟨_, _, _, _, _, _, _, _, _, z, _⟩
  · exact h1
  · cases z
theorem Le.ins {H H' : Hp} {a C dx : Addr} {fs : List (Str × V)} (e : Le H H') (h : H a = some (.ins C dx fs)) : H' a = some (.ins C dx fs) := by
  rcases e a _ h with h1 | ⟨_, _, _, _, _, _, _, _, _, z, _⟩
  · exact h1
  · cases z
theorem Le.frz {H H' : Hp} {a : Addr} {o : Obj} {u : HO} (e : Le H H') (h : H a = some (.frz o u)) : H' a = some (.frz o u) := by
  rcases e a _ h with h1 | ⟨_, _, _, _, _, _, _, _, _, z, _⟩
  · exact h1
  · cases z
def NotH (xs : List V) : Prop := ∀ c p x s n, xs ≠ [.ref c, .int p, .int x, .int s, .int n]
theorem Le.lst {H H' : Hp} {a : Addr} {xs : List V} (e : Le H H') (h : H a = some (.lst xs)) (n : NotH xs) : H' a = some (.lst xs) := by
  rcases e a _ h with h1 | ⟨c, p, x, s, m, _, _, _, _, z, _⟩
  · exact h1
  · injection z with z
    exact absurd z (n c p x s m)
theorem Le.sqt {K : PySem.W.Frag} {H H' : Hp} {a : Addr} {xs : List V} (e : Le H H') (h : SqT K H a xs) : SqT K H' a xs := by
  rcases h with (h | ⟨o, h⟩) | h
  · exact .inl (.inl (e.tup h))
  · exact .inl (.inr ⟨o, e.frz h⟩)
  · exact .inr h
theorem Le.fresh {H H' : Hp} {p : Addr} (e : Le H H') (h : H' p = none) : H p = none := by
  cases h1 : H p with
  | none => rfl
  | some o =>
    rcases e p o h1 with h2 | ⟨_, _, _, _, _, _, _, _, _, _, h2, _⟩
    · rw [h] at h2
      cases h2
    · rw [h] at h2
      cases h2

/-! ### what stands for data -/
mutual
inductive Rp (K : PySem.W.Frag) (H : Hp) : V → D → Prop
  | non : Rp K H .non .non
  | bl (b : Bool) : Rp K H (.bl b) (.bl b)
  | int (i : Int) : Rp K H (.int i) (.int i)
  | str (x : Str) : Rp K H (.str x) (.str x)
  | obj (v : V) : Rp K H v (.obj v)
  | tup {a : Addr} {xs : List V} {ds : List D} : SqT K H a xs → Rps K H xs ds → Rp K H (.ref a) (.tup ds)
  | lst {a : Addr} {xs : List V} {ds : List D} : H a = some (.lst xs) → NotH xs → Rps K H xs ds → Rp K H (.ref a) (.lst ds)
inductive Rps (K : PySem.W.Frag) (H : Hp) : List V → List D → Prop
  | nil : Rps K H [] []
  | cons {v : V} {vs : List V} {d : D} {ds : List D} : Rp K H v d → Rps K H vs ds → Rps K H (v :: vs) (d :: ds)
end
section
variable {K : PySem.W.Frag} {H H' : Hp}
mutual
theorem Rp.le (e : Le H H') {v : V} {d : D} : Rp K H v d → Rp K H' v d
  | .non => .non
  | .bl b => .bl b
  | .int i => .int i
  | .str x => .str x
  | .obj v => .obj v
  | .tup h r => .tup (e.sqt h) (Rps.le e r)
  | .lst h n r => .lst (e.lst h n) n (Rps.le e r)
theorem Rps.le (e : Le H H') {vs : List V} {ds : List D} : Rps K H vs ds → Rps K H' vs ds
  | .nil => .nil
  | .cons h r => .cons (Rp.le e h) (Rps.le e r)
end
theorem Rps.len : ∀ {vs : List V} {ds : List D}, Rps K H vs ds → vs.length = ds.length
  | _, _, .nil => rfl
  | _, _, .cons _ r => by rw [List.length_cons, List.length_cons, Rps.len r]
theorem Rps.at : ∀ {vs : List V} {ds : List D} {i : Nat} {d : D}, Rps K H vs ds → ds[i]? = some d → ∃ v, vs[i]? = some v ∧ Rp K H v d
  | _, _, _, _, .nil, h => by simp at h
  | _, _, 0, _, .cons h _, e => by
    simp at e
    subst e
    exact ⟨_, rfl, h⟩
  | _, _, i + 1, d, .cons _ r, e => by
    obtain ⟨v, h1, h2⟩ := Rps.at (i := i) (d := d) r (by simpa using e)
    exact ⟨v, by simpa using h1, h2⟩
theorem Rps.at' : ∀ {vs : List V} {ds : List D} {i : Nat} {v : V}, Rps K H vs ds → vs[i]? = some v → ∃ d, ds[i]? = some d ∧ Rp K H v d
  | _, _, _, _, .nil, h => by simp at h
  | _, _, 0, _, .cons h _, e => by
    simp at e
    subst e
    exact ⟨_, rfl, h⟩
  | _, _, i + 1, d, .cons _ r, e => by
    obtain ⟨v, h1, h2⟩ := Rps.at' (i := i) (v := d) r (by simpa using e)
    exact ⟨v, by simpa using h1, h2⟩
theorem Rps.app : ∀ {vs ws : List V} {ds es : List D}, Rps K H vs ds → Rps K H ws es → Rps K H (vs ++ ws) (ds ++ es)
  | _, _, _, _, .nil, s => s
  | _, _, _, _, .cons h r, s => .cons h (Rps.app r s)
theorem Rps.take : ∀ {vs : List V} {ds : List D} (n : Nat), Rps K H vs ds → Rps K H (vs.take n) (ds.take n)
  | _, _, 0, _ => .nil
  | _, _, _ + 1, .nil => .nil
  | _, _, n + 1, .cons h r => .cons h (Rps.take n r)
theorem Rps.drop : ∀ {vs : List V} {ds : List D} (n : Nat), Rps K H vs ds → Rps K H (vs.drop n) (ds.drop n)
  | _, _, 0, r => r
  | _, _, _ + 1, .nil => .nil
  | _, _, n + 1, .cons _ r => Rps.drop n r
theorem Rps.rep {v : V} {d : D} (h : Rp K H v d) : ∀ n : Nat, Rps K H (List.replicate n v) (List.replicate n d)
  | 0 => .nil
  | n + 1 => .cons h (Rps.rep h n)
theorem Rps.flat {vs : List V} {ds : List D} (h : Rps K H vs ds) : ∀ n : Nat, Rps K H (List.replicate n vs).flatten (List.replicate n ds).flatten
  | 0 => .nil
  | n + 1 => by
    rw [List.replicate_succ, List.replicate_succ, List.flatten_cons, List.flatten_cons]
    exact h.app (Rps.flat h n)
theorem Rps.set : ∀ {vs : List V} {ds : List D} {v : V} {d : D} (i : Nat), Rps K H vs ds → Rp K H v d → Rps K H (vs.set i v) (ds.set i d)
  | _, _, _, _, _, .nil, _ => .nil
  | _, _, _, _, 0, .cons _ r, h => .cons h r
  | _, _, _, _, i + 1, .cons g r, h => .cons g (Rps.set i r h)
theorem rps_ints : ∀ ns : List Int, Rps K H (ns.map V.int) (ns.map D.int)
  | [] => .nil
  | n :: ns => .cons (.int n) (rps_ints ns)
theorem ints_rps : ∀ {ns : List Int} {vs : List V}, Rps K H vs (ns.map D.int) → vs = ns.map V.int
  | [], _, h => by
    cases h
    rfl
  | n :: ns, _, h => by
    cases h with
    | cons a r =>
      cases a
      rw [ints_rps r]
      rfl
theorem rps_bls : ∀ bs : List Bool, Rps K H (bs.map V.bl) (bs.map D.bl)
  | [] => .nil
  | b :: bs => .cons (.bl b) (rps_bls bs)
theorem bls_rps : ∀ {bs : List Bool} {vs : List V}, Rps K H vs (bs.map D.bl) → vs = bs.map V.bl
  | [], _, h => by
    cases h
    rfl
  | b :: bs, _, h => by
    cases h with
    | cons a r =>
      cases a
      rw [bls_rps r]
      rfl
end
theorem notH_len {xs : List V} (h : xs.length ≠ 5) : NotH xs := fun c p x s n e => h (by rw [e]; rfl)
theorem notH_int {x : Int} {xs : List V} : NotH (.int x :: xs) := fun _ _ _ _ _ e => by injection e with e _; cases e
theorem notH_ints (ns : List Int) : NotH (ns.map V.int) := by
  cases ns with
  | nil => exact notH_len (by decide)
  | cons n ns => exact notH_int
theorem notH_bls (bs : List Bool) : NotH (bs.map V.bl) := fun c p x s n e => by
  cases bs with
  | nil => cases e
  | cons b bs =>
    injection e with e _
    cases e
/-- items that are all references, or none an int behind the first -/
theorem notH_of {xs : List V} (h : ∀ v, xs[1]? = some v → ∀ i, v ≠ .int i) : NotH xs := fun c p x s n e => by
  subst e
  exact h (.int p) rfl p rfl

/-! ### evaluation -/
abbrev Pd := D → Hp → Prop
/-- e evaluates to something that stands for data of which P holds -/
def EP (K : PySem.W.Frag) (te : TE) (σ : L2.St) (H : Hp) (P : Pd) : Prop := ∀ H1, Le H H1 → ∀ Q : VK, (∀ v d H2, Le H1 H2 → P d H2 → Rp K H2 v d → Q v H2) → te σ H1 Q
abbrev is (d : D) : Pd := fun x _ => x = d
abbrev ED (K : PySem.W.Frag) (te : TE) (σ : L2.St) (H : Hp) (d : D) : Prop := EP K te σ H (is d)
def EA (K : PySem.W.Frag) (ta : TA) (σ : L2.St) (H : Hp) (P : List D → Hp → Prop) : Prop := ∀ H1, Le H H1 → ∀ Q : List V → Hp → Prop, (∀ vs ds H2, Le H1 H2 → P ds H2 → Rps K H2 vs ds → Q vs H2) → ta σ H1 Q
abbrev EDA (K : PySem.W.Frag) (ta : TA) (σ : L2.St) (H : Hp) (ds : List D) : Prop := EA K ta σ H fun x _ => x = ds
def ET (tt : TT) (σ : L2.St) (H : Hp) (P : Bool → Prop) : Prop := ∀ H1, Le H H1 → ∀ Q : Bool → Hp → Prop, (∀ b H2, Le H1 H2 → P b → Q b H2) → tt σ H1 Q
abbrev EB (tt : TT) (σ : L2.St) (H : Hp) (b : Bool) : Prop := ET tt σ H fun x => x = b
def EO (to : TO) (σ : L2.St) (H : Hp) (o : Option Int) : Prop := ∀ H1, Le H H1 → ∀ Q : Option Int → Hp → Prop, (∀ H2, Le H1 H2 → Q o H2) → to σ H1 Q

section
variable {K : PySem.W.Frag} {σ : L2.St} {H H' : Hp} {ta tb tc te : TE} {t u : TT} {x y z v : V} {d d1 d2 d3 : D} {P P1 P2 P3 : Pd}
theorem EP.le (e : Le H H') (h : EP K te σ H P) : EP K te σ H' P := fun H1 a Q q => h H1 (e.trans a) Q q
theorem EA.le {ta : TA} {P : List D → Hp → Prop} (e : Le H H') (h : EA K ta σ H P) : EA K ta σ H' P := fun H1 a Q q => h H1 (e.trans a) Q q
theorem ET.le {P : Bool → Prop} (e : Le H H') (h : ET t σ H P) : ET t σ H' P := fun H1 a Q q => h H1 (e.trans a) Q q
theorem EP.weak (h : EP K te σ H P) (w : ∀ d H2, Le H H2 → P d H2 → P1 d H2) : EP K te σ H P1 := fun H1 a Q q => h H1 a Q fun v d H2 b p r => q v d H2 b (w d H2 (a.trans b) p) r
theorem ed_eq (h : ED K te σ H d) (e : d = d1) : ED K te σ H d1 := e ▸ h
theorem eb_eq {a b : Bool} (h : EB t σ H a) (e : a = b) : EB t σ H b := e ▸ h
/-- then: what comes behind may lean on what was found -/
theorem ed_var {i : Nat} (h : σ[i]? = some (some v)) (r : Rp K H v d) : ED K (tVar i) σ H d := fun H1 e Q q => ⟨v, h, q v d H1 (Le.refl _) rfl (r.le e)⟩
theorem ed_int {i : Int} : ED K (tC (.int i)) σ H (.int i) := fun H1 _ Q q => q _ _ H1 (Le.refl _) rfl (.int i)
theorem ed_bl {b : Bool} : ED K (tC (.bl b)) σ H (.bl b) := fun H1 _ Q q => q _ _ H1 (Le.refl _) rfl (.bl b)
theorem ed_str {s : Str} : ED K (tC (.str s)) σ H (.str s) := fun H1 _ Q q => q _ _ H1 (Le.refl _) rfl (.str s)
theorem ed_non : ED K (tC .non) σ H .non := fun H1 _ Q q => q _ _ H1 (Le.refl _) rfl .non
theorem ed_obj : ED K (tC v) σ H (.obj v) := fun H1 _ Q q => q _ _ H1 (Le.refl _) rfl (.obj v)
/-- two operands -/
theorem ep_op {r : R2} (ha : EP K ta σ H P1) (hb : EP K tb σ H P2)
    (hr : ∀ x y d1 d2 H1 H2, Le H H1 → Le H1 H2 → P1 d1 H1 → P2 d2 H2 → Rp K H2 x d1 → Rp K H2 y d2 → ∀ Q : VK, (∀ v d H3, Le H2 H3 → P d H3 → Rp K H3 v d → Q v H3) → r x y H2 Q) : EP K (tOp r ta tb) σ H P := fun H1 e Q q =>
  ha H1 e _ fun x d1 H2 e2 p1 r1 => hb H2 (e.trans e2) _ fun y d2 H3 e3 p2 r2 =>
    hr x y d1 d2 H2 H3 (e.trans e2) e3 p1 p2 (r1.le e3) r2 Q fun v d H4 e4 p r => q v d H4 ((e2.trans e3).trans e4) p r
theorem ed_op {r : R2} (ha : ED K ta σ H d1) (hb : ED K tb σ H d2)
    (hr : ∀ x y H2, Le H H2 → Rp K H2 x d1 → Rp K H2 y d2 → ∀ Q : VK, (∀ v d H3, Le H2 H3 → P d H3 → Rp K H3 v d → Q v H3) → r x y H2 Q) : EP K (tOp r ta tb) σ H P :=
  ep_op ha hb fun x y e1 e2 H1 H2 a b p1 p2 r1 r2 => by
    subst p1 p2
    exact hr x y H2 (a.trans b) r1 r2
theorem ed_un {r : V → Hp → VK → Prop} (ha : ED K ta σ H d1)
    (hr : ∀ x H2, Le H H2 → Rp K H2 x d1 → ∀ Q : VK, (∀ v d H3, Le H2 H3 → P d H3 → Rp K H3 v d → Q v H3) → r x H2 Q) : EP K (tUn r ta) σ H P := fun H1 e Q q =>
  ha H1 e _ fun x e1 H2 e2 p1 r1 => by
    have p2 : e1 = d1 := p1
    subst p2
    exact hr x H2 (e.trans e2) r1 Q fun v d H4 e4 p r => q v d H4 (e2.trans e4) p r
theorem rp_int {i : Int} (r : Rp K H v (.int i)) : v = .int i := by
  cases r
  rfl
theorem rp_bl {b : Bool} (r : Rp K H v (.bl b)) : v = .bl b := by
  cases r
  rfl
theorem rp_str {s : Str} (r : Rp K H v (.str s)) : v = .str s := by
  cases r
  rfl
theorem rp_non (r : Rp K H v .non) : v = .non := by
  cases r
  rfl
theorem rp_obj {w : V} (r : Rp K H v (.obj w)) : v = w := by
  cases r
  rfl
/-- two ints -/
theorem ep_I0 {g : Int → Int → V} (ha : EP K ta σ H P1) (hb : EP K tb σ H P2)
    (h : ∀ d1 d2 H1 H2, Le H H1 → Le H1 H2 → P1 d1 H1 → P2 d2 H2 → ∃ i j, d1 = .int i ∧ d2 = .int j ∧ ∃ d, P d H2 ∧ Rp K H2 (g i j) d) : EP K (tOp (rI0 g) ta tb) σ H P :=
  ep_op ha hb fun x y d1 d2 H1 H2 a b p1 p2 r1 r2 Q q => by
    obtain ⟨i, j, rfl, rfl, d, p, r⟩ := h d1 d2 H1 H2 a b p1 p2
    exact ⟨i, j, rp_int r1, rp_int r2, q _ d H2 (Le.refl _) p r⟩
theorem ep_I {C : Int → Int → Prop} {g : Int → Int → V} (ha : EP K ta σ H P1) (hb : EP K tb σ H P2)
    (h : ∀ d1 d2 H1 H2, Le H H1 → Le H1 H2 → P1 d1 H1 → P2 d2 H2 → ∃ i j, d1 = .int i ∧ d2 = .int j ∧ C i j ∧ ∃ d, P d H2 ∧ Rp K H2 (g i j) d) : EP K (tOp (rI C g) ta tb) σ H P :=
  ep_op ha hb fun x y d1 d2 H1 H2 a b p1 p2 r1 r2 Q q => by
    obtain ⟨i, j, rfl, rfl, c, d, p, r⟩ := h d1 d2 H1 H2 a b p1 p2
    exact ⟨i, j, rp_int r1, rp_int r2, c, q _ d H2 (Le.refl _) p r⟩
theorem ed_I0 {f : Int → Int → Int} {i j : Int} (ha : ED K ta σ H (.int i)) (hb : ED K tb σ H (.int j)) : ED K (tOp (rI0 fun i j => .int (f i j)) ta tb) σ H (.int (f i j)) :=
  ep_I0 ha hb fun d1 d2 H1 H2 _ _ p1 p2 => ⟨i, j, p1, p2, _, rfl, .int _⟩
theorem ed_B0 {f : Int → Int → Bool} {i j : Int} (ha : ED K ta σ H (.int i)) (hb : ED K tb σ H (.int j)) : ED K (tOp (rI0 fun i j => .bl (f i j)) ta tb) σ H (.bl (f i j)) :=
  ep_I0 ha hb fun d1 d2 H1 H2 _ _ p1 p2 => ⟨i, j, p1, p2, _, rfl, .bl _⟩
theorem ed_I {C : Int → Int → Prop} {f : Int → Int → Int} {i j : Int} (ha : ED K ta σ H (.int i)) (hb : ED K tb σ H (.int j)) (c : C i j) : ED K (tOp (rI C fun i j => .int (f i j)) ta tb) σ H (.int (f i j)) :=
  ep_I ha hb fun d1 d2 H1 H2 _ _ p1 p2 => ⟨i, j, p1, p2, c, _, rfl, .int _⟩
theorem ed_neg {i : Int} (ha : ED K ta σ H (.int i)) : ED K (tUn (rU fun i => .int (-i)) ta) σ H (.int (-i)) :=
  ed_un ha fun x H2 _ r Q q => ⟨i, rp_int r, q _ _ H2 (Le.refl _) rfl (.int _)⟩
/-- flat data: equal just if equal -/
def vOf : D → V
  | .non => .non
  | .bl b => .bl b
  | .int i => .int i
  | .str s => .str s
  | .obj v => v
  | _ => .non
def flat : D → Bool
  | .tup _ => false
  | .lst _ => false
  | _ => true
theorem rp_flat (h : flat d = true) (r : Rp K H v d) : v = vOf d := by
  cases r <;> first | rfl | cases h
theorem flat_rp (h : flat d = true) : Rp K H (vOf d) d := by
  cases d with
  | non => exact .non
  | bl b => exact .bl b
  | int i => exact .int i
  | str s => exact .str s
  | obj v => exact .obj v
  | tup xs => cases h
  | lst xs => cases h
theorem ed_eqS (ha : ED K ta σ H d1) (hb : ED K tb σ H d2) (f1 : flat d1 = true) (f2 : flat d2 = true) (hs : scal (vOf d1) (vOf d2) = true) : ED K (tOp rEq ta tb) σ H (.bl (decide (vOf d1 = vOf d2))) :=
  ed_op ha hb fun x y H2 _ r1 r2 Q q => by
    rw [rp_flat f1 r1, rp_flat f2 r2]
    exact ⟨hs, q _ _ H2 (Le.refl _) rfl (.bl _)⟩
theorem ed_neS (ha : ED K ta σ H d1) (hb : ED K tb σ H d2) (f1 : flat d1 = true) (f2 : flat d2 = true) (hs : scal (vOf d1) (vOf d2) = true) : ED K (tOp rNe ta tb) σ H (.bl (!decide (vOf d1 = vOf d2))) :=
  ed_op ha hb fun x y H2 _ r1 r2 Q q => by
    rw [rp_flat f1 r1, rp_flat f2 r2]
    exact ⟨hs, q _ _ H2 (Le.refl _) rfl (.bl _)⟩
theorem ed_isN (ha : ED K ta σ H d1) (n : ∀ v, d1 ≠ .obj v) : ED K (tOp (fun x y H Q => y = .non ∧ Q (.bl (decide (x = .non))) H) ta (tC .non)) σ H (.bl (match d1 with | .non => true | _ => false)) :=
  ed_op ha ed_non fun x y H2 _ r1 r2 Q q => by
    refine ⟨rp_non r2, ?_⟩
    cases r1 with
    | obj v => exact absurd rfl (n x)
    | _ => exact q _ _ H2 (Le.refl _) rfl (.bl _)
theorem ed_notN (ha : ED K ta σ H d1) (n : ∀ v, d1 ≠ .obj v) : ED K (tOp (fun x y H Q => y = .non ∧ Q (.bl (!decide (x = .non))) H) ta (tC .non)) σ H (.bl (match d1 with | .non => false | _ => true)) :=
  ed_op ha ed_non fun x y H2 _ r1 r2 Q q => by
    refine ⟨rp_non r2, ?_⟩
    cases r1 with
    | obj v => exact absurd rfl (n x)
    | _ => exact q _ _ H2 (Le.refl _) rfl (.bl _)
/-! tuples and lists -/
theorem rp_tup {ds : List D} (r : Rp K H v (.tup ds)) : ∃ a xs, v = .ref a ∧ SqT K H a xs ∧ Rps K H xs ds := by
  cases r with
  | tup h r => exact ⟨_, _, rfl, h, r⟩
theorem rp_lst {ds : List D} (r : Rp K H v (.lst ds)) : ∃ a xs, v = .ref a ∧ H a = some (.lst xs) ∧ NotH xs ∧ Rps K H xs ds := by
  cases r with
  | lst h n r => exact ⟨_, _, rfl, h, n, r⟩
theorem atI_rps {xs : List V} {ds : List D} {i : Int} (r : Rps K H xs ds) (h : 0 ≤ i) (e : ds[i.toNat]? = some d) : ∃ v, atI xs i = some v ∧ Rp K H v d := by
  obtain ⟨v, h1, h2⟩ := r.at e
  have ei : i = (i.toNat : Int) := by omega
  rw [ei]
  exact ⟨v, atI_nat h1, h2⟩
theorem ed_ixT {ds : List D} {i : Int} (ha : ED K ta σ H (.tup ds)) (hb : ED K tb σ H (.int i)) (h : 0 ≤ i) (e : ds[i.toNat]? = some d) : ED K (tOp (rIxT K) ta tb) σ H d :=
  ed_op ha hb fun x y H2 _ r1 r2 Q q => by
    obtain ⟨a, xs, rfl, s, r⟩ := rp_tup r1
    obtain ⟨v, h1, h2⟩ := atI_rps r h e
    exact ⟨a, xs, i, v, rfl, rp_int r2, s, h1, q v d H2 (Le.refl _) rfl h2⟩
theorem ed_ixL {ds : List D} {i : Int} (ha : ED K ta σ H (.lst ds)) (hb : ED K tb σ H (.int i)) (h : 0 ≤ i) (e : ds[i.toNat]? = some d) : ED K (tOp (rIxL K) ta tb) σ H d :=
  ed_op ha hb fun x y H2 _ r1 r2 Q q => by
    obtain ⟨a, xs, rfl, s, _, r⟩ := rp_lst r1
    obtain ⟨v, h1, h2⟩ := atI_rps r h e
    exact ⟨a, xs, i, v, rfl, rp_int r2, SqL.of s, h1, q v d H2 (Le.refl _) rfl h2⟩
theorem ea_nil : EDA K tNil σ H [] := fun H1 _ Q q => q [] [] H1 (Le.refl _) rfl .nil
theorem ep_cons {tr : TA} {PA : List D → Hp → Prop} (h : EP K ta σ H P) (hr : EA K tr σ H PA) : EA K (tCons ta tr) σ H (fun ds H2 => ∃ d r H1, ds = d :: r ∧ Le H1 H2 ∧ P d H1 ∧ PA r H2) := fun H1 e Q q =>
  h H1 e _ fun x d H2 e2 p r => hr H2 (e.trans e2) _ fun xs ds H3 e3 p3 r3 => q _ (d :: ds) H3 (e2.trans e3) ⟨d, ds, H2, rfl, e3, p, p3⟩ (.cons (r.le e3) r3)
theorem ea_cons {tr : TA} {ds : List D} (h : ED K ta σ H d) (hr : EDA K tr σ H ds) : EDA K (tCons ta tr) σ H (d :: ds) := fun H1 e Q q =>
  h H1 e _ fun x d' H2 e2 p r => hr H2 (e.trans e2) _ fun xs ds' H3 e3 p3 r3 => q _ (d' :: ds') H3 (e2.trans e3) (by rw [show d' = d from p, show ds' = ds from p3]) (.cons (r.le e3) r3)
theorem ep_tup {ta : TA} {PA : List D → Hp → Prop} (h : EA K ta σ H PA) (hl : ∀ ds H2, PA ds H2 → ds.length ≤ 100000) (hP : ∀ ds H2, PA ds H2 → ∀ H3, Le H2 H3 → P (.tup ds) H3) : EP K (tTup ta) σ H P := fun H1 e Q q =>
  h H1 e _ fun xs ds H2 e2 p r => ⟨by rw [r.len]; exact Evl.sz_of (hl ds H2 p), fun a na => q _ (.tup ds) _ (e2.trans (Le.new na)) (hP ds H2 p _ (Le.new na)) (.tup (Evl.st_of upd_same) (r.le (Le.new na)))⟩
theorem ed_tup {ta : TA} {ds : List D} (h : EDA K ta σ H ds) (hl : ds.length ≤ 100000) : ED K (tTup ta) σ H (.tup ds) :=
  ep_tup h (fun ds' H2 p => by rw [show ds' = ds from p]; exact hl) fun ds' H2 p H3 _ => by rw [show ds' = ds from p]
theorem ep_lst {ta : TA} {PA : List D → Hp → Prop} (h : EA K ta σ H PA) (hl : ∀ ds H2, PA ds H2 → ds.length ≤ 100000) (hn : ∀ ds H2 xs, PA ds H2 → Rps K H2 xs ds → NotH xs) (hP : ∀ ds H2, PA ds H2 → ∀ H3, Le H2 H3 → P (.lst ds) H3) : EP K (tLst ta) σ H P := fun H1 e Q q =>
  h H1 e _ fun xs ds H2 e2 p r => ⟨by rw [r.len]; exact Evl.sz_of (hl ds H2 p), fun a na => q _ (.lst ds) _ (e2.trans (Le.new na)) (hP ds H2 p _ (Le.new na)) (.lst upd_same (hn ds H2 xs p r) (r.le (Le.new na)))⟩
/-- what data can't be a hand -/
def calmL : List D → Bool
  | [.obj _, .int _, .int _, .int _, .int _] => false
  | [.tup _, .int _, .int _, .int _, .int _] => false
  | [.lst _, .int _, .int _, .int _, .int _] => false
  | [_, .obj _, _, _, _] => false
  | [_, _, .obj _, _, _] => false
  | [_, _, _, .obj _, _] => false
  | [_, _, _, _, .obj _] => false
  | _ => true
theorem calm_notH {xs : List V} {ds : List D} (h : calmL ds = true) (r : Rps K H xs ds) : NotH xs := fun c p x s n e => by
  subst e
  cases r with
  | cons r1 r =>
    cases r with
    | cons r2 r =>
      cases r with
      | cons r3 r =>
        cases r with
        | cons r4 r =>
          cases r with
          | cons r5 r =>
            cases r
            cases r2 <;> cases r3 <;> cases r4 <;> cases r5 <;> cases r1 <;> cases h
theorem ed_lst {ta : TA} {ds : List D} (h : EDA K ta σ H ds) (hl : ds.length ≤ 100000) (hc : calmL ds = true) : ED K (tLst ta) σ H (.lst ds) :=
  ep_lst h (fun ds' H2 p => by rw [show ds' = ds from p]; exact hl) (fun ds' H2 xs p r => by rw [show ds' = ds from p] at r; exact calm_notH hc r) fun ds' H2 p H3 _ => by rw [show ds' = ds from p]
theorem ed_lenT {ds : List D} (ha : ED K ta σ H (.tup ds)) : ED K (tCB (fun xs H Q => ∃ p ys, xs = [.ref p] ∧ (SqL K H p ys ∨ SqT K H p ys) ∧ Q (.int ys.length) H) (tCons ta tNil)) σ H (.int (ds.length : Int)) := fun H1 e Q q =>
  ha H1 e _ fun x d H2 e2 p r => by
    have p' : d = .tup ds := p
    subst p'
    obtain ⟨a, xs, rfl, s, r'⟩ := rp_tup r
    exact ⟨a, xs, rfl, .inr s, q _ _ H2 e2 (by rw [r'.len]) (.int _)⟩
theorem ed_lenL {ds : List D} (ha : ED K ta σ H (.lst ds)) : ED K (tCB (fun xs H Q => ∃ p ys, xs = [.ref p] ∧ (SqL K H p ys ∨ SqT K H p ys) ∧ Q (.int ys.length) H) (tCons ta tNil)) σ H (.int (ds.length : Int)) := fun H1 e Q q =>
  ha H1 e _ fun x d H2 e2 p r => by
    have p' : d = .lst ds := p
    subst p'
    obtain ⟨a, xs, rfl, s, _, r'⟩ := rp_lst r
    exact ⟨a, xs, rfl, .inl (SqL.of s), q _ _ H2 e2 (by rw [r'.len]) (.int _)⟩
/-! tests -/
theorem et_test {b : Bool} (h : ED K te σ H (.bl b)) : EB (tTest te) σ H b := fun H1 e Q q => h H1 e _ fun v d H2 e2 p r => by
  have p' : d = .bl b := p
  subst p'
  exact ⟨b, rp_bl r, q b H2 e2 rfl⟩
theorem et_B {b : Bool} (h : ED K te σ H (.bl b)) : EB (tB te) σ H b := fun H1 e Q q => h H1 e _ fun v d H2 e2 p r => by
  have p' : d = .bl b := p
  subst p'
  exact ⟨b, rp_bl r, q b H2 e2 rfl⟩
theorem et_Bp (h : EP K te σ H fun d _ => ∃ b, d = .bl b) : ET (tB te) σ H fun _ => True := fun H1 e Q q => h H1 e _ fun v d H2 e2 p r => by
  obtain ⟨b, rfl⟩ := p
  exact ⟨b, rp_bl r, q b H2 e2 trivial⟩
theorem et_testp (h : EP K te σ H fun d _ => ∃ b, d = .bl b) : ET (tTest te) σ H fun _ => True := fun H1 e Q q => h H1 e _ fun v d H2 e2 p r => by
  obtain ⟨b, rfl⟩ := p
  exact ⟨b, rp_bl r, q b H2 e2 trivial⟩
theorem eb_and {a b : Bool} (h1 : EB t σ H a) (h2 : a = true → EB u σ H b) : EB (tAnd t u) σ H (a && b) := fun H1 e Q q => h1 H1 e _ fun x H2 e2 p => by
  subst p
  cases x with
  | true =>
    show u σ H2 Q
    exact h2 rfl H2 (e.trans e2) Q fun y H3 e3 p3 => q y H3 (e2.trans e3) p3
  | false =>
    show Q false H2
    exact q false H2 e2 rfl
theorem eb_or {a b : Bool} (h1 : EB t σ H a) (h2 : a = false → EB u σ H b) : EB (tOr t u) σ H (a || b) := fun H1 e Q q => h1 H1 e _ fun x H2 e2 p => by
  subst p
  cases x with
  | true =>
    show Q true H2
    exact q true H2 e2 rfl
  | false =>
    show u σ H2 Q
    exact h2 rfl H2 (e.trans e2) Q fun y H3 e3 p3 => q y H3 (e2.trans e3) p3
theorem et_and {P1 P2 : Bool → Prop} (h1 : ET t σ H P1) (h2 : P1 true → ET u σ H P2) : ET (tAnd t u) σ H (fun b => (b = true ∧ P1 true ∧ P2 true) ∨ (b = false ∧ (P1 false ∨ P1 true ∧ P2 false))) := fun H1 e Q q => h1 H1 e _ fun x H2 e2 p => by
  cases x with
  | true =>
    show u σ H2 Q
    refine h2 p H2 (e.trans e2) Q fun y H3 e3 p3 => q y H3 (e2.trans e3) ?_
    cases y with
    | true => exact .inl ⟨rfl, p, p3⟩
    | false => exact .inr ⟨rfl, .inr ⟨p, p3⟩⟩
  | false =>
    show Q false H2
    exact q false H2 e2 (.inr ⟨rfl, .inl p⟩)
theorem et_weak {P1 P2 : Bool → Prop} (h : ET t σ H P1) (w : ∀ b, P1 b → P2 b) : ET t σ H P2 := fun H1 e Q q => h H1 e Q fun b H2 e2 p => q b H2 e2 (w b p)
theorem eb_not {a : Bool} (h : EB t σ H a) : EB (tNot t) σ H (!a) := fun H1 e Q q => h H1 e _ fun x H2 e2 p => q (!x) H2 e2 (by rw [p])
theorem ed_andV {a b : Bool} (h1 : ED K ta σ H (.bl a)) (h2 : a = true → ED K tb σ H (.bl b)) : ED K (tAndV ta tb) σ H (.bl (a && b)) := fun H1 e Q q => h1 H1 e _ fun v d H2 e2 p r => by
  have p' : d = .bl a := p
  subst p'
  refine ⟨a, rp_bl r, ?_⟩
  cases a with
  | true =>
    show tb σ H2 Q
    exact h2 rfl H2 (e.trans e2) Q fun v d H3 e3 p3 r3 => q v d H3 (e2.trans e3) p3 r3
  | false =>
    show Q (.bl false) H2
    exact q _ _ H2 e2 rfl (.bl false)
theorem ed_orV {a b : Bool} (h1 : ED K ta σ H (.bl a)) (h2 : a = false → ED K tb σ H (.bl b)) : ED K (tOrV ta tb) σ H (.bl (a || b)) := fun H1 e Q q => h1 H1 e _ fun v d H2 e2 p r => by
  have p' : d = .bl a := p
  subst p'
  refine ⟨a, rp_bl r, ?_⟩
  cases a with
  | true =>
    show Q (.bl true) H2
    exact q _ _ H2 e2 rfl (.bl true)
  | false =>
    show tb σ H2 Q
    exact h2 rfl H2 (e.trans e2) Q fun v d H3 e3 p3 r3 => q v d H3 (e2.trans e3) p3 r3
theorem ed_notV {a : Bool} (h : ED K ta σ H (.bl a)) : ED K (tNotV ta) σ H (.bl (!a)) := fun H1 e Q q => h H1 e _ fun v d H2 e2 p r => by
  have p' : d = .bl a := p
  subst p'
  exact ⟨a, rp_bl r, q _ _ H2 e2 rfl (.bl _)⟩
theorem ep_if {b : Bool} (h : EB t σ H b) (h1 : b = true → EP K ta σ H P) (h2 : b = false → EP K tb σ H P) : EP K (tIf t ta tb) σ H P := fun H1 e Q q => h H1 e _ fun x H2 e2 p => by
  subst p
  cases x with
  | true =>
    show ta σ H2 Q
    exact h1 rfl H2 (e.trans e2) Q fun v d H3 e3 p3 r3 => q v d H3 (e2.trans e3) p3 r3
  | false =>
    show tb σ H2 Q
    exact h2 rfl H2 (e.trans e2) Q fun v d H3 e3 p3 r3 => q v d H3 (e2.trans e3) p3 r3
/-- a <= b <= c, and the like -/
theorem ed_chain {f g : Int → Int → Bool} {i j k : Int} (ha : ED K ta σ H (.int i)) (hb : ED K tb σ H (.int j)) (hc : ED K tc σ H (.int k)) :
    ED K (tChain (rI0 fun i j => .bl (f i j)) (rI0 fun i j => .bl (g i j)) ta tb tc) σ H (.bl (f i j && g j k)) := fun H1 e Q q =>
  ha H1 e _ fun x d1 H2 e2 p1 r1 => hb H2 (e.trans e2) _ fun y d2 H3 e3 p2 r2 => by
    have p1' : d1 = .int i := p1
    have p2' : d2 = .int j := p2
    subst p1' p2'
    refine ⟨i, j, rp_int r1, rp_int r2, f i j, rfl, ?_⟩
    cases hf : f i j with
    | true =>
      show tc σ H3 _
      refine hc H3 ((e.trans e2).trans e3) _ fun z d3 H4 e4 p3 r3 => ?_
      have p3' : d3 = .int k := p3
      subst p3'
      exact ⟨j, k, rp_int r2, rp_int r3, q (.bl (g j k)) (.bl (g j k)) H4 ((e2.trans e3).trans e4) (by show D.bl _ = D.bl _; rw [hf, Bool.true_and]) (.bl _)⟩
    | false =>
      show Q (.bl false) H3
      exact q (.bl false) (.bl false) H3 (e2.trans e3) (by show D.bl _ = D.bl _; rw [hf, Bool.false_and]) (.bl false)
/-! calls -/
/-- a promise told in data: R args heap P says that the answer's data has P -/
def spD (K : PySem.W.Frag) (R : List D → Hp → Pd → Prop) : Sp := fun vs H Q _ => ∃ ds P, Rps K H vs ds ∧ R ds H P ∧ ∀ v d H2, Le H H2 → P d H2 → Rp K H2 v d → Q v H2
theorem ep_call {R : List D → Hp → Pd → Prop} {E : XK} {ta : TA} {PA : List D → Hp → Prop} (h : EA K ta σ H PA) (hr : ∀ ds H2, Le H H2 → PA ds H2 → ∃ P1, R ds H2 P1 ∧ ∀ d H3, Le H2 H3 → P1 d H3 → P d H3) : EP K (tCall (spD K R) [] E ta) σ H P := fun H1 e Q q =>
  h H1 e _ fun vs ds H2 e2 p r => by
    obtain ⟨P1, h1, w⟩ := hr ds H2 (e.trans e2) p
    exact ⟨ds, P1, by rw [List.append_nil]; exact r, h1, fun v d H3 e3 p3 r3 => q v d H3 (e2.trans e3) (w d H3 e3 p3) r3⟩
theorem ed_call {R : List D → Hp → Pd → Prop} {E : XK} {ta : TA} {ds : List D} (h : EDA K ta σ H ds) (hr : ∀ H2, Le H H2 → R ds H2 P) : EP K (tCall (spD K R) [] E ta) σ H P :=
  ep_call h fun ds' H2 e p => by
    have p' : ds' = ds := p
    subst p'
    exact ⟨P, hr H2 e, fun _ _ _ x => x⟩
end
end W1

set_option maxRecDepth 100000
set_option maxHeartbeats 4000000
/-! statements, loops, comprehensions, built-ins in data -/
namespace W1
open PySem L2

/-- no list within -/
inductive NoL : D → Prop
  | non : NoL .non
  | bl (b : Bool) : NoL (.bl b)
  | int (i : Int) : NoL (.int i)
  | str (s : Str) : NoL (.str s)
  | obj (v : V) : NoL (.obj v)
  | tup {ds : List D} : (∀ d ∈ ds, NoL d) → NoL (.tup ds)
section
variable {K : PySem.W.Frag} {H H' : Hp}
theorem sqt_upd {a l : Addr} {xs : List V} {o : HO} (hl : ∀ ys, H l ≠ some (.tup ys)) (hz : ∀ ob u, H l ≠ some (.frz ob u)) (h : SqT K H a xs) : SqT K (upd H l o) a xs := by
  rcases h with (h | ⟨ob, h⟩) | h
  · have n : a ≠ l := fun e => hl xs (e ▸ h)
    exact .inl (.inl (by rw [upd_ne n]; exact h))
  · have n : a ≠ l := fun e => hz ob _ (e ▸ h)
    exact .inl (.inr ⟨ob, by rw [upd_ne n]; exact h⟩)
  · exact .inr h
mutual
/-- a list changes: what holds no list stands -/
theorem Rp.upd {l : Addr} {ys : List V} {o : HO} (hl : H l = some (.lst ys)) {v : V} {d : D} (n : NoL d) : Rp K H v d → Rp K (L2.upd H l o) v d
  | .non => .non
  | .bl b => .bl b
  | .int i => .int i
  | .str x => .str x
  | .obj v => .obj v
  | .tup h r => .tup (sqt_upd (fun ys e => by rw [hl] at e; cases e) (fun ob u e => by rw [hl] at e; cases e) h) (Rps.upd hl (by cases n with | tup n => exact n) r)
  | .lst h _ r => nomatch n
theorem Rps.upd {l : Addr} {ys : List V} {o : HO} (hl : H l = some (.lst ys)) {vs : List V} {ds : List D} (n : ∀ d ∈ ds, NoL d) : Rps K H vs ds → Rps K (L2.upd H l o) vs ds
  | .nil => .nil
  | .cons h r => .cons (Rp.upd hl (n _ (List.mem_cons_self ..)) h) (Rps.upd hl (fun d hd => n d (List.mem_cons_of_mem _ hd)) r)
end
/-- data whose lists can't be a hand: all ints, or no int at all -/
def Uni (ds : List D) : Prop := (∀ d ∈ ds, ∃ i, d = .int i) ∨ ∀ d ∈ ds, (∀ i, d ≠ .int i) ∧ ∀ v, d ≠ .obj v
theorem Uni.notH {ds : List D} {vs : List V} (u : Uni ds) (r : Rps K H vs ds) : NotH vs := fun c p x s n e => by
  subst e
  cases r with
  | @cons _ _ d1 ds1 r1 r =>
    cases r with
    | @cons _ _ d2 ds2 r2 r =>
      rcases u with u | u
      · obtain ⟨i, e⟩ := u d1 (List.mem_cons_self ..)
        subst e
        cases r1
      · obtain ⟨h1, h2⟩ := u d2 (List.mem_cons_of_mem _ (List.mem_cons_self ..))
        cases r2 with
        | int i => exact h1 _ rfl
        | obj v => exact h2 _ rfl
theorem Uni.app {ds : List D} {d : D} (u : Uni (ds ++ [d])) : Uni ds := by
  rcases u with u | u
  · exact .inl fun x hx => u x (List.mem_append_left _ hx)
  · exact .inr fun x hx => u x (List.mem_append_left _ hx)
theorem uni_ints (ns : List Int) : Uni (ns.map D.int) := .inl fun d hd => by
  obtain ⟨i, _, rfl⟩ := List.mem_map.mp hd
  exact ⟨i, rfl⟩
theorem noL_ints (ns : List Int) : ∀ d ∈ ns.map D.int, NoL d := fun d hd => by
  obtain ⟨i, _, rfl⟩ := List.mem_map.mp hd
  exact .int i
end

/-! ### statements -/
section
variable {K : PySem.W.Frag} {σ : L2.St} {H H' : Hp} {ta tb tc te : TE} {t u : TT} {x y z v : V} {d d1 d2 d3 : D} {P P1 P2 P3 : Pd} {D1 : Ends} {tu tw : TS} {g : TG}
theorem s_asg {i : Nat} (h : EP K te σ H P) (k : ∀ v d H1, Le H H1 → P d H1 → Rp K H1 v d → D1.nx (σ.set i (some v)) H1) : tAsg te (gName i) D1 σ H := h H (Le.refl _) _ k
theorem s_asgD {i : Nat} (h : ED K te σ H d) (k : ∀ v H1, Le H H1 → Rp K H1 v d → D1.nx (σ.set i (some v)) H1) : tAsg te (gName i) D1 σ H := h H (Le.refl _) _ fun v d' H1 e p r => by
  have p' : d' = d := p
  subst p'
  exact k v H1 e r
theorem s_tup2 {i j : Nat} (h : ED K te σ H (.tup [d1, d2])) (k : ∀ v w H1, Le H H1 → Rp K H1 v d1 → Rp K H1 w d2 → D1.nx ((σ.set i (some v)).set j (some w)) H1) : tAsg te (gTup K 2 (gCons (gName i) (gCons (gName j) gNil))) D1 σ H := h H (Le.refl _) _ fun v d' H1 e p r => by
  have p' : d' = .tup [d1, d2] := p
  subst p'
  obtain ⟨a, xs, rfl, s, r⟩ := rp_tup r
  cases r with
  | cons r1 r =>
    cases r with
    | cons r2 r =>
      cases r
      exact ⟨a, _, rfl, s, rfl, _, _, rfl, _, _, rfl, rfl, k _ _ H1 e r1 r2⟩
theorem s_tup3 {i j l : Nat} {PA : List D → Hp → Prop} {ta : TA} (h : EA K ta σ H PA) (hl : ∀ ds H1, PA ds H1 → ds.length = 3)
    (k : ∀ v w u d1 d2 d3 H1, Le H H1 → PA [d1, d2, d3] H1 → Rp K H1 v d1 → Rp K H1 w d2 → Rp K H1 u d3 → ∀ H2, Le H1 H2 → D1.nx (((σ.set i (some v)).set j (some w)).set l (some u)) H2) : tAsg (tTup ta) (gTup K 3 (gCons (gName i) (gCons (gName j) (gCons (gName l) gNil)))) D1 σ H := h H (Le.refl _) _ fun vs ds H1 e p r => by
  have l3 := hl ds H1 p
  refine ⟨by rw [r.len, l3]; decide, fun a na => ?_⟩
  cases r with
  | nil => cases l3
  | cons r1 r =>
    cases r with
    | nil => cases l3
    | cons r2 r =>
      cases r with
      | nil => cases l3
      | cons r3 r =>
        cases r with
        | cons _ _ =>
          simp at l3
        | nil => exact ⟨a, _, rfl, Evl.st_of upd_same, rfl, _, _, rfl, _, _, rfl, _, _, rfl, rfl, k _ _ _ _ _ _ H1 e p r1 r2 r3 _ (Le.new na)⟩
theorem s_par2 {i j : Nat} {ta : TA} {PA : List D → Hp → Prop} (h : EA K ta σ H PA) (hl : ∀ ds H1, PA ds H1 → ds.length = 2)
    (k : ∀ v w d1 d2 H1, Le H H1 → PA [d1, d2] H1 → Rp K H1 v d1 → Rp K H1 w d2 → D1.nx ((σ.set i (some v)).set j (some w)) H1) : tPar i j ta D1 σ H := h H (Le.refl _) _ fun vs ds H1 e p r => by
  have l2 := hl ds H1 p
  cases r with
  | nil => cases l2
  | cons r1 r =>
    cases r with
    | nil => cases l2
    | cons r2 r =>
      cases r with
      | nil => exact ⟨_, _, rfl, k _ _ _ _ H1 e p r1 r2⟩
      | cons _ _ => simp at l2
theorem s_ret (h : EP K te σ H P) (k : ∀ v d H1, Le H H1 → P d H1 → Rp K H1 v d → D1.rt v H1) : tRet te D1 σ H := h H (Le.refl _) _ k
theorem s_retD (h : ED K te σ H d) (k : ∀ v H1, Le H H1 → Rp K H1 v d → D1.rt v H1) : tRet te D1 σ H := h H (Le.refl _) _ fun v d' H1 e p r => by
  have p' : d' = d := p
  subst p'
  exact k v H1 e r
theorem s_drop (h : EP K te σ H P) (k : ∀ H1, Le H H1 → D1.nx σ H1) : tDrop te D1 σ H := h H (Le.refl _) _ fun _ _ H1 e _ _ => k H1 e
theorem s_if {P : Bool → Prop} (h : ET t σ H P) (h1 : P true → ∀ H1, Le H H1 → tu D1 σ H1) (h2 : P false → ∀ H1, Le H H1 → tw D1 σ H1) : tIfS t tu tw D1 σ H := h H (Le.refl _) _ fun b H1 e p => by
  cases b with
  | true =>
    show tu D1 σ H1
    exact h1 p H1 e
  | false =>
    show tw D1 σ H1
    exact h2 p H1 e
theorem s_ifB {b : Bool} (h : EB t σ H b) (h1 : b = true → ∀ H1, Le H H1 → tu D1 σ H1) (h2 : b = false → ∀ H1, Le H H1 → tw D1 σ H1) : tIfS t tu tw D1 σ H :=
  s_if h (fun p => h1 p.symm) fun p => h2 p.symm
theorem s_skip (k : D1.nx σ H) : tNext D1 σ H := k
/-- xs[i] = e on a list of one's own -/
theorem s_set {l : Addr} {vs : List V} {ds : List D} {i : Int} (hl : H l = some (.lst vs)) (nh : NotH vs) (hr : vs.length = ds.length) (h : EP K te σ H P) (ho : ∀ H1, Le H H1 → ED K ta σ H1 (.obj (.ref l))) (hi : ∀ H1, Le H H1 → ED K tb σ H1 (.int i)) (h0 : 0 ≤ i) (hj : i < ds.length)
    (k : ∀ y d H1 H3, Le H H1 → P d H1 → Le H1 H3 → Rp K H3 y d → H3 l = some (.lst vs) → D1.nx σ (upd H3 l (.lst (vs.set i.toNat y)))) : tAsg te (gSub ta tb rSetL) D1 σ H := h H (Le.refl _) _ fun y d H1 e1 p r =>
  ho H1 e1 H1 (Le.refl _) _ fun o d2 H2 e2 p2 r2 => hi H1 e1 H2 e2 _ fun z d3 H3 e3 p3 r3 => by
    have p2' : d2 = .obj (.ref l) := p2
    have p3' : d3 = .int i := p3
    subst p2' p3'
    have l3 := ((e1.trans e2).trans e3).lst hl nh
    refine ⟨l, vs, i, i.toNat, rp_obj r2, rp_int r3, l3, ?_, k y d H1 H3 e1 p (e2.trans e3) (r.le (e2.trans e3)) l3⟩
    unfold ixN
    rw [if_pos h0, if_pos (by rw [hr]; exact hj)]
/-- xs.append(e) on a list of one's own -/
theorem s_app {l : Addr} {vs : List V} (hl : H l = some (.lst vs)) (nh : NotH vs) (ha : ED K ta σ H (.obj (.ref l))) (h : ∀ H1, Le H H1 → EP K te σ H1 P) (hz : vs.length < 100000)
    (k : ∀ y d H1, Le H H1 → P d H1 → Rp K H1 y d → H1 l = some (.lst vs) → D1.nx σ (upd H1 l (.lst (vs ++ [y])))) : tDrop (tBM K "list" rAppend ta (tCons te tNil)) D1 σ H := ha H (Le.refl _) _ fun o d1 H1 e1 p1 r1 => by
  have p1' : d1 = .obj (.ref l) := p1
  subst p1'
  have eo := rp_obj r1
  subst eo
  refine ⟨.inl ⟨rfl, vs, Evl.sq_of (e1.lst hl nh)⟩, h H1 e1 H1 (Le.refl _) _ fun y d H2 e2 p r => ?_⟩
  have l2 := (e1.trans e2).lst hl nh
  exact ⟨l, vs, y, rfl, rfl, l2, Evl.sz_lt hz, k y d H2 (e1.trans e2) p r l2⟩
/-- xs.extend(e), e a list -/
theorem s_ext {l : Addr} {vs : List V} {ds : List D} (hl : H l = some (.lst vs)) (nh : NotH vs) (ha : ED K ta σ H (.obj (.ref l))) (h : ∀ H1, Le H H1 → ED K te σ H1 (.lst ds)) (hz : vs.length + ds.length ≤ 100000)
    (k : ∀ ws H1, Le H H1 → Rps K H1 ws ds → H1 l = some (.lst vs) → D1.nx σ (upd H1 l (.lst (vs ++ ws)))) : tDrop (tBM K "list" rExtend ta (tCons te tNil)) D1 σ H := ha H (Le.refl _) _ fun o d1 H1 e1 p1 r1 => by
  have p1' : d1 = .obj (.ref l) := p1
  subst p1'
  have eo := rp_obj r1
  subst eo
  refine ⟨.inl ⟨rfl, vs, Evl.sq_of (e1.lst hl nh)⟩, h H1 e1 H1 (Le.refl _) _ fun y d H2 e2 p r => ?_⟩
  have p' : d = .lst ds := p
  subst p'
  obtain ⟨b, ws, rfl, hb, _, rr⟩ := rp_lst r
  have l2 := (e1.trans e2).lst hl nh
  exact ⟨l, b, vs, ws, rfl, rfl, l2, hb, by rw [rr.len]; exact Evl.sz_of hz, k ws H2 (e1.trans e2) rr l2⟩
end

/-! ### what stands for tuples, whatever lists do -/
structure LeT (H H' : Hp) : Prop where
  tup : ∀ a xs, H a = some (.tup xs) → H' a = some (.tup xs)
  frz : ∀ a o u, H a = some (.frz o u) → H' a = some (.frz o u)
  ins : ∀ a C dx fs, H a = some (.ins C dx fs) → H' a = some (.ins C dx fs)
theorem LeT.refl (H : Hp) : LeT H H := ⟨fun _ _ h => h, fun _ _ _ h => h, fun _ _ _ _ h => h⟩
theorem LeT.trans {H H1 H2 : Hp} (a : LeT H H1) (b : LeT H1 H2) : LeT H H2 := ⟨fun x xs h => b.tup x xs (a.tup x xs h), fun x o u h => b.frz x o u (a.frz x o u h), fun x C dx fs h => b.ins x C dx fs (a.ins x C dx fs h)⟩
theorem Le.t {H H' : Hp} (e : Le H H') : LeT H H' := ⟨fun _ _ h => e.tup h, fun _ _ _ h => e.frz h, fun _ _ _ _ h => e.ins h⟩
theorem LeT.upd {H : Hp} {l : Addr} {ys : List V} {o : HO} (hl : H l = some (.lst ys)) : LeT H (L2.upd H l o) := by
  refine ⟨fun a xs h => ?_, fun a o u h => ?_, fun a C dx fs h => ?_⟩
  all_goals
    have n : a ≠ l := fun e => by
      rw [e, hl] at h
      cases h
    rw [upd_ne n]
    exact h
theorem LeT.sqt {K : PySem.W.Frag} {H H' : Hp} {a : Addr} {xs : List V} (e : LeT H H') (h : SqT K H a xs) : SqT K H' a xs := by
  rcases h with (h | ⟨o, h⟩) | h
  · exact .inl (.inl (e.tup _ _ h))
  · exact .inl (.inr ⟨o, e.frz _ _ _ h⟩)
  · exact .inr h
section
variable {K : PySem.W.Frag} {H H' : Hp}
mutual
theorem Rp.leT (e : LeT H H') {v : V} {d : D} (n : NoL d) : Rp K H v d → Rp K H' v d
  | .non => .non
  | .bl b => .bl b
  | .int i => .int i
  | .str x => .str x
  | .obj v => .obj v
  | .tup h r => .tup (e.sqt h) (Rps.leT e (by cases n with | tup n => exact n) r)
  | .lst h _ r => nomatch n
theorem Rps.leT (e : LeT H H') {vs : List V} {ds : List D} (n : ∀ d ∈ ds, NoL d) : Rps K H vs ds → Rps K H' vs ds
  | .nil => .nil
  | .cons h r => .cons (Rp.leT e (n _ (List.mem_cons_self ..)) h) (Rps.leT e (fun d hd => n d (List.mem_cons_of_mem _ hd)) r)
end
end

/-! ### loops -/
section
variable {K : PySem.W.Frag} {σ : L2.St} {H H' : Hp} {ta tb tc te : TE} {t u : TT} {d d1 d2 d3 : D} {P P1 P2 P3 : Pd} {D1 : Ends} {tu tw : TS} {g : TG}
abbrev bodyEnds (D1 : Ends) (N : L2.St → Hp → Prop) : Ends := { D1 with nx := N, ct := N, bk := D1.nx }
theorem s_forT {ds : List D} (h : ED K te σ H (.tup ds)) (nl : ∀ d ∈ ds, NoL d)
    (k : ∀ H1, Le H H1 → ∃ Pv : Nat → L2.St → Hp → Prop, Pv 0 σ H1 ∧ (∀ i σ' H', i ≤ ds.length → Pv i σ' H' → LeT H1 H') ∧
      (∀ i d v σ' H', ds[i]? = some d → Rp K H' v d → Pv i σ' H' → g v σ' H' fun σ2 H2 => tu (bodyEnds D1 (Pv (i + 1))) σ2 H2) ∧ ∀ σ' H', Pv ds.length σ' H' → D1.nx σ' H') : tFor (iTup K te) g tu D1 σ H := h H (Le.refl _) _ fun v d0 H1 e p r => by
  have p' : d0 = .tup ds := p
  subst p'
  obtain ⟨a, xs, rfl, s, rr⟩ := rp_tup r
  obtain ⟨Pv, h0, hle, hs, hd⟩ := k H1 e
  refine ⟨a, rfl, ⟨xs, s⟩, for_it (walk_tup (xs := xs)) Pv h0 (fun i σ' H' hi q => (hle i σ' H' (by rw [← rr.len]; exact hi) q).sqt s) ?_ (fun σ' H' q => hd σ' H' (by rw [← rr.len]; exact q))⟩
  rintro i x σ' H' _ hi q ⟨rfl, hx⟩
  obtain ⟨d, h1, h2⟩ := rr.at' hx
  exact hs i d x σ' _ h1 (h2.leT (hle i σ' _ (by rw [← rr.len]; omega) q) (nl d (List.mem_of_getElem? h1))) q
theorem s_forL {ds : List D} (h : ED K te σ H (.lst ds)) (nl : ∀ d ∈ ds, NoL d)
    (k : ∀ a vs H1, Le H H1 → H1 a = some (.lst vs) → Rps K H1 vs ds → ∃ Pv : Nat → L2.St → Hp → Prop, Pv 0 σ H1 ∧ (∀ i σ' H', i ≤ ds.length → Pv i σ' H' → LeT H1 H' ∧ H' a = some (.lst vs)) ∧
      (∀ i d v σ' H', ds[i]? = some d → Rp K H' v d → Pv i σ' H' → g v σ' H' fun σ2 H2 => tu (bodyEnds D1 (Pv (i + 1))) σ2 H2) ∧ ∀ σ' H', Pv ds.length σ' H' → D1.nx σ' H') : tFor (iList K te) g tu D1 σ H := h H (Le.refl _) _ fun v d0 H1 e p r => by
  have p' : d0 = .lst ds := p
  subst p'
  obtain ⟨a, xs, rfl, s, nh, rr⟩ := rp_lst r
  obtain ⟨Pv, h0, hle, hs, hd⟩ := k a xs H1 e s rr
  refine ⟨a, rfl, ⟨xs, SqL.of s⟩, for_it (walk_list (xs := xs)) Pv h0 (fun i σ' H' hi q => SqL.of (hle i σ' H' (by rw [← rr.len]; exact hi) q).2) ?_ (fun σ' H' q => hd σ' H' (by rw [← rr.len]; exact q))⟩
  rintro i x σ' H' _ hi q ⟨rfl, hx⟩
  obtain ⟨d, h1, h2⟩ := rr.at' hx
  exact hs i d x σ' _ h1 (h2.leT (hle i σ' _ (by rw [← rr.len]; omega) q).1 (nl d (List.mem_of_getElem? h1))) q
theorem s_forR1 {ta : TA} {n : Int} (h : EDA K ta σ H [.int n]) (hn : -100000 ≤ n ∧ n ≤ 100000)
    (k : ∀ H1, Le H H1 → ∃ Pv : Nat → L2.St → Hp → Prop, Pv 0 σ H1 ∧
      (∀ (i : Nat) σ' H', (i : Int) < n → Pv i σ' H' → g (.int (i : Int)) σ' H' fun σ2 H2 => tu (bodyEnds D1 (Pv (i + 1))) σ2 H2) ∧ ∀ σ' H', Pv n.toNat σ' H' → D1.nx σ' H') : tFor (iRng1 ta) g tu D1 σ H := h H (Le.refl _) _ fun vs ds H1 e p r => by
  have p' : ds = [.int n] := p
  subst p'
  cases r with
  | cons r1 r =>
    cases r
    have e1 := rp_int r1
    subst e1
    obtain ⟨Pv, h0, hs, hd⟩ := k H1 e
    refine ⟨n, rfl, by omega, by omega, for_it (walk_range (lo := 0) (n := n.toNat)) Pv h0 (fun _ _ _ _ _ => trivial) ?_ hd⟩
    rintro i x σ' H' _ hi q ⟨rfl, rfl⟩
    have e0 : (0 : Int) + (i : Int) = (i : Int) := Int.zero_add _
    dsimp only
    rw [e0]
    exact hs i σ' _ (by omega) q
theorem s_forR2 {ta : TA} {lo n : Int} (h : EDA K ta σ H [.int lo, .int n]) (hl : -100000 ≤ lo ∧ lo ≤ 100000 ∧ -100000 ≤ n ∧ n ≤ 100000)
    (k : ∀ H1, Le H H1 → ∃ Pv : Nat → L2.St → Hp → Prop, Pv 0 σ H1 ∧
      (∀ (i : Nat) σ' H', lo + (i : Int) < n → Pv i σ' H' → g (.int (lo + (i : Int))) σ' H' fun σ2 H2 => tu (bodyEnds D1 (Pv (i + 1))) σ2 H2) ∧ ∀ σ' H', Pv (n - lo).toNat σ' H' → D1.nx σ' H') : tFor (iRng2 ta) g tu D1 σ H := h H (Le.refl _) _ fun vs ds H1 e p r => by
  have p' : ds = [.int lo, .int n] := p
  subst p'
  cases r with
  | cons r1 r =>
    cases r with
    | cons r2 r =>
      cases r
      have e1 := rp_int r1
      subst e1
      have e2 := rp_int r2
      subst e2
      obtain ⟨Pv, h0, hs, hd⟩ := k H1 e
      refine ⟨lo, n, rfl, by omega, for_it (walk_range (lo := lo) (n := (n - lo).toNat)) Pv h0 (fun _ _ _ _ _ => trivial) ?_ hd⟩
      rintro i x σ' H' _ hi q ⟨rfl, rfl⟩
      exact hs i σ' _ (by omega) q
/-- for i, g in enumerate(a tuple) -/
theorem s_forE {ta : TA} {j : Nat} {ds : List D} (h : EDA K ta σ H [.tup ds]) (nl : ∀ d ∈ ds, NoL d)
    (k : ∀ H1, Le H H1 → ∃ Pv : Nat → L2.St → Hp → Prop, Pv 0 σ H1 ∧ (∀ i σ' H', i ≤ ds.length → Pv i σ' H' → LeT H1 H') ∧
      (∀ (i : Nat) d v σ' H' H2, ds[i]? = some d → Pv i σ' H' → Le H' H2 → Rp K H2 v d → g v (σ'.set j (some (.int (i : Int)))) H2 fun σ2 H3 => gNil [] σ2 H3 fun σ4 H4 => tu (bodyEnds D1 (Pv (i + 1))) σ4 H4) ∧ ∀ σ' H', Pv ds.length σ' H' → D1.nx σ' H') :
    tFor (iEnumT K ta) (gTup K 2 (gCons (gName j) (gCons g gNil))) tu D1 σ H := h H (Le.refl _) _ fun vs es H1 e p r => by
  have p' : es = [.tup ds] := p
  subst p'
  cases r with
  | cons r1 r =>
    cases r
    obtain ⟨a, xs, rfl, s, rr⟩ := rp_tup r1
    obtain ⟨Pv, h0, hle, hs, hd⟩ := k H1 e
    refine ⟨a, xs, rfl, s, for_it (walk_enT (xs := xs)) Pv h0 (fun i σ' H' hi q => (hle i σ' H' (by rw [← rr.len]; exact hi) q).sqt s) ?_ (fun σ' H' q => hd σ' H' (by rw [← rr.len]; exact q))⟩
    rintro i x σ' H' H2 hi q ⟨T, x1, x2, rfl, nT, rfl, f1, f2⟩
    have ex : x1 = .int (i : Nat) := (Option.some.inj f1).symm
    subst ex
    obtain ⟨d, h1, h2⟩ := rr.at' f2
    have e2 : Le H' (upd H' T (.tup [.int (i : Nat), x2])) := Le.new nT
    have r2 := (h2.leT (hle i σ' _ (by rw [← rr.len]; omega) q) (nl d (List.mem_of_getElem? h1))).le e2
    exact ⟨T, _, rfl, Evl.st_of upd_same, rfl, _, _, rfl, _, _, rfl, hs i d x2 σ' _ _ h1 q e2 r2⟩
end

/-! ### comprehensions -/
section
variable {K : PySem.W.Frag} {σ : L2.St} {H H' : Hp} {ta tb tc te : TE} {tt : TT} {d d1 d2 d3 : D} {P P1 P2 P3 : Pd} {g : TG} {vs : List Nat}
/-- what a comprehension's list holds behind i turns: I i acc -/
def CI (K : PySem.W.Frag) (H : Hp) (L : Addr) (I : Nat → List D → Prop) (i : Nat) (H' : Hp) : Prop := H L = none ∧ Le H H' ∧ ∃ ws acc, H' L = some (.lst ws) ∧ Rps K H' ws acc ∧ I i acc
structure Good (I : Nat → List D → Prop) : Prop where
  uni : ∀ i acc, I i acc → Uni acc
  noL : ∀ i acc, I i acc → ∀ d ∈ acc, NoL d
  len : ∀ i acc, I i acc → acc.length ≤ 50000
theorem ci_turn {I : Nat → List D → Prop} (G : Good I) {L : Addr} {i : Nat} {σ2 : L2.St} {PT : Bool → Prop} (q : CI K H L I i H') (ht : ∀ acc, I i acc → ET tt σ2 H PT)
    (he : ∀ acc, I i acc → PT true → EP K te σ2 H (fun d _ => I (i + 1) (acc ++ [d]) ∧ NoL d)) (hf : ∀ acc, I i acc → PT false → I (i + 1) acc) :
    tt σ2 H' fun b H3 => if b = true then te σ2 H3 fun y H4 => ∃ ac, H4 L = some (.lst ac) ∧ ac.length < sizeLine ∧ CI K H L I (i + 1) (upd H4 L (.lst (ac ++ [y]))) else CI K H L I (i + 1) H3 := by
  obtain ⟨q1, q2, ws, acc, q3, q4, q5⟩ := q
  have nh : NotH ws := (G.uni i acc q5).notH q4
  refine ht acc q5 H' q2 _ fun b H3 e3 p3 => ?_
  cases b with
  | true =>
    show te σ2 H3 _
    refine he acc q5 p3 H3 (q2.trans e3) _ fun y d H4 e4 p4 r4 => ?_
    have l4 := (e3.trans e4).lst q3 nh
    refine ⟨ws, l4, Evl.sz_lt (by rw [q4.len]; have := G.len i acc q5; omega), q1, ((q2.trans e3).trans e4).mut q1, ws ++ [y], acc ++ [d], upd_same, ?_, p4.1⟩
    exact ((q4.le (e3.trans e4)).upd l4 (G.noL i acc q5)).app (.cons (r4.upd l4 p4.2) .nil)
  | false =>
    show CI K H L I (i + 1) H3
    exact ⟨q1, q2.trans e3, ws, acc, e3.lst q3 nh, q4.le e3, hf acc q5 p3⟩
theorem ci_start {I : Nat → List D → Prop} {L : Addr} (h : H L = none) (h0 : I 0 []) : CI K H L I 0 (upd H L (.lst [])) := ⟨h, Le.new h, [], [], upd_same, .nil, h0⟩
theorem ci_end {I : Nat → List D → Prop} (G : Good I) {L : Addr} {n : Nat} {Q : VK} (q : CI K H L I n H') (k : ∀ v d H2, Le H H2 → (∃ acc, d = .lst acc ∧ I n acc) → Rp K H2 v d → Q v H2) : Q (.ref L) H' := by
  obtain ⟨q1, q2, ws, acc, q3, q4, q5⟩ := q
  exact k _ (.lst acc) H' q2 ⟨acc, rfl, q5⟩ (.lst q3 ((G.uni n acc q5).notH q4) q4)
/-- over a tuple; the target is a name -/
theorem ep_lcT {ds : List D} {j : Nat} {I : Nat → List D → Prop} {PT : Nat → D → Bool → Prop} (G : Good I) (h : ED K ta σ H (.tup ds)) (hw : ∀ x, wipe ((wipe σ vs).set j (some x)) vs = wipe σ vs) (h0 : I 0 [])
    (ht : ∀ (i : Nat) d v acc H1, Le H H1 → ds[i]? = some d → Rp K H1 v d → I i acc → ET tt ((wipe σ vs).set j (some v)) H1 (PT i d))
    (he : ∀ (i : Nat) d v acc H1, Le H H1 → ds[i]? = some d → Rp K H1 v d → I i acc → PT i d true → EP K te ((wipe σ vs).set j (some v)) H1 (fun d' _ => I (i + 1) (acc ++ [d']) ∧ NoL d'))
    (hf : ∀ (i : Nat) d acc, ds[i]? = some d → I i acc → PT i d false → I (i + 1) acc) : EP K (tLc (iTup K ta) (gName j) tt te vs) σ H (fun d _ => ∃ acc, d = .lst acc ∧ I ds.length acc) := fun H1 e Q q => h H1 e _ fun v d0 H2 e2 p r => by
  have p' : d0 = .tup ds := p
  subst p'
  obtain ⟨a, xs, rfl, s, rr⟩ := rp_tup r
  refine ⟨a, rfl, ⟨xs, s⟩, fun L hL => lc_it (walk_tup (xs := xs)) (CI K H2 L I) (ci_start hL h0) (fun i H' _ c => c.2.1.sqt s) ?_ (fun H' c => ?_)⟩
  · rintro i x H' _ hi c ⟨rfl, hx⟩
    obtain ⟨d, h1, h2⟩ := rr.at' hx
    exact ⟨hw x, ci_turn G c (fun acc ia => ht i d x acc H2 (e.trans e2) h1 h2 ia) (fun acc ia pt => he i d x acc H2 (e.trans e2) h1 h2 ia pt) (fun acc ia pt => hf i d acc h1 ia pt)⟩
  · rw [rr.len] at c
    exact ci_end G c fun v d H3 e3 p r => q v d H3 (e2.trans e3) p r
/-- over a list; the target is a name -/
theorem ep_lcL {ds : List D} {j : Nat} {I : Nat → List D → Prop} {PT : Nat → D → Bool → Prop} (G : Good I) (h : ED K ta σ H (.lst ds)) (hw : ∀ x, wipe ((wipe σ vs).set j (some x)) vs = wipe σ vs) (h0 : I 0 [])
    (ht : ∀ (i : Nat) d v acc H1, Le H H1 → ds[i]? = some d → Rp K H1 v d → I i acc → ET tt ((wipe σ vs).set j (some v)) H1 (PT i d))
    (he : ∀ (i : Nat) d v acc H1, Le H H1 → ds[i]? = some d → Rp K H1 v d → I i acc → PT i d true → EP K te ((wipe σ vs).set j (some v)) H1 (fun d' _ => I (i + 1) (acc ++ [d']) ∧ NoL d'))
    (hf : ∀ (i : Nat) d acc, ds[i]? = some d → I i acc → PT i d false → I (i + 1) acc) : EP K (tLc (iList K ta) (gName j) tt te vs) σ H (fun d _ => ∃ acc, d = .lst acc ∧ I ds.length acc) := fun H1 e Q q => h H1 e _ fun v d0 H2 e2 p r => by
  have p' : d0 = .lst ds := p
  subst p'
  obtain ⟨a, xs, rfl, s, nh, rr⟩ := rp_lst r
  refine ⟨a, rfl, ⟨xs, SqL.of s⟩, fun L hL => lc_it (walk_list (xs := xs)) (CI K H2 L I) (ci_start hL h0) (fun i H' _ c => SqL.of (c.2.1.lst s nh)) ?_ (fun H' c => ?_)⟩
  · rintro i x H' _ hi c ⟨rfl, hx⟩
    obtain ⟨d, h1, h2⟩ := rr.at' hx
    exact ⟨hw x, ci_turn G c (fun acc ia => ht i d x acc H2 (e.trans e2) h1 h2 ia) (fun acc ia pt => he i d x acc H2 (e.trans e2) h1 h2 ia pt) (fun acc ia pt => hf i d acc h1 ia pt)⟩
  · rw [rr.len] at c
    exact ci_end G c fun v d H3 e3 p r => q v d H3 (e2.trans e3) p r
/-- over range(n) -/
theorem ep_lcR1 {ra : TA} {n : Int} {j : Nat} {I : Nat → List D → Prop} {PT : Nat → Bool → Prop} (G : Good I) (h : EDA K ra σ H [.int n]) (hn : 0 ≤ n ∧ n ≤ 50000) (hw : ∀ x, wipe ((wipe σ vs).set j (some x)) vs = wipe σ vs) (h0 : I 0 [])
    (ht : ∀ (i : Nat) acc H1, Le H H1 → (i : Int) < n → I i acc → ET tt ((wipe σ vs).set j (some (.int (i : Int)))) H1 (PT i))
    (he : ∀ (i : Nat) acc H1, Le H H1 → (i : Int) < n → I i acc → PT i true → EP K te ((wipe σ vs).set j (some (.int (i : Int)))) H1 (fun d' _ => I (i + 1) (acc ++ [d']) ∧ NoL d'))
    (hf : ∀ (i : Nat) acc, (i : Int) < n → I i acc → PT i false → I (i + 1) acc) : EP K (tLc (iRng1 ra) (gName j) tt te vs) σ H (fun d _ => ∃ acc, d = .lst acc ∧ I n.toNat acc) := fun H1 e Q q => h H1 e _ fun ws ds H2 e2 p r => by
  have p' : ds = [.int n] := p
  subst p'
  cases r with
  | cons r1 r =>
    cases r
    have e1 := rp_int r1
    subst e1
    refine ⟨n, rfl, by omega, by omega, fun L hL => lc_it (walk_range (lo := 0) (n := n.toNat)) (CI K H2 L I) (ci_start hL h0) (fun _ _ _ _ => trivial) ?_ (fun H' c => ?_)⟩
    · rintro i x H' _ hi c ⟨rfl, rfl⟩
      have e0 : (0 : Int) + (i : Int) = (i : Int) := Int.zero_add _
      dsimp only
      rw [e0]
      exact ⟨hw _, ci_turn G c (fun acc ia => ht i acc H2 (e.trans e2) (by omega) ia) (fun acc ia pt => he i acc H2 (e.trans e2) (by omega) ia pt) (fun acc ia pt => hf i acc (by omega) ia pt)⟩
    · exact ci_end G c fun v d H3 e3 p r => q v d H3 (e2.trans e3) p r
end
end W1

set_option maxRecDepth 100000
set_option maxHeartbeats 4000000
/-! built-ins in data -/
namespace W1
open PySem L2
def cutG {α : Type} (xs : List α) (lo hi : Option Int) : List α := (xs.drop (HT.sIx xs.length 0 lo)).take (HT.sIx xs.length xs.length hi - HT.sIx xs.length 0 lo)
theorem cutG_hi {α : Type} (xs : List α) (n : Int) (h : 0 ≤ n) : cutG xs none (some n) = xs.take n.toNat := by
  unfold cutG
  have e : n = ((n.toNat : Nat) : Int) := by omega
  rw [e, HT.sIx_nat, HT.sIx_none, List.drop_zero, Nat.sub_zero, Int.toNat_natCast]
  rw [List.take_eq_take_iff]
  omega
theorem cutG_lo {α : Type} (xs : List α) (n : Int) (h : 0 ≤ n) : cutG xs (some n) none = xs.drop n.toNat := by
  unfold cutG
  have e : n = ((n.toNat : Nat) : Int) := by omega
  rw [e, HT.sIx_nat, HT.sIx_none, Int.toNat_natCast]
  by_cases hl : n.toNat ≤ xs.length
  · rw [Nat.min_eq_left hl]
    exact List.take_of_length_le (by rw [List.length_drop]; exact Nat.le_refl _)
  · rw [Nat.min_eq_right (by omega), List.drop_of_length_le (Nat.le_refl _), List.drop_of_length_le (by omega), List.take_nil]
theorem cutG_two {α : Type} (xs : List α) (a b : Int) (h : 0 ≤ a) (h2 : 0 ≤ b) : cutG xs (some a) (some b) = (xs.drop a.toNat).take (b.toNat - a.toNat) := by
  unfold cutG
  have e : a = ((a.toNat : Nat) : Int) := by omega
  have e2 : b = ((b.toNat : Nat) : Int) := by omega
  rw [e, e2, HT.sIx_nat, HT.sIx_nat, Int.toNat_natCast, Int.toNat_natCast]
  by_cases hl : a.toNat ≤ xs.length
  · rw [Nat.min_eq_left hl, List.take_eq_take_iff, List.length_drop]
    omega
  · rw [Nat.min_eq_right (show xs.length ≤ a.toNat by omega), List.drop_of_length_le (Nat.le_refl _), List.drop_of_length_le (by omega), List.take_nil, List.take_nil]
theorem rps_cut {K : PySem.W.Frag} {H : Hp} {vs : List V} {ds : List D} (lo hi : Option Int) (r : Rps K H vs ds) : Rps K H (cutV vs lo hi) (cutG ds lo hi) := by
  unfold cutV cutG
  rw [r.len]
  exact (r.drop _).take _
theorem cutG_all {α : Type} (xs : List α) (lo hi : Option Int) (h : HT.sIx xs.length 0 lo = 0 ∧ HT.sIx xs.length xs.length hi = xs.length) : cutG xs lo hi = xs := by
  unfold cutG
  rw [h.1, h.2, List.drop_zero, Nat.sub_zero, List.take_length]

/-! ### a tuple times a number from 1 on -/
section
open PySem.Spec PyProof.Rows
theorem mul1_tup (l : Addr) (items : Array Value) (n : Nat) (dd : Option Addr) (sl : Array (Option Value)) (u : Tok) :
    Meets (Builtin.«tuple.__mul__» ⟨[.ref l, .int 1 u], []⟩) (fun _ R s => s.heap.get? l = some { cls := .type "tuple", dict := dd, data := .seq items n, slots := sl } ∧ R (.ok (.ret (Value.ref l))) s) := by
  refine .of_wp fun prog w A R s h => ?_
  obtain ⟨hp, g, d, tk, os⟩ := s
  obtain ⟨hl, h⟩ := h
  have f1 := AutoSeq1.idx_int
  have c1 : (items.isEmpty || (1 : Int) == 1) = true := by simp
  wp_walk using wpAny_loadPart' hl
  repeat (first
    | (refine wpAny_ite_false (decide_eq_false (by decide)) ?_; wp_walk using wpAny_loadPart' hl)
    | (refine wpAny_ite_true (decide_eq_true c1) ?_; wp_walk using wpAny_loadPart' hl))
  all_goals exact ⟨_, rfl, h⟩
def rRep1 (K : PySem.W.Frag) : R2 := fun x y H Q => ∃ l k xs, x = .ref l ∧ y = .int k ∧ SqT K H l xs ∧ xs ≠ [] ∧ 1 ≤ k ∧ k ≤ 1000 ∧ xs.length ≤ 1000 ∧ (k = 1 → Q (.ref l) H) ∧ (2 ≤ k → ∀ p, H p = none → Q (.ref p) (upd H p (.tup (List.replicate k.toNat xs).flatten)))
theorem op_rep1 {X : Cx} : OpR X (binaryOp .Mult) (rRep1 X.K) := by
  intro pins s σ H x y v u Q I rx ry h
  obtain ⟨l, k, xs, rfl, rfl, hT, hne, h1, h2, hz, q1, q2⟩ := h
  by_cases hk : 2 ≤ k
  · exact op_repT pins s σ H _ _ v u Q I rx ry ⟨l, k, xs, rfl, rfl, hT, hne, hk, h2, hz, q2 hk⟩
  · have e : k = 1 := by omega
    subst e
    cases rx
    obtain ⟨t, rfl⟩ := ry
    obtain ⟨its, r, ⟨⟨cls, dd, data, sl⟩, ho, hc, n, hd⟩, hs⟩ := I.tuple hT
    replace hc : cls = .type "tuple" := hc
    replace hd : data = .seq its.toArray n := hd
    subst hc hd
    refine wpAny_binaryOp_repeat_ref (T := "tuple") (U := "int") (by decide) ⟨_, ho, rfl⟩ (fun s' => typeIs_int s' 1 t) noFill_tuple_mul F.fills_int_mul F.slot_int_rmul repeat_tuple F.slot_int_index.lookup
      (call_meets F.slot_int_rmul (typeIs_int s 1 t) F.entry_int_rmul (F.args_int_rmul_2 _ _) (int_rmul_tuple 1 t l its.toArray n dd sl)
        ⟨ho, rfl, ⟨_, ho, rfl⟩, call_meets F.slot_tuple_mul ⟨_, ho, rfl⟩ F.entry_tuple_mul (F.args_tuple_mul_2 _ _) (mul1_tup l its.toArray n dd sl t) ⟨ho, ?_⟩⟩)
    exact ⟨.ref l, H, I, rfl, q1 rfl⟩
end
section
variable {K : PySem.W.Frag} {σ : L2.St} {H H' : Hp} {ta tb tc te : TE} {d d1 d2 d3 : D} {P : Pd}
theorem ed_rep1 {ds : List D} {k : Int} (ha : ED K ta σ H (.tup ds)) (hb : ED K tb σ H (.int k)) (hne : ds ≠ []) (h1 : 1 ≤ k ∧ k ≤ 1000) (hz : ds.length ≤ 1000) : ED K (tOp (rRep1 K) ta tb) σ H (.tup (List.replicate k.toNat ds).flatten) :=
  ed_op ha hb fun x y H2 _ r1 r2 Q q => by
    obtain ⟨a, xs, rfl, s, rr⟩ := rp_tup r1
    refine ⟨a, k, xs, rfl, rp_int r2, s, ?_, h1.1, h1.2, by rw [rr.len]; exact hz, fun e => ?_, fun _ p np => ?_⟩
    · intro e
      subst e
      cases rr
      exact hne rfl
    · subst e
      refine q _ _ H2 (Le.refl _) ?_ r1
      show D.tup ds = D.tup (List.replicate 1 ds).flatten
      simp
    · exact q _ _ _ (Le.new np) rfl (.tup (Evl.st_of upd_same) ((rr.le (Le.new np)).flat _))
theorem ed_rep {ds : List D} {k : Int} (ha : ED K ta σ H (.lst ds)) (hb : ED K tb σ H (.int k)) (h1 : 0 ≤ k ∧ k ≤ 1000) (hz : ds.length ≤ 1000) (hu : Uni (List.replicate k.toNat ds).flatten) : ED K (tOp rRep ta tb) σ H (.lst (List.replicate k.toNat ds).flatten) :=
  ed_op ha hb fun x y H2 _ r1 r2 Q q => by
    obtain ⟨a, xs, rfl, s, nh, rr⟩ := rp_lst r1
    have hm : xs.length * k.toNat ≤ 1000 * 1000 := Nat.mul_le_mul (by rw [rr.len]; exact hz) (by omega)
    refine ⟨a, k, xs, rfl, rp_int r2, s, by omega, by omega, Nat.le_trans hm (by decide), fun p np => ?_⟩
    have rf := (rr.le (Le.new (o := .lst (List.replicate k.toNat xs).flatten) np)).flat k.toNat
    exact q _ _ _ (Le.new np) rfl (.lst upd_same (hu.notH rf) rf)
/-- lists put one behind another -/
theorem ed_cat {ds es : List D} (ha : ED K ta σ H (.lst ds)) (hb : ED K tb σ H (.lst es)) (hz : ds.length + es.length ≤ 100000) (hu : Uni (ds ++ es)) : ED K (tOp rCat ta tb) σ H (.lst (ds ++ es)) :=
  ed_op ha hb fun x y H2 _ r1 r2 Q q => by
    obtain ⟨a, xs, rfl, s, nh, rr⟩ := rp_lst r1
    obtain ⟨b, ys, rfl, s2, nh2, rr2⟩ := rp_lst r2
    refine ⟨a, b, xs, ys, rfl, rfl, s, s2, by rw [rr.len, rr2.len]; exact Evl.sz_of hz, fun p np => ?_⟩
    have rf := (rr.app rr2).le (Le.new (o := .lst (xs ++ ys)) np)
    exact q _ _ _ (Le.new np) rfl (.lst upd_same (hu.notH rf) rf)
/-- tuples put one behind another -/
theorem ed_catA {ds es : List D} (ha : ED K ta σ H (.tup ds)) (hb : ED K tb σ H (.tup es)) (hz : ds.length + es.length ≤ 100000) : ED K (tOp (rCatA K) ta tb) σ H (.tup (ds ++ es)) :=
  ed_op ha hb fun x y H2 _ r1 r2 Q q => by
    obtain ⟨a, xs, rfl, s, rr⟩ := rp_tup r1
    obtain ⟨b, ys, rfl, s2, rr2⟩ := rp_tup r2
    refine ⟨a, b, xs, ys, rfl, rfl, s, s2, by rw [rr.len, rr2.len]; exact Evl.sz_of hz, fun e => ?_, fun _ e => ?_, fun _ _ p np => ?_⟩
    · subst e
      cases rr
      exact q _ _ H2 (Le.refl _) rfl r2
    · subst e
      cases rr2
      exact q _ _ H2 (Le.refl _) (by rw [List.append_nil]) r1
    · exact q _ _ _ (Le.new np) rfl (.tup (Evl.st_of upd_same) ((rr.app rr2).le (Le.new np)))
theorem eo_none : EO tNoPart σ H none := fun H1 _ Q q => q H1 (Le.refl _)
theorem eo_some {i : Int} (h : ED K te σ H (.int i)) : EO (tPart te) σ H (some i) := fun H1 e Q q => h H1 e _ fun v d H2 e2 p r => by
  have p' : d = .int i := p
  subst p'
  exact ⟨i, rp_int r, q H2 e2⟩
theorem ed_slT {tl th : TO} {ds : List D} {lo hi : Option Int} (h : ED K ta σ H (.tup ds)) (h1 : EO tl σ H lo) (h2 : EO th σ H hi) : ED K (tSl (rSlA K) ta tl th) σ H (.tup (cutG ds lo hi)) := fun H1 e Q q =>
  h H1 e _ fun v d H2 e2 p r => h1 H2 (e.trans e2) _ fun H3 e3 => h2 H3 ((e.trans e2).trans e3) _ fun H4 e4 => by
    have p' : d = .tup ds := p
    subst p'
    obtain ⟨a, xs, rfl, s, rr⟩ := rp_tup (r.le (e3.trans e4))
    refine ⟨a, xs, rfl, s, fun w => ?_, fun _ p np => ?_⟩
    · rw [rr.len] at w
      exact q _ _ H4 ((e2.trans e3).trans e4) (by rw [cutG_all ds lo hi w]) (.tup s rr)
    · exact q _ _ _ (((e2.trans e3).trans e4).trans (Le.new np)) rfl (.tup (Evl.st_of upd_same) ((rps_cut lo hi rr).le (Le.new np)))
theorem ed_slL {tl th : TO} {ds : List D} {lo hi : Option Int} (h : ED K ta σ H (.lst ds)) (h1 : EO tl σ H lo) (h2 : EO th σ H hi) (hu : Uni (cutG ds lo hi)) : ED K (tSl (rSlL K) ta tl th) σ H (.lst (cutG ds lo hi)) := fun H1 e Q q =>
  h H1 e _ fun v d H2 e2 p r => h1 H2 (e.trans e2) _ fun H3 e3 => h2 H3 ((e.trans e2).trans e3) _ fun H4 e4 => by
    have p' : d = .lst ds := p
    subst p'
    obtain ⟨a, xs, rfl, s, nh, rr⟩ := rp_lst (r.le (e3.trans e4))
    refine ⟨a, xs, rfl, SqL.of s, fun p np => ?_⟩
    have rf := (rps_cut lo hi rr).le (Le.new (o := .lst (cutV xs lo hi)) np)
    exact q _ _ _ (((e2.trans e3).trans e4).trans (Le.new np)) rfl (.lst upd_same (hu.notH rf) rf)
theorem ed_revL {ds : List D} (h : ED K ta σ H (.lst ds)) (hu : Uni ds.reverse) : ED K (tRevL K ta) σ H (.lst ds.reverse) := fun H1 e Q q =>
  h H1 e _ fun v d H2 e2 p r => by
    have p' : d = .lst ds := p
    subst p'
    obtain ⟨a, xs, rfl, s, nh, rr⟩ := rp_lst r
    refine ⟨a, xs, rfl, SqL.of s, fun p np => ?_⟩
    have rv : ∀ {vs : List V} {es : List D}, Rps K H2 vs es → Rps K H2 vs.reverse es.reverse := by
      intro vs
      induction vs with
      | nil =>
        intro es h
        cases h
        exact .nil
      | cons a l ih =>
        intro es h
        cases h with
        | cons h1 h2 =>
          rw [List.reverse_cons, List.reverse_cons]
          exact (ih h2).app (.cons h1 .nil)
    have rf := (rv rr).le (Le.new (o := .lst xs.reverse) np)
    exact q _ _ _ (e2.trans (Le.new np)) rfl (.lst upd_same (hu.notH rf) rf)
/-! calls of built-ins -/
theorem ed_cb {r : List V → Hp → VK → Prop} {A : TA} {ds : List D} (h : EDA K A σ H ds) (hr : ∀ vs H2, Le H H2 → Rps K H2 vs ds → ∀ Q : VK, (∀ v d H3, Le H2 H3 → P d H3 → Rp K H3 v d → Q v H3) → r vs H2 Q) : EP K (tCB r A) σ H P := fun H1 e Q q =>
  h H1 e _ fun vs es H2 e2 p rr => by
    have p' : es = ds := p
    subst p'
    exact hr vs H2 (e.trans e2) rr Q fun v d H3 e3 p3 r3 => q v d H3 (e2.trans e3) p3 r3
theorem rps1 {vs : List V} (r : Rps K H vs [d]) : ∃ v, vs = [v] ∧ Rp K H v d := by
  cases r with
  | cons h r =>
    cases r
    exact ⟨_, rfl, h⟩
theorem rps2 {vs : List V} (r : Rps K H vs [d1, d2]) : ∃ v w, vs = [v, w] ∧ Rp K H v d1 ∧ Rp K H w d2 := by
  cases r with
  | cons h r =>
    obtain ⟨w, rfl, h2⟩ := rps1 r
    exact ⟨_, w, rfl, h, h2⟩
theorem rps3 {vs : List V} (r : Rps K H vs [d1, d2, d3]) : ∃ v w u, vs = [v, w, u] ∧ Rp K H v d1 ∧ Rp K H w d2 ∧ Rp K H u d3 := by
  cases r with
  | cons h r =>
    obtain ⟨w, u, rfl, h2, h3⟩ := rps2 r
    exact ⟨_, w, u, rfl, h, h2, h3⟩
abbrev rAbs : List V → Hp → VK → Prop := fun xs H Q => ∃ i, xs = [.int i] ∧ Q (.int (if i < 0 then -i else i)) H
theorem ed_abs {i : Int} (h : ED K ta σ H (.int i)) : ED K (tCB rAbs (tCons ta tNil)) σ H (.int (if i < 0 then -i else i)) := ed_cb (ea_cons h ea_nil) fun vs H2 _ r Q q => by
  obtain ⟨v, rfl, h⟩ := rps1 r
  exact ⟨i, by rw [rp_int h], q _ _ H2 (Le.refl _) rfl (.int _)⟩
abbrev rInt1 : List V → Hp → VK → Prop := fun xs H Q => (∃ i, xs = [.int i] ∧ Q (.int i) H) ∨ ∃ k, xs = [.bl k] ∧ Q (.int (if k then 1 else 0)) H
theorem ed_int1 {i : Int} (h : ED K ta σ H (.int i)) : ED K (tCB rInt1 (tCons ta tNil)) σ H (.int i) := ed_cb (ea_cons h ea_nil) fun vs H2 _ r Q q => by
  obtain ⟨v, rfl, h⟩ := rps1 r
  exact .inl ⟨i, by rw [rp_int h], q _ _ H2 (Le.refl _) rfl (.int _)⟩
abbrev rMax2 : List V → Hp → VK → Prop := fun xs H Q => ∃ i j, xs = [.int i, .int j] ∧ Q (.int (if j > i then j else i)) H
abbrev rMin2 : List V → Hp → VK → Prop := fun xs H Q => ∃ i j, xs = [.int i, .int j] ∧ Q (.int (if j < i then j else i)) H
theorem ed_max2 {i j : Int} (h : ED K ta σ H (.int i)) (h2 : ED K tb σ H (.int j)) : ED K (tCB rMax2 (tCons ta (tCons tb tNil))) σ H (.int (if j > i then j else i)) := ed_cb (ea_cons h (ea_cons h2 ea_nil)) fun vs H2 _ r Q q => by
  obtain ⟨v, w, rfl, h, h2⟩ := rps2 r
  exact ⟨i, j, by rw [rp_int h, rp_int h2], q _ _ H2 (Le.refl _) rfl (.int _)⟩
theorem ed_min2 {i j : Int} (h : ED K ta σ H (.int i)) (h2 : ED K tb σ H (.int j)) : ED K (tCB rMin2 (tCons ta (tCons tb tNil))) σ H (.int (if j < i then j else i)) := ed_cb (ea_cons h (ea_cons h2 ea_nil)) fun vs H2 _ r Q q => by
  obtain ⟨v, w, rfl, h, h2⟩ := rps2 r
  exact ⟨i, j, by rw [rp_int h, rp_int h2], q _ _ H2 (Le.refl _) rfl (.int _)⟩
abbrev rTupOf (K : PySem.W.Frag) : List V → Hp → VK → Prop := fun xs H Q => ∃ p ys, xs = [.ref p] ∧ ((SqL K H p ys ∧ ∀ l, H l = none → Q (.ref l) (upd H l (.tup ys))) ∨ (SqT K H p ys ∧ Q (.ref p) H))
theorem ep_tupOf {PL : List D → Prop} (h : EP K ta σ H fun d _ => ∃ ds, d = .lst ds ∧ PL ds) : EP K (tCB (rTupOf K) (tCons ta tNil)) σ H (fun d _ => ∃ ds, d = .tup ds ∧ PL ds) := fun H1 e Q q => h H1 e _ fun v d H2 e2 p r => by
  obtain ⟨ds, rfl, pl⟩ := p
  obtain ⟨a, xs, rfl, s, nh, rr⟩ := rp_lst r
  exact ⟨a, xs, rfl, .inl ⟨SqL.of s, fun l hl => q _ _ _ (e2.trans (Le.new hl)) ⟨ds, rfl, pl⟩ (.tup (Evl.st_of upd_same) (rr.le (Le.new hl)))⟩⟩
theorem ed_tupOf {ds : List D} (h : ED K ta σ H (.lst ds)) : ED K (tCB (rTupOf K) (tCons ta tNil)) σ H (.tup ds) :=
  (ep_tupOf (PL := fun x => x = ds) (h.weak fun d _ _ p => ⟨ds, p, rfl⟩)).weak fun d _ _ p => by
    obtain ⟨ds', rfl, rfl⟩ := p
    rfl
abbrev rLstOf (K : PySem.W.Frag) : List V → Hp → VK → Prop := fun xs H Q => ∃ p ys, xs = [.ref p] ∧ (SqL K H p ys ∨ SqT K H p ys) ∧ ∀ l, H l = none → Q (.ref l) (upd H l (.lst ys))
theorem ed_lstOfT {ds : List D} (h : ED K ta σ H (.tup ds)) (hu : Uni ds) : ED K (tCB (rLstOf K) (tCons ta tNil)) σ H (.lst ds) := ed_cb (ea_cons h ea_nil) fun vs H2 _ r Q q => by
  obtain ⟨v, rfl, h⟩ := rps1 r
  obtain ⟨a, xs, rfl, s, rr⟩ := rp_tup h
  refine ⟨a, xs, rfl, .inr s, fun l hl => ?_⟩
  have rf := rr.le (Le.new (o := .lst xs) hl)
  exact q _ _ _ (Le.new hl) rfl (.lst upd_same (hu.notH rf) rf)
theorem ed_lstOfL {ds : List D} (h : ED K ta σ H (.lst ds)) : ED K (tCB (rLstOf K) (tCons ta tNil)) σ H (.lst ds) := ed_cb (ea_cons h ea_nil) fun vs H2 _ r Q q => by
  obtain ⟨v, rfl, h⟩ := rps1 r
  obtain ⟨a, xs, rfl, s, nh, rr⟩ := rp_lst h
  exact ⟨a, xs, rfl, .inl (SqL.of s), fun l hl => q _ _ _ (Le.new hl) rfl (.lst upd_same nh (rr.le (Le.new hl)))⟩
theorem ep_sortedI {PN : List Int → Prop} (h : EP K ta σ H fun d _ => ∃ ns : List Int, d = .lst (ns.map .int) ∧ PN ns) :
    EP K (tCB (rSortedI K) (tCons ta tNil)) σ H (fun d _ => ∃ ns ns' : List Int, d = .lst (ns'.map .int) ∧ PN ns ∧ ns'.Perm ns ∧ ns'.Pairwise (· ≤ ·)) := fun H1 e Q q => h H1 e _ fun v d H2 e2 p r => by
  obtain ⟨ns, rfl, pn⟩ := p
  obtain ⟨a, xs, rfl, s, nh, rr⟩ := rp_lst r
  have ex := ints_rps rr
  subst ex
  exact ⟨a, ns, rfl, SqL.of s, fun ns' p hp hs hn => q _ _ _ (e2.trans (Le.new hn)) ⟨ns, ns', rfl, pn, hp, hs⟩ (.lst upd_same (notH_ints _) (rps_ints _))⟩
/-- sorted(set(e)), e a list of ints -/
theorem ep_sortedSet {w : World} {ns : List Int} (hz : ns.length < 64) (h : ED K ta σ H (.lst (ns.map .int))) :
    EP K (tCB (rSortedSet w) (tCons (tCB (rSetOfL K w) (tCons ta tNil)) tNil)) σ H (fun d _ => ∃ ns' : List Int, d = .lst (ns'.map .int) ∧ ns'.Pairwise (· < ·) ∧ ∀ k, k ∈ ns' ↔ k ∈ ns) := fun H1 e Q q => h H1 e _ fun v d H2 e2 p r => by
  have p' : d = .lst (ns.map .int) := p
  subst p'
  obtain ⟨a, xs, rfl, s, nh, rr⟩ := rp_lst r
  have ex := ints_rps rr
  subst ex
  refine ⟨a, ns, rfl, SqL.of s, by omega, fun p n hp hn => ⟨p, _, n, rfl, upd_same, by omega, fun ns' l hs hm _ hl => ?_⟩⟩
  refine q _ _ _ ((e2.trans (Le.new hp)).trans (Le.new hl)) ⟨ns', rfl, hs, fun k => ?_⟩ (.lst upd_same (notH_ints _) (rps_ints _))
  rw [hm k]
  exact decide_eq_true_iff
theorem inV_ints (x : Int) : ∀ ns : List Int, inV (.int x) (ns.map V.int) = decide (x ∈ ns)
  | [] => rfl
  | n :: ns => by
    have ih := inV_ints x ns
    unfold inV at ih ⊢
    rw [List.map_cons, List.any_cons, ih]
    by_cases e : n = x
    · subst e
      have e1 : eqV (.int n) (.int n) = true := by simp [eqV]
      rw [e1]
      simp
    · have e1 : eqV (.int n) (.int x) = false := by simp [eqV, e]
      rw [e1, Bool.false_or]
      have : (x ∈ n :: ns) ↔ x ∈ ns := by simp [Ne.symm e]
      simp [this]
theorem flat_ints (ns : List Int) : (ns.map V.int).all flatV = true := by
  rw [List.all_eq_true]
  intro v hv
  obtain ⟨i, _, rfl⟩ := List.mem_map.mp hv
  rfl
theorem ed_inT {x : Int} {ns : List Int} (h : ED K ta σ H (.int x)) (h2 : ED K tb σ H (.tup (ns.map .int))) : ED K (tOp (rIn K false) ta tb) σ H (.bl (decide (x ∈ ns))) := ed_op h h2 fun v w H2 _ r1 r2 Q q => by
  obtain ⟨a, xs, rfl, s, rr⟩ := rp_tup r2
  have ex := ints_rps rr
  subst ex
  rw [rp_int r1]
  refine ⟨a, _, rfl, .inr s, rfl, flat_ints ns, ?_⟩
  rw [inV_ints]
  exact q _ _ H2 (Le.refl _) rfl (.bl _)
theorem ed_ninT {x : Int} {ns : List Int} (h : ED K ta σ H (.int x)) (h2 : ED K tb σ H (.tup (ns.map .int))) : ED K (tOp (rIn K true) ta tb) σ H (.bl (!decide (x ∈ ns))) := ed_op h h2 fun v w H2 _ r1 r2 Q q => by
  obtain ⟨a, xs, rfl, s, rr⟩ := rp_tup r2
  have ex := ints_rps rr
  subst ex
  rw [rp_int r1]
  refine ⟨a, _, rfl, .inr s, rfl, flat_ints ns, ?_⟩
  rw [inV_ints]
  exact q _ _ H2 (Le.refl _) rfl (.bl _)
theorem ed_all {bs : List Bool} (h : ED K ta σ H (.lst (bs.map .bl))) : ED K (tCB (rAll K) (tCons ta tNil)) σ H (.bl (bs.all id)) := ed_cb (ea_cons h ea_nil) fun vs H2 _ r Q q => by
  obtain ⟨v, rfl, h⟩ := rps1 r
  obtain ⟨a, xs, rfl, s, nh, rr⟩ := rp_lst h
  have ex := bls_rps rr
  subst ex
  exact ⟨a, bs, rfl, SqL.of s, q _ _ H2 (Le.refl _) rfl (.bl _)⟩
/-! isinstance -/
def tyD : D → String
  | .non => "NoneType"
  | .bl _ => "bool"
  | .int _ => "int"
  | .str _ => "str"
  | .tup _ => "tuple"
  | .lst _ => "list"
  | .obj _ => "object"
theorem tyx_of {v : V} (hno : ∀ u, d ≠ .obj u) (r : Rp K H v d) : TyX K H v (.type (tyD d)) := by
  cases r with
  | non => exact .base .non
  | bl b => exact .base (.bl b)
  | int i => exact .base (.int i)
  | str x => exact .base (.str x)
  | obj v => exact absurd rfl (hno v)
  | lst h _ _ => exact .base (.lst h)
  | tup h _ =>
    rcases h with (h | ⟨o, h⟩) | h
    · exact .base (.tup h)
    · exact .fTuple h
    · obtain ⟨o, its, n, hk, hc, _⟩ := h
      exact .kTuple hk hc
theorem ed_isi {T : String} {b : Bool} (h : ED K ta σ H d) (ho : ∀ u, d ≠ .obj u) (hb : kitB (tyD d) T = some b) : ED K (tCB (rIsi K) (tCons ta (tCons (tC (.ty T)) tNil))) σ H (.bl b) := ed_cb (ea_cons h (ea_cons ed_obj ea_nil)) fun vs H2 _ r Q q => by
  obtain ⟨v, w, rfl, h1, h2⟩ := rps2 r
  have ew := rp_obj h2
  subst ew
  exact ⟨v, .ty T, .type (tyD d), .type T, b, rfl, .ty T, tyx_of ho h1, kit_ty hb, q _ _ H2 (Le.refl _) rfl (.bl _)⟩
end
end W1

set_option maxRecDepth 100000
set_option maxHeartbeats 4000000
/-! defs of a text, and the law's hand -/
namespace W1
open PySem PyProof.Rows L2
/-- a def of the text stands under its name -/
def GDef (K : PySem.W.Frag) (mg : Str → Option Value) (x : Str) (st : Stmt) (ps : List Str) : Prop := ∃ f fd, mg x = some (.ref f) ∧ Fun K x x st f fd ∧ Binds K fd ps []
/-- and keeps a promise -/
def Def (P : Program) (w : World) (K : PySem.W.Frag) (mg : Str → Option Value) (base : Heap) (k : Nat) (x : Str) (ps : List Str) (sp : Sp) : Prop :=
  ∃ f fd, mg x = some (.ref f) ∧ PySem.W.keepIn K (.ref f) = true ∧ Binds K fd ps [] ∧ FnOk P w K mg base CX0 k f fd ps sp
section
variable {P : Program} {w : World} {K : PySem.W.Frag} {mg : Str → Option Value} {base : Heap}
theorem defS {x : Str} {st : Stmt} {N ps : List Str} {k : Nat} {sp : Sp} (g : GDef K mg x st ps) (S : FnScope N ps (defScope st)) (hl : ∀ vs H Q E, sp vs H Q E → vs.length = ps.length)
    (body : ∀ (cdv : Value) (A : Around) (outer : List Env) (s : Shared) (f : Addr) (H : Hp) (vs : List V) (Q : VK) (E : XK), Room k (A.deeper (envOfC x (defScope st) s.heap.objs.size f cdv)) → sp vs H Q E →
      ∃ t, PSs (cxOf CX0 P w K mg base N x (defScope st) f cdv A outer s H E).nox (defBody st) t ∧ t { nx := fun _ H' => Q .non H', rt := Q } (start N vs) H) : Def P w K mg base (k + 1) x ps sp := by
  obtain ⟨f, fd, hm, F, hb⟩ := g
  exact ⟨f, fd, hm, F.kp, hb, F.ok S hl fun cdv A outer s H vs Q E hr h => body cdv A outer s f H vs Q E hr h⟩
theorem defD {x : Str} {st : Stmt} {N ps : List Str} {k : Nat} {R : List D → Hp → Pd → Prop} (g : GDef K mg x st ps) (S : FnScope N ps (defScope st)) (hl : ∀ ds H Pd, R ds H Pd → ds.length = ps.length)
    (body : ∀ (cdv : Value) (A : Around) (outer : List Env) (s : Shared) (f : Addr) (H : Hp) (vs : List V) (ds : List D) (Pd : Pd) (Q : VK) (E : XK), Room k (A.deeper (envOfC x (defScope st) s.heap.objs.size f cdv)) → Rps K H vs ds → R ds H Pd →
      (∀ v d H2, Le H H2 → Pd d H2 → Rp K H2 v d → Q v H2) →
      ∃ t, PSs (cxOf CX0 P w K mg base N x (defScope st) f cdv A outer s H E).nox (defBody st) t ∧ t { nx := fun _ H' => Q .non H', rt := Q } (start N vs) H) : Def P w K mg base (k + 1) x ps (spD K R) := by
  refine defS g S (fun vs H Q E h => ?_) fun cdv A outer s f H vs Q E hr h => ?_
  · obtain ⟨ds, Pd, r, h, _⟩ := h
    rw [r.len]
    exact hl ds H Pd h
  · obtain ⟨ds, Pd, r, h, q⟩ := h
    exact body cdv A outer s f H vs ds Pd Q E hr r h q
end
section
variable {X : Cx} {k j : Nat} {x : Str} {ps : List Str} {sp : Sp} {p pos : Pos} {e : Expr} {es : List Expr} {t : TA}
theorem pe_def (G : Def X.prog X.w X.K X.mg X.base k x ps sp) (hr : Room k X.A) (ha : PA X (e :: es) t) (hg : Gl X x := by rfl)
    (hdb : (x == ("__debug__" : Str)) = false := by decide) (he : starEach (e :: es) X.env = (false, eval e X.env) :: starEach es X.env := by rfl) (hpl : (backTo pos (starEach es X.env)).any (·.1) = false := by rfl) :
    PE X (.Call (.Name x p) (e :: es) [] pos) (tCall sp [] E0 t) := by
  obtain ⟨f, fd, hm, hk, hb, F⟩ := G
  exact pe_call F hr hg hm hk hb .nil pass0 ha hdb he hpl
end
/-! ### the hand: the law's cells and counters -/
structure HandAt (H : Hp) (h c : Addr) (cells : List Int) (p x s n : Int) : Prop where
  hand : H h = some (.lst [.ref c, .int p, .int x, .int s, .int n])
  cell : H c = some (.lst (cells.map V.int))
  p0 : 0 ≤ p
  x0 : 0 ≤ x
  pos : ∀ z ∈ cells, 0 ≤ z
def Hand (H : Hp) (h : Addr) : Prop := ∃ c cells p x s n, HandAt H h c cells p x s n
theorem HandAt.ne {H : Hp} {h c : Addr} {cells : List Int} {p x s n : Int} (a : HandAt H h c cells p x s n) : c ≠ h := fun e => by
  have h1 := a.hand
  rw [← e, a.cell] at h1
  have h2 := HO.lst.inj (Option.some.inj h1)
  cases cells with
  | nil => cases h2
  | cons z zs =>
    injection h2 with h3 _
    cases h3
theorem Hand.le {H H' : Hp} {h : Addr} (e : Le H H') (a : Hand H h) : Hand H' h := by
  obtain ⟨c, cells, p, x, s, n, a⟩ := a
  have c1 := e.lst a.cell (notH_ints cells)
  rcases e h _ a.hand with h1 | ⟨c2, p2, x2, s2, n2, p3, x3, s3, n3, e2, h1, u, v⟩
  · exact ⟨c, cells, p, x, s, n, h1, c1, a.p0, a.x0, a.pos⟩
  · have e3 := HO.lst.inj e2
    injection e3 with e4 e5
    injection e4 with e4
    subst e4
    exact ⟨c, cells, p3, x3, s3, n3, h1, c1, u, v, a.pos⟩
/-- the hand is changed: what else stands stands -/
theorem HandAt.put {H : Hp} {h c : Addr} {cells : List Int} {p x s n p2 x2 s2 n2 : Int} (a : HandAt H h c cells p x s n) (hp : 0 ≤ p2) (hx : 0 ≤ x2) :
    HandAt (upd H h (.lst [.ref c, .int p2, .int x2, .int s2, .int n2])) h c cells p2 x2 s2 n2 ∧ Le H (upd H h (.lst [.ref c, .int p2, .int x2, .int s2, .int n2])) := by
  refine ⟨⟨upd_same, by rw [upd_ne a.ne]; exact a.cell, hp, hx, a.pos⟩, fun b o e => ?_⟩
  by_cases hb : b = h
  · subst hb
    rw [a.hand] at e
    have e2 := Option.some.inj e
    exact .inr ⟨c, p, x, s, n, p2, x2, s2, n2, e2.symm, upd_same, hp, hx⟩
  · rw [upd_ne hb]
    exact .inl e
end W1

set_option maxRecDepth 100000
set_option maxHeartbeats 4000000
/-! comprehensions of typed data -/
namespace W1
open PySem PyProof.Rows L2
structure Enc {α : Type} (enc : α → D) : Prop where
  uni : (∀ a, ∃ i, enc a = .int i) ∨ ∀ a, (∀ i, enc a ≠ .int i) ∧ ∀ v, enc a ≠ .obj v
  noL : ∀ a, NoL (enc a)
theorem Enc.un {α : Type} {enc : α → D} (E : Enc enc) (zs : List α) : Uni (zs.map enc) := by
  rcases E.uni with u | u
  · refine .inl fun d hd => ?_
    obtain ⟨a, _, rfl⟩ := List.mem_map.mp hd
    exact u a
  · refine .inr fun d hd => ?_
    obtain ⟨a, _, rfl⟩ := List.mem_map.mp hd
    exact u a
theorem Enc.nl {α : Type} {enc : α → D} (E : Enc enc) (zs : List α) : ∀ d ∈ zs.map enc, NoL d := fun d hd => by
  obtain ⟨a, _, rfl⟩ := List.mem_map.mp hd
  exact E.noL a
theorem enc_int : Enc D.int := ⟨.inl fun a => ⟨a, rfl⟩, fun a => .int a⟩
theorem enc_bl : Enc D.bl := ⟨.inr fun a => ⟨fun _ => (fun e => nomatch e), fun _ => (fun e => nomatch e)⟩, fun a => .bl a⟩
theorem enc_tup {α : Type} {f : α → List D} (h : ∀ a, ∀ d ∈ f a, NoL d) : Enc fun a => D.tup (f a) := ⟨.inr fun a => ⟨fun _ => (fun e => nomatch e), fun _ => (fun e => nomatch e)⟩, fun a => .tup (h a)⟩
def eP (p : Int × Int) : D := .tup [.int p.1, .int p.2]
theorem enc_P : Enc eP := enc_tup fun a d hd => by
  rcases List.mem_cons.mp hd with rfl | hd
  · exact .int _
  · rcases List.mem_cons.mp hd with rfl | hd
    · exact .int _
    · cases hd
def GI {α : Type} (enc : α → D) (J : Nat → List α → Prop) : Nat → List D → Prop := fun i acc => ∃ zs : List α, acc = zs.map enc ∧ zs.length ≤ 50000 ∧ J i zs
theorem good {α : Type} {enc : α → D} (E : Enc enc) (J : Nat → List α → Prop) : Good (GI enc J) := by
  refine ⟨?_, ?_, ?_⟩
  · rintro i acc ⟨zs, rfl, _, _⟩
    exact E.un zs
  · rintro i acc ⟨zs, rfl, _, _⟩
    exact E.nl zs
  · rintro i acc ⟨zs, rfl, h, _⟩
    rw [List.length_map]
    exact h
theorem GI.more {α : Type} {enc : α → D} {J : Nat → List α → Prop} {i : Nat} {zs : List α} {a : α} (hz : (zs ++ [a]).length ≤ 50000) (j : J (i + 1) (zs ++ [a])) : GI enc J (i + 1) (zs.map enc ++ [enc a]) := ⟨zs ++ [a], by simp, hz, j⟩
section
variable {K : PySem.W.Frag} {σ : L2.St} {H H' : Hp} {ta tb tc te : TE} {tt : TT} {ra : TA} {d : D} {vs : List Nat} {α β : Type} {enc : α → D} {encS : β → D}
theorem map_at {xs : List β} {i : Nat} (h : (xs.map encS)[i]? = some d) : ∃ b, xs[i]? = some b ∧ d = encS b := by
  rw [List.getElem?_map] at h
  cases e : xs[i]? with
  | none =>
    rw [e] at h
    cases h
  | some b =>
    rw [e] at h
    exact ⟨b, rfl, (Option.some.inj h).symm⟩
theorem fm_yes {xs : List β} {i : Nat} {b : β} {f : β → Bool} {g : β → α} (h : xs[i]? = some b) (hf : f b = true) : ((xs.take (i + 1)).filter f).map g = ((xs.take i).filter f).map g ++ [g b] := by
  rw [List.take_add_one, h]
  simp [hf]
theorem fm_no {xs : List β} {i : Nat} {b : β} {f : β → Bool} {g : β → α} (h : xs[i]? = some b) (hf : f b = false) : ((xs.take (i + 1)).filter f).map g = ((xs.take i).filter f).map g := by
  rw [List.take_add_one, h]
  simp [hf]
theorem fm_len (xs : List β) (f : β → Bool) (g : β → α) : ((xs.filter f).map g).length ≤ xs.length := by
  rw [List.length_map]
  exact List.length_filter_le f xs
theorem et_yes : EB tYes σ H true := fun H1 _ Q q => q true H1 (Le.refl _) rfl
/-- [g b for b in xs if f b], xs a tuple -/
theorem ed_lcT (E : Enc enc) (xs : List β) (f : β → Bool) (g : β → α) {j : Nat} (h : ED K ta σ H (.tup (xs.map encS))) (hz : xs.length ≤ 50000) (hw : ∀ x, wipe ((wipe σ vs).set j (some x)) vs = wipe σ vs)
    (ht : ∀ b v H1, Le H H1 → b ∈ xs → Rp K H1 v (encS b) → EB tt ((wipe σ vs).set j (some v)) H1 (f b))
    (he : ∀ b v H1, Le H H1 → b ∈ xs → Rp K H1 v (encS b) → f b = true → ED K te ((wipe σ vs).set j (some v)) H1 (enc (g b))) : ED K (tLc (iTup K ta) (gName j) tt te vs) σ H (.lst (((xs.filter f).map g).map enc)) := by
  refine EP.weak (ep_lcT (I := GI enc fun i zs => zs = ((xs.take i).filter f).map g) (PT := fun i d b => ∃ y, xs[i]? = some y ∧ b = f y) (good E _) h hw ⟨[], rfl, Nat.zero_le _, by simp⟩ ?_ ?_ ?_) ?_
  · intro i d v acc H1 e hd r _
    obtain ⟨b, hb, rfl⟩ := map_at hd
    exact et_weak (ht b v H1 e (List.mem_of_getElem? hb) r) fun x p => ⟨b, hb, p⟩
  · rintro i d v acc H1 e hd r ⟨zs, rfl, hl, rfl⟩ ⟨b, hb, hf⟩
    obtain ⟨b2, hb2, rfl⟩ := map_at hd
    cases hb.symm.trans hb2
    refine (he b v H1 e (List.mem_of_getElem? hb) r hf.symm).weak fun d' H2 _ p => ?_
    have p' : d' = enc (g b) := p
    subst p'
    refine ⟨GI.more ?_ (fm_yes hb hf.symm).symm, E.noL _⟩
    rw [← fm_yes hb hf.symm]
    exact Nat.le_trans (fm_len _ f g) (Nat.le_trans (List.length_take_le _ _) (by
      have := (List.getElem?_eq_some_iff.mp hb).1
      omega))
  · rintro i d acc hd ⟨zs, rfl, hl, rfl⟩ ⟨b, hb, hf⟩
    exact ⟨_, rfl, hl, (fm_no hb hf.symm).symm⟩
  · rintro d H2 _ ⟨acc, rfl, zs, rfl, _, rfl⟩
    rw [List.length_map, List.take_length]
theorem ed_lcL (E : Enc enc) (xs : List β) (f : β → Bool) (g : β → α) {j : Nat} (h : ED K ta σ H (.lst (xs.map encS))) (hz : xs.length ≤ 50000) (hw : ∀ x, wipe ((wipe σ vs).set j (some x)) vs = wipe σ vs)
    (ht : ∀ b v H1, Le H H1 → b ∈ xs → Rp K H1 v (encS b) → EB tt ((wipe σ vs).set j (some v)) H1 (f b))
    (he : ∀ b v H1, Le H H1 → b ∈ xs → Rp K H1 v (encS b) → f b = true → ED K te ((wipe σ vs).set j (some v)) H1 (enc (g b))) : ED K (tLc (iList K ta) (gName j) tt te vs) σ H (.lst (((xs.filter f).map g).map enc)) := by
  refine EP.weak (ep_lcL (I := GI enc fun i zs => zs = ((xs.take i).filter f).map g) (PT := fun i d b => ∃ y, xs[i]? = some y ∧ b = f y) (good E _) h hw ⟨[], rfl, Nat.zero_le _, by simp⟩ ?_ ?_ ?_) ?_
  · intro i d v acc H1 e hd r _
    obtain ⟨b, hb, rfl⟩ := map_at hd
    exact et_weak (ht b v H1 e (List.mem_of_getElem? hb) r) fun x p => ⟨b, hb, p⟩
  · rintro i d v acc H1 e hd r ⟨zs, rfl, hl, rfl⟩ ⟨b, hb, hf⟩
    obtain ⟨b2, hb2, rfl⟩ := map_at hd
    cases hb.symm.trans hb2
    refine (he b v H1 e (List.mem_of_getElem? hb) r hf.symm).weak fun d' H2 _ p => ?_
    have p' : d' = enc (g b) := p
    subst p'
    refine ⟨GI.more ?_ (fm_yes hb hf.symm).symm, E.noL _⟩
    rw [← fm_yes hb hf.symm]
    exact Nat.le_trans (fm_len _ f g) (Nat.le_trans (List.length_take_le _ _) (by
      have := (List.getElem?_eq_some_iff.mp hb).1
      omega))
  · rintro i d acc hd ⟨zs, rfl, hl, rfl⟩ ⟨b, hb, hf⟩
    exact ⟨_, rfl, hl, (fm_no hb hf.symm).symm⟩
  · rintro d H2 _ ⟨acc, rfl, zs, rfl, _, rfl⟩
    rw [List.length_map, List.take_length]
/-- .. over range(n) -/
theorem ed_lcR (E : Enc enc) {n : Nat} (f : Nat → Bool) (g : Nat → α) {j : Nat} (h : EDA K ra σ H [.int (n : Int)]) (hz : n ≤ 50000) (hw : ∀ x, wipe ((wipe σ vs).set j (some x)) vs = wipe σ vs)
    (ht : ∀ (i : Nat) H1, Le H H1 → i < n → EB tt ((wipe σ vs).set j (some (.int (i : Int)))) H1 (f i))
    (he : ∀ (i : Nat) H1, Le H H1 → i < n → f i = true → ED K te ((wipe σ vs).set j (some (.int (i : Int)))) H1 (enc (g i))) : ED K (tLc (iRng1 ra) (gName j) tt te vs) σ H (.lst ((((List.range n).filter f).map g).map enc)) := by
  refine EP.weak (ep_lcR1 (I := GI enc fun i zs => zs = ((List.range i).filter f).map g) (PT := fun i b => b = f i) (good E _) h (by omega) hw ⟨[], rfl, Nat.zero_le _, by simp⟩ ?_ ?_ ?_) ?_
  · intro i acc H1 e hi _
    exact ht i H1 e (by omega)
  · rintro i acc H1 e hi ⟨zs, rfl, hl, rfl⟩ hf
    refine (he i H1 e (by omega) hf.symm).weak fun d' H2 _ p => ?_
    have p' : d' = enc (g i) := p
    subst p'
    have ey : ((List.range (i + 1)).filter f).map g = ((List.range i).filter f).map g ++ [g i] := by
      rw [List.range_succ]
      simp [← hf]
    refine ⟨GI.more ?_ ey.symm, E.noL _⟩
    rw [← ey]
    refine Nat.le_trans (fm_len _ f g) ?_
    rw [List.length_range]
    omega
  · rintro i acc hi ⟨zs, rfl, hl, rfl⟩ hf
    refine ⟨_, rfl, hl, ?_⟩
    show _ = ((List.range (i + 1)).filter f).map g
    rw [List.range_succ]
    simp [← hf]
  · rintro d H2 _ ⟨acc, rfl, zs, rfl, _, rfl⟩
    rw [Int.toNat_natCast]
/-- a list of n things of which each has been drawn: all have Z -/
theorem ep_lcR (E : Enc enc) {n : Nat} (Z : α → Prop) {j : Nat} (h : EDA K ra σ H [.int (n : Int)]) (hz : n ≤ 50000) (hw : ∀ x, wipe ((wipe σ vs).set j (some x)) vs = wipe σ vs)
    (he : ∀ (i : Nat) H1, Le H H1 → i < n → EP K te ((wipe σ vs).set j (some (.int (i : Int)))) H1 (fun d _ => ∃ a, d = enc a ∧ Z a)) :
    EP K (tLc (iRng1 ra) (gName j) tYes te vs) σ H (fun d _ => ∃ zs : List α, d = .lst (zs.map enc) ∧ zs.length = n ∧ ∀ a ∈ zs, Z a) := by
  refine EP.weak (ep_lcR1 (I := GI enc fun i zs => zs.length = i ∧ ∀ a ∈ zs, Z a) (PT := fun i b => b = true) (good E _) h (by omega) hw ⟨[], rfl, Nat.zero_le _, rfl, by simp⟩ ?_ ?_ ?_) ?_
  · intro i acc H1 e hi _
    exact et_yes
  · rintro i acc H1 e hi ⟨zs, rfl, hl, rfl, hZ⟩ _
    refine (he _ H1 e (by omega)).weak fun d' H2 _ p => ?_
    obtain ⟨a, rfl, za⟩ := p
    refine ⟨GI.more (by simp; omega) ⟨by simp, fun x hx => ?_⟩, E.noL _⟩
    rcases List.mem_append.mp hx with hx | hx
    · exact hZ x hx
    · rw [List.mem_singleton.mp hx]
      exact za
  · rintro i acc hi _ hf
    cases hf
  · rintro d H2 _ ⟨acc, rfl, zs, rfl, _, hl, hZ⟩
    exact ⟨zs, rfl, by rw [hl, Int.toNat_natCast], hZ⟩
/-- xs a list, each item kept or not as it is drawn: some of xs, in order -/
theorem ep_lcSub (E : Enc enc) (xs : List α) (Z : α → Prop) {j : Nat} (h : ED K ta σ H (.lst (xs.map enc))) (hz : xs.length ≤ 50000) (hw : ∀ x, wipe ((wipe σ vs).set j (some x)) vs = wipe σ vs)
    (ht : ∀ b v H1, Le H H1 → b ∈ xs → Rp K H1 v (enc b) → ET tt ((wipe σ vs).set j (some v)) H1 (fun x => x = true → Z b))
    (he : ∀ b v H1, Le H H1 → b ∈ xs → Rp K H1 v (enc b) → ED K te ((wipe σ vs).set j (some v)) H1 (enc b)) : EP K (tLc (iList K ta) (gName j) tt te vs) σ H (fun d _ => ∃ zs : List α, d = .lst (zs.map enc) ∧ zs.Sublist xs) := by
  refine EP.weak (ep_lcL (I := GI enc fun i zs => zs.Sublist (xs.take i)) (PT := fun i d b => True) (good E _) h hw ⟨[], rfl, Nat.zero_le _, by simp⟩ ?_ ?_ ?_) ?_
  · intro i d v acc H1 e hd r _
    obtain ⟨b, hb, rfl⟩ := map_at hd
    exact et_weak (ht b v H1 e (List.mem_of_getElem? hb) r) fun x p => trivial
  · rintro i d v acc H1 e hd r ⟨zs, rfl, hl, hs⟩ _
    obtain ⟨b, hb, rfl⟩ := map_at hd
    refine (he b v H1 e (List.mem_of_getElem? hb) r).weak fun d' H2 _ p => ?_
    have p' : d' = enc b := p
    subst p'
    have ht : xs.take (i + 1) = xs.take i ++ [b] := by
      rw [List.take_add_one, hb]
      rfl
    have hs2 : (zs ++ [b]).Sublist (xs.take (i + 1)) := by
      rw [ht]
      exact hs.append (List.Sublist.refl _)
    exact ⟨GI.more (Nat.le_trans hs2.length_le (Nat.le_trans (List.length_take_le' _ _) hz)) hs2, E.noL _⟩
  · rintro i d acc hd ⟨zs, rfl, hl, hs⟩ _
    exact ⟨zs, rfl, hl, hs.trans (List.take_sublist_take_left (Nat.le_succ i))⟩
  · rintro d H2 _ ⟨acc, rfl, zs, rfl, _, hs⟩
    rw [List.length_map, List.take_length] at hs
    exact ⟨zs, rfl, hs⟩
/-- [g (lo + i)] over range(lo, hi) -/
theorem ed_lcR2 (E : Enc enc) {lo hi : Int} (g : Int → α) {j : Nat} (h : EDA K ra σ H [.int lo, .int hi]) (hz : -50000 ≤ lo ∧ lo ≤ 50000 ∧ -50000 ≤ hi ∧ hi ≤ 50000 ∧ hi - lo ≤ 50000) (hw : ∀ x, wipe ((wipe σ vs).set j (some x)) vs = wipe σ vs)
    (he : ∀ (i : Nat) H1, Le H H1 → lo + (i : Int) < hi → ED K te ((wipe σ vs).set j (some (.int (lo + (i : Int))))) H1 (enc (g (lo + (i : Int))))) : ED K (tLc (iRng2 ra) (gName j) tYes te vs) σ H (.lst (((List.range (hi - lo).toNat).map fun i : Nat => g (lo + (i : Int))).map enc)) := fun H1 e Q q => h H1 e _ fun ws ds H2 e2 p r => by
  have p' : ds = [.int lo, .int hi] := p
  subst p'
  obtain ⟨v, w, rfl, r1, r2⟩ := rps2 r
  have e3 := rp_int r1
  have e4 := rp_int r2
  subst e3 e4
  have G := good (enc := enc) E fun i zs => zs = (List.range i).map fun i : Nat => g (lo + (i : Int))
  refine ⟨lo, hi, rfl, by omega, fun L hL => lc_it (walk_range (lo := lo) (n := (hi - lo).toNat)) (CI K H2 L (GI enc fun i zs => zs = (List.range i).map fun i : Nat => g (lo + (i : Int)))) (ci_start (I := GI enc fun i zs => zs = (List.range i).map fun i : Nat => g (lo + (i : Int))) hL ⟨[], rfl, Nat.zero_le _, by simp⟩) (fun _ _ _ _ => trivial) ?_ (fun H' c => ?_)⟩
  · rintro i x H' _ hi2 c ⟨rfl, rfl⟩
    refine ⟨hw _, ci_turn G c (fun acc ia => et_yes) ?_ (fun acc ia pt => nomatch pt)⟩
    rintro acc ⟨zs, rfl, hl, rfl⟩ _
    refine (he i H2 (e.trans e2) (by omega)).weak fun d' H3 _ p => ?_
    have p' : d' = enc (g (lo + (i : Int))) := p
    subst p'
    refine ⟨GI.more ?_ ?_, E.noL _⟩
    · rw [List.length_append, List.length_map, List.length_range, List.length_singleton]
      omega
    · show _ = (List.range (i + 1)).map fun i : Nat => g (lo + (i : Int))
      rw [List.range_succ, List.map_append]
      rfl
  · exact ci_end G c fun v d H3 e3 p r => q v d H3 (e2.trans e3) (by
      obtain ⟨acc, rfl, zs, rfl, _, rfl⟩ := p
      rfl) r
/-- [g p for a, b in pairs if f p] -/
theorem ed_lcT2 (E : Enc enc) (xs : List (Int × Int)) (f : Int × Int → Bool) (g : Int × Int → α) {j l : Nat} (h : ED K ta σ H (.tup (xs.map eP))) (hz : xs.length ≤ 50000) (hw : ∀ x y, wipe (((wipe σ vs).set j (some x)).set l (some y)) vs = wipe σ vs)
    (ht : ∀ p H1, Le H H1 → p ∈ xs → EB tt (((wipe σ vs).set j (some (.int p.1))).set l (some (.int p.2))) H1 (f p))
    (he : ∀ p H1, Le H H1 → p ∈ xs → f p = true → ED K te (((wipe σ vs).set j (some (.int p.1))).set l (some (.int p.2))) H1 (enc (g p))) :
    ED K (tLc (iTup K ta) (gTup K 2 (gCons (gName j) (gCons (gName l) gNil))) tt te vs) σ H (.lst (((xs.filter f).map g).map enc)) := fun H1 e Q q => h H1 e _ fun v d0 H2 e2 p r => by
  have p' : d0 = .tup (xs.map eP) := p
  subst p'
  obtain ⟨a, us, rfl, s, rr⟩ := rp_tup r
  have G := good (enc := enc) E fun i zs => zs = ((xs.take i).filter f).map g
  refine ⟨a, rfl, ⟨us, s⟩, fun L hL => lc_it (walk_tup (xs := us)) (CI K H2 L (GI enc fun i zs => zs = ((xs.take i).filter f).map g)) (ci_start (I := GI enc fun i zs => zs = ((xs.take i).filter f).map g) hL ⟨[], rfl, Nat.zero_le _, by simp⟩) (fun i H' _ c => c.2.1.sqt s) ?_ (fun H' c => ?_)⟩
  · rintro i x H' _ hi c ⟨rfl, hx⟩
    obtain ⟨d, h1, h2⟩ := rr.at' hx
    obtain ⟨b, hb, rfl⟩ := map_at h1
    obtain ⟨t, ys, rfl, st, r3⟩ := rp_tup (h2.le c.2.1)
    obtain ⟨v1, v2, rfl, q1, q2⟩ := rps2 r3
    have e3 := rp_int q1
    have e4 := rp_int q2
    subst e3 e4
    have hm := List.mem_of_getElem? hb
    refine ⟨t, _, rfl, st, rfl, _, _, rfl, _, _, rfl, rfl, hw _ _, ci_turn G c (PT := fun x => x = f b) (fun acc ia => ht b H2 (e.trans e2) hm) ?_ ?_⟩
    · rintro acc ⟨zs, rfl, hl, rfl⟩ hf
      refine (he b H2 (e.trans e2) hm hf.symm).weak fun d' H3 _ p => ?_
      have p' : d' = enc (g b) := p
      subst p'
      refine ⟨GI.more ?_ (fm_yes hb hf.symm).symm, E.noL _⟩
      rw [← fm_yes hb hf.symm]
      exact Nat.le_trans (fm_len _ f g) (Nat.le_trans (List.length_take_le _ _) (by
        have := (List.getElem?_eq_some_iff.mp hb).1
        omega))
    · rintro acc ⟨zs, rfl, hl, rfl⟩ hf
      exact ⟨_, rfl, hl, (fm_no hb hf.symm).symm⟩
  · rw [rr.len, List.length_map] at c
    exact ci_end G c fun v d H3 e3 p r => q v d H3 (e2.trans e3) (by
      obtain ⟨acc, rfl, zs, rfl, _, rfl⟩ := p
      show D.lst _ = D.lst _
      rw [List.take_length]) r
end
end W1

set_option maxRecDepth 100000
set_option maxHeartbeats 4000000
/-! the same, something behind -/
namespace W1
open PySem PyProof.Rows L2
section
variable {K : PySem.W.Frag} {σ : L2.St} {H H' : Hp} {ta tb tc te : TE} {t u : TT} {x y z v : V} {d d1 d2 d3 : D} {P P1 P2 P3 : Pd} {D1 : Ends} {tu tw tz : TS} {g : TG}
theorem q_asg {i : Nat} (h : EP K te σ H P) (k : ∀ v d H1, Le H H1 → P d H1 → Rp K H1 v d → tz D1 (σ.set i (some v)) H1) : tSeq (tAsg te (gName i)) tz D1 σ H := s_asg (D1 := { D1 with nx := tz D1 }) h k
theorem q_asgD {i : Nat} (h : ED K te σ H d) (k : ∀ v H1, Le H H1 → Rp K H1 v d → tz D1 (σ.set i (some v)) H1) : tSeq (tAsg te (gName i)) tz D1 σ H := s_asgD (D1 := { D1 with nx := tz D1 }) h k
theorem q_tup2 {i j : Nat} (h : ED K te σ H (.tup [d1, d2])) (k : ∀ v w H1, Le H H1 → Rp K H1 v d1 → Rp K H1 w d2 → tz D1 ((σ.set i (some v)).set j (some w)) H1) : tSeq (tAsg te (gTup K 2 (gCons (gName i) (gCons (gName j) gNil)))) tz D1 σ H := s_tup2 (D1 := { D1 with nx := tz D1 }) h k
theorem q_tup3 {i j l : Nat} {PA : List D → Hp → Prop} {ta : TA} (h : EA K ta σ H PA) (hl : ∀ ds H1, PA ds H1 → ds.length = 3)
    (k : ∀ v w u d1 d2 d3 H1, Le H H1 → PA [d1, d2, d3] H1 → Rp K H1 v d1 → Rp K H1 w d2 → Rp K H1 u d3 → ∀ H2, Le H1 H2 → tz D1 (((σ.set i (some v)).set j (some w)).set l (some u)) H2) : tSeq (tAsg (tTup ta) (gTup K 3 (gCons (gName i) (gCons (gName j) (gCons (gName l) gNil))))) tz D1 σ H := s_tup3 (D1 := { D1 with nx := tz D1 }) h hl k
theorem q_par2 {i j : Nat} {ta : TA} {PA : List D → Hp → Prop} (h : EA K ta σ H PA) (hl : ∀ ds H1, PA ds H1 → ds.length = 2)
    (k : ∀ v w d1 d2 H1, Le H H1 → PA [d1, d2] H1 → Rp K H1 v d1 → Rp K H1 w d2 → tz D1 ((σ.set i (some v)).set j (some w)) H1) : tSeq (tPar i j ta) tz D1 σ H := s_par2 (D1 := { D1 with nx := tz D1 }) h hl k
theorem q_drop (h : EP K te σ H P) (k : ∀ H1, Le H H1 → tz D1 σ H1) : tSeq (tDrop te) tz D1 σ H := s_drop (D1 := { D1 with nx := tz D1 }) h k
theorem q_if {P : Bool → Prop} (h : ET t σ H P) (h1 : P true → ∀ H1, Le H H1 → tu { D1 with nx := tz D1 } σ H1) (h2 : P false → ∀ H1, Le H H1 → tw { D1 with nx := tz D1 } σ H1) : tSeq (tIfS t tu tw) tz D1 σ H := s_if (D1 := { D1 with nx := tz D1 }) h h1 h2
theorem q_ifB {b : Bool} (h : EB t σ H b) (h1 : b = true → ∀ H1, Le H H1 → tu { D1 with nx := tz D1 } σ H1) (h2 : b = false → ∀ H1, Le H H1 → tw { D1 with nx := tz D1 } σ H1) : tSeq (tIfS t tu tw) tz D1 σ H := s_ifB (D1 := { D1 with nx := tz D1 }) h h1 h2
theorem q_set {l : Addr} {vs : List V} {ds : List D} {i : Int} (hl : H l = some (.lst vs)) (nh : NotH vs) (hr : vs.length = ds.length) (h : EP K te σ H P) (ho : ∀ H1, Le H H1 → ED K ta σ H1 (.obj (.ref l))) (hi : ∀ H1, Le H H1 → ED K tb σ H1 (.int i)) (h0 : 0 ≤ i) (hj : i < ds.length)
    (k : ∀ y d H1 H3, Le H H1 → P d H1 → Le H1 H3 → Rp K H3 y d → H3 l = some (.lst vs) → tz D1 σ (upd H3 l (.lst (vs.set i.toNat y)))) : tSeq (tAsg te (gSub ta tb rSetL)) tz D1 σ H := s_set (D1 := { D1 with nx := tz D1 }) hl nh hr h ho hi h0 hj k
theorem q_app {l : Addr} {vs : List V} (hl : H l = some (.lst vs)) (nh : NotH vs) (ha : ED K ta σ H (.obj (.ref l))) (h : ∀ H1, Le H H1 → EP K te σ H1 P) (hz : vs.length < 100000)
    (k : ∀ y d H1, Le H H1 → P d H1 → Rp K H1 y d → H1 l = some (.lst vs) → tz D1 σ (upd H1 l (.lst (vs ++ [y])))) : tSeq (tDrop (tBM K "list" rAppend ta (tCons te tNil))) tz D1 σ H := s_app (D1 := { D1 with nx := tz D1 }) hl nh ha h hz k
theorem q_ext {l : Addr} {vs : List V} {ds : List D} (hl : H l = some (.lst vs)) (nh : NotH vs) (ha : ED K ta σ H (.obj (.ref l))) (h : ∀ H1, Le H H1 → ED K te σ H1 (.lst ds)) (hz : vs.length + ds.length ≤ 100000)
    (k : ∀ ws H1, Le H H1 → Rps K H1 ws ds → H1 l = some (.lst vs) → tz D1 σ (upd H1 l (.lst (vs ++ ws)))) : tSeq (tDrop (tBM K "list" rExtend ta (tCons te tNil))) tz D1 σ H := s_ext (D1 := { D1 with nx := tz D1 }) hl nh ha h hz k
theorem q_forT {ds : List D} (h : ED K te σ H (.tup ds)) (nl : ∀ d ∈ ds, NoL d)
    (k : ∀ H1, Le H H1 → ∃ Pv : Nat → L2.St → Hp → Prop, Pv 0 σ H1 ∧ (∀ i σ' H', i ≤ ds.length → Pv i σ' H' → LeT H1 H') ∧
      (∀ i d v σ' H', ds[i]? = some d → Rp K H' v d → Pv i σ' H' → g v σ' H' fun σ2 H2 => tu ({ D1 with nx := Pv (i + 1), ct := Pv (i + 1), bk := tz D1 }) σ2 H2) ∧ ∀ σ' H', Pv ds.length σ' H' → tz D1 σ' H') : tSeq (tFor (iTup K te) g tu) tz D1 σ H := s_forT (D1 := { D1 with nx := tz D1 }) h nl k
theorem q_forL {ds : List D} (h : ED K te σ H (.lst ds)) (nl : ∀ d ∈ ds, NoL d)
    (k : ∀ a vs H1, Le H H1 → H1 a = some (.lst vs) → Rps K H1 vs ds → ∃ Pv : Nat → L2.St → Hp → Prop, Pv 0 σ H1 ∧ (∀ i σ' H', i ≤ ds.length → Pv i σ' H' → LeT H1 H' ∧ H' a = some (.lst vs)) ∧
      (∀ i d v σ' H', ds[i]? = some d → Rp K H' v d → Pv i σ' H' → g v σ' H' fun σ2 H2 => tu ({ D1 with nx := Pv (i + 1), ct := Pv (i + 1), bk := tz D1 }) σ2 H2) ∧ ∀ σ' H', Pv ds.length σ' H' → tz D1 σ' H') : tSeq (tFor (iList K te) g tu) tz D1 σ H := s_forL (D1 := { D1 with nx := tz D1 }) h nl k
theorem q_forR1 {ta : TA} {n : Int} (h : EDA K ta σ H [.int n]) (hn : -100000 ≤ n ∧ n ≤ 100000)
    (k : ∀ H1, Le H H1 → ∃ Pv : Nat → L2.St → Hp → Prop, Pv 0 σ H1 ∧
      (∀ (i : Nat) σ' H', (i : Int) < n → Pv i σ' H' → g (.int (i : Int)) σ' H' fun σ2 H2 => tu ({ D1 with nx := Pv (i + 1), ct := Pv (i + 1), bk := tz D1 }) σ2 H2) ∧ ∀ σ' H', Pv n.toNat σ' H' → tz D1 σ' H') : tSeq (tFor (iRng1 ta) g tu) tz D1 σ H := s_forR1 (D1 := { D1 with nx := tz D1 }) h hn k
theorem q_forR2 {ta : TA} {lo n : Int} (h : EDA K ta σ H [.int lo, .int n]) (hl : -100000 ≤ lo ∧ lo ≤ 100000 ∧ -100000 ≤ n ∧ n ≤ 100000)
    (k : ∀ H1, Le H H1 → ∃ Pv : Nat → L2.St → Hp → Prop, Pv 0 σ H1 ∧
      (∀ (i : Nat) σ' H', lo + (i : Int) < n → Pv i σ' H' → g (.int (lo + (i : Int))) σ' H' fun σ2 H2 => tu ({ D1 with nx := Pv (i + 1), ct := Pv (i + 1), bk := tz D1 }) σ2 H2) ∧ ∀ σ' H', Pv (n - lo).toNat σ' H' → tz D1 σ' H') : tSeq (tFor (iRng2 ta) g tu) tz D1 σ H := s_forR2 (D1 := { D1 with nx := tz D1 }) h hl k
theorem q_forE {ta : TA} {j : Nat} {ds : List D} (h : EDA K ta σ H [.tup ds]) (nl : ∀ d ∈ ds, NoL d)
    (k : ∀ H1, Le H H1 → ∃ Pv : Nat → L2.St → Hp → Prop, Pv 0 σ H1 ∧ (∀ i σ' H', i ≤ ds.length → Pv i σ' H' → LeT H1 H') ∧
      (∀ (i : Nat) d v σ' H' H2, ds[i]? = some d → Pv i σ' H' → Le H' H2 → Rp K H2 v d → g v (σ'.set j (some (.int (i : Int)))) H2 fun σ2 H3 => gNil [] σ2 H3 fun σ4 H4 => tu ({ D1 with nx := Pv (i + 1), ct := Pv (i + 1), bk := tz D1 }) σ4 H4) ∧ ∀ σ' H', Pv ds.length σ' H' → tz D1 σ' H')  : tSeq (tFor (iEnumT K ta) (gTup K 2 (gCons (gName j) (gCons g gNil))) tu) tz D1 σ H := s_forE (D1 := { D1 with nx := tz D1 }) h nl k
theorem q_when {P : Bool → Prop} (h : ET t σ H P) (h1 : P true → ∀ H1, Le H H1 → tu { D1 with nx := tz D1 } σ H1) (h2 : P false → ∀ H1, Le H H1 → tz D1 σ H1) : tSeq (tIfS t tu tNext) tz D1 σ H := s_if (D1 := { D1 with nx := tz D1 }) h h1 h2
theorem q_whenB {b : Bool} (h : EB t σ H b) (h1 : b = true → ∀ H1, Le H H1 → tu { D1 with nx := tz D1 } σ H1) (h2 : b = false → ∀ H1, Le H H1 → tz D1 σ H1) : tSeq (tIfS t tu tNext) tz D1 σ H := s_ifB (D1 := { D1 with nx := tz D1 }) h h1 h2
theorem q_cut {M : L2.St → Hp → Prop} (h : tu { D1 with nx := M } σ H) (k : ∀ σ' H', M σ' H' → tz D1 σ' H') : Evl.tCut tu tz D1 σ H := ⟨M, h, k⟩
end
end W1

set_option maxRecDepth 100000
set_option maxHeartbeats 4000000
/-! new lists -/
namespace W1
open PySem PyProof.Rows L2
section
variable {K : PySem.W.Frag} {σ : L2.St} {H H' : Hp} {ta tb tc te : TE} {t u : TT} {d d1 d2 d3 : D} {P P1 P2 P3 : Pd} {D1 : Ends} {tu tw tz : TS} {g : TG}
/-- e makes a new list of data ds of which P holds -/
def EF (K : PySem.W.Frag) (te : TE) (σ : L2.St) (H : Hp) (P : List D → Prop) : Prop := ∀ H1, Le H H1 → ∀ Q : VK, (∀ p vs ds H2, H1 p = none → Le H1 H2 → H2 p = some (.lst vs) → NotH vs → Rps K H2 vs ds → P ds → Q (.ref p) H2) → te σ H1 Q
abbrev EFD (K : PySem.W.Frag) (te : TE) (σ : L2.St) (H : Hp) (ds : List D) : Prop := EF K te σ H fun x => x = ds
theorem EF.ep {PL : List D → Prop} (h : EF K te σ H PL) : EP K te σ H (fun d _ => ∃ ds, d = .lst ds ∧ PL ds) := fun H1 e Q q => h H1 e Q fun p vs ds H2 _ e2 hp nh r pl => q _ (.lst ds) H2 e2 ⟨ds, rfl, pl⟩ (.lst hp nh r)
theorem EFD.ed {ds : List D} (h : EFD K te σ H ds) : ED K te σ H (.lst ds) := fun H1 e Q q => h H1 e Q fun p vs ds' H2 _ e2 hp nh r pl => by
  have p' : ds' = ds := pl
  subst p'
  exact q _ (.lst ds') H2 e2 rfl (.lst hp nh r)
theorem ef_lst {A : TA} {ds : List D} (h : EDA K A σ H ds) (hl : ds.length ≤ 100000) (hc : calmL ds = true) : EFD K (tLst A) σ H ds := fun H1 e Q q => h H1 e _ fun vs es H2 e2 p r => by
  have p' : es = ds := p
  subst p'
  exact ⟨by rw [r.len]; exact Evl.sz_of hl, fun a na => q a vs es _ (e2.fresh na) (e2.trans (Le.new na)) upd_same (calm_notH hc r) (r.le (Le.new na)) rfl⟩
theorem ef_lstOfT {ds : List D} (h : ED K ta σ H (.tup ds)) (hu : Uni ds) : EFD K (tCB (rLstOf K) (tCons ta tNil)) σ H ds := fun H1 e Q q => h H1 e _ fun v d H2 e2 p r => by
  have p' : d = .tup ds := p
  subst p'
  obtain ⟨a, xs, rfl, s, rr⟩ := rp_tup r
  refine ⟨a, xs, rfl, .inr s, fun l hl => ?_⟩
  have rf := rr.le (Le.new (o := .lst xs) hl)
  exact q l xs ds _ (e2.fresh hl) (e2.trans (Le.new hl)) upd_same (hu.notH rf) rf rfl
theorem ef_lstOfL {ds : List D} (h : ED K ta σ H (.lst ds)) : EFD K (tCB (rLstOf K) (tCons ta tNil)) σ H ds := fun H1 e Q q => h H1 e _ fun v d H2 e2 p r => by
  have p' : d = .lst ds := p
  subst p'
  obtain ⟨a, xs, rfl, s, nh, rr⟩ := rp_lst r
  exact ⟨a, xs, rfl, .inl (SqL.of s), fun l hl => q l xs ds _ (e2.fresh hl) (e2.trans (Le.new hl)) upd_same nh (rr.le (Le.new hl)) rfl⟩
theorem ef_rep {ds : List D} {k : Int} (ha : ED K ta σ H (.lst ds)) (hb : ED K tb σ H (.int k)) (h1 : 0 ≤ k ∧ k ≤ 1000) (hz : ds.length ≤ 1000) (hu : Uni (List.replicate k.toNat ds).flatten) : EFD K (tOp rRep ta tb) σ H (List.replicate k.toNat ds).flatten := fun H1 e Q q =>
  ha H1 e _ fun x d1 H2 e2 p1 r1 => hb H2 (e.trans e2) _ fun y d2 H3 e3 p2 r2 => by
    have p1' : d1 = .lst ds := p1
    have p2' : d2 = .int k := p2
    subst p1' p2'
    obtain ⟨a, xs, rfl, s, nh, rr⟩ := rp_lst (r1.le e3)
    have hm : xs.length * k.toNat ≤ 1000 * 1000 := Nat.mul_le_mul (by rw [rr.len]; exact hz) (by omega)
    refine ⟨a, k, xs, rfl, rp_int r2, s, by omega, by omega, Nat.le_trans hm (by decide), fun p np => ?_⟩
    have rf := (rr.le (Le.new (o := .lst (List.replicate k.toNat xs).flatten) np)).flat k.toNat
    exact q p _ _ _ ((e2.trans e3).fresh np) ((e2.trans e3).trans (Le.new np)) upd_same (hu.notH rf) rf rfl
theorem s_asgF {i : Nat} {PL : List D → Prop} (h : EF K te σ H PL) (k : ∀ p vs ds H1, H p = none → Le H H1 → H1 p = some (.lst vs) → NotH vs → Rps K H1 vs ds → PL ds → D1.nx (σ.set i (some (.ref p))) H1) : tAsg te (gName i) D1 σ H := h H (Le.refl _) _ k
theorem q_asgF {i : Nat} {PL : List D → Prop} (h : EF K te σ H PL) (k : ∀ p vs ds H1, H p = none → Le H H1 → H1 p = some (.lst vs) → NotH vs → Rps K H1 vs ds → PL ds → tz D1 (σ.set i (some (.ref p))) H1) : tSeq (tAsg te (gName i)) tz D1 σ H := s_asgF (D1 := { D1 with nx := tz D1 }) h k
end
end W1

set_option maxRecDepth 100000
set_option maxHeartbeats 4000000
/-! rules whose reading names the written part, with its name given -/
namespace W1
open PySem PyProof.Rows L2
section
variable {X : Cx} {K : PySem.W.Frag} {w : World}
theorem kop_in (h : X.K = K := by rfl) : OpR X (compareOp .In) (rIn K false) := h ▸ op_in_seq
theorem kop_nin (h : X.K = K := by rfl) : OpR X (compareOp .NotIn) (rIn K true) := h ▸ op_notIn_seq
theorem kop_catA (h : X.K = K := by rfl) : OpR X (binaryOp .Add) (rCatA K) := h ▸ op_catA
theorem kop_rep1 (h : X.K = K := by rfl) : OpR X (binaryOp .Mult) (rRep1 K) := h ▸ op_rep1
theorem kop_eqD (hu : X.A.units + 64 < cLine) (h : X.K = K := by rfl) : OpR X (compareOp .Eq) (rEqD K) := h ▸ op_eqD hu
theorem kop_neD (hu : X.A.units + 64 < cLine) (h : X.K = K := by rfl) : OpR X (compareOp .NotEq) (rNeD K) := h ▸ op_neD hu
theorem kop_ltT (hu : X.A.units < cLine) (h : X.K = K := by rfl) : OpR X (compareOp .Lt) (rLtT K) := h ▸ op_ltT hu
theorem kop_leT (hu : X.A.units < cLine) (h : X.K = K := by rfl) : OpR X (compareOp .LtE) (rLeT K) := h ▸ op_leT hu
theorem kix_tup (h : X.K = K := by rfl) : IxR X (rIxT K) := h ▸ ix_tup
theorem kix_list (h : X.K = K := by rfl) : IxR X (rIxL K) := h ▸ ix_list
theorem ksl_tup (h : X.K = K := by rfl) : SlR X (rSlA K) := h ▸ sl_tupA
theorem ksl_list (h : X.K = K := by rfl) : SlR X (rSlL K) := h ▸ sl_list
theorem kc_len (h : X.K = K := by rfl) : CallR X (.builtin "len") (fun xs H Q => ∃ p ys, xs = [.ref p] ∧ (SqL K H p ys ∨ SqT K H p ys) ∧ Q (.int ys.length) H) := h ▸ call_len_seq
theorem kc_tuple (h : X.K = K := by rfl) : CallR X (.type "tuple") (rTupOf K) := h ▸ call_tuple_of
theorem kc_list (h : X.K = K := by rfl) : CallR X (.type "list") (rLstOf K) := h ▸ call_list_of
theorem kc_sortedI (h : X.K = K := by rfl) : CallR X (.builtin "sorted") (rSortedI K) := h ▸ cr_sortedI
theorem kc_all (hc : X.calm = true) (h : X.K = K := by rfl) : CallR X (.builtin "all") (rAll K) := h ▸ cr_all hc
theorem kc_setL (hc : X.calm = true) (h : X.K = K := by rfl) (h2 : X.w = w := by rfl) : CallR X (.type "set") (rSetOfL K w) := h2 ▸ h ▸ cr_setL hc
theorem kc_sortedSet (hc : X.calm = true) (h2 : X.w = w := by rfl) : CallR X (.builtin "sorted") (rSortedSet w) := h2 ▸ cr_sortedSet hc
theorem kc_isi (h : X.K = K := by rfl) : CallR X (.builtin "isinstance") (rIsi K) := h ▸ call_isi
theorem kpg_tup {es : List Expr} {k : Nat} {t : TGs} {n : Nat} {pos : Pos} (hc : X.calm = true) (hp : PGs X es t) (hn : (assignEach es X.env).length = n := by rfl) (hst : (assignEach es X.env).findIdx? (·.1) = none := by rfl) (h : X.K = K := by rfl) :
    PG X (.Tuple es k pos) (gTup K n t) := h ▸ pg_tup hc hp hn hst
theorem kpe_fld {e : Expr} {f : Str} {ta : TE} {pos : Pos} (he : PE X e ta) (hb : attributeBase e f X.env (eval e X.env) = eval e X.env := by rfl) (h : X.K = K := by rfl) : PE X (.Attribute e f pos) (tFld K ta f) := h ▸ pe_fld he hb
theorem kpi_list {l tg : Expr} {tl : TE} (hl : PE X l tl) (h : X.K = K := by rfl) : PI X tg l (iList K tl) := h ▸ pi_list hl
theorem kpi_tup {l tg : Expr} {tl : TE} (hl : PE X l tl) (h : X.K = K := by rfl) : PI X tg l (iTup K tl) := h ▸ pi_tup hl
theorem kpi_enumT {e : Expr} {ta : TA} {p pos tp : Pos} {elts : List Expr} {kk : Nat} (hg : Gl X "enumerate") (hm : X.mg "enumerate" = none) (ha : PA X [e] ta) (hs : starEach [e] X.env = [(false, eval e X.env)] := by rfl) (h : X.K = K := by rfl) :
    PI X (.Tuple elts kk tp) (.Call (.Name "enumerate" p) [e] [] pos) (iEnumT K ta) := h ▸ pi_enumT hg hm ha hs
theorem kpe_revL {e : Expr} {te : TE} {k : Nat} {p1 p2 p3 pos : Pos} (he : PE X e te) (h : X.K = K := by rfl) : PE X (.Subscript e (.Slice none none (some (.UnaryOp .USub (.Constant (.int 1) k p1) p2)) p3) pos) (tRevL K te) := h ▸ pe_revL he
end
end W1

set_option maxRecDepth 100000
set_option maxHeartbeats 4000000
namespace W1
open PySem PyProof.Rows L2
section
variable {K : PySem.W.Frag} {σ : L2.St} {H H' : Hp} {ta tb tc te : TE} {tt : TT} {ra : TA} {t u : TT} {d d1 d2 d3 : D} {P P1 P2 P3 : Pd} {D1 : Ends} {tu tw tz : TS} {g : TG} {vs : List Nat} {α : Type} {enc : α → D}
/-- a loop over a list that is known by what holds of it -/
theorem s_forLP {PL : List α → Prop} (E : Enc enc) (h : EP K te σ H fun d _ => ∃ xs : List α, d = .lst (xs.map enc) ∧ PL xs)
    (k : ∀ xs a us H1, PL xs → Le H H1 → H1 a = some (.lst us) → NotH us → ∃ Pv : Nat → L2.St → Hp → Prop, Pv 0 σ H1 ∧ (∀ i σ' H', i ≤ xs.length → Pv i σ' H' → LeT H1 H' ∧ H' a = some (.lst us)) ∧
      (∀ i x v σ' H', xs[i]? = some x → Rp K H' v (enc x) → Pv i σ' H' → g v σ' H' fun σ2 H2 => tu { D1 with nx := Pv (i + 1), ct := Pv (i + 1), bk := D1.nx } σ2 H2) ∧ ∀ σ' H', Pv xs.length σ' H' → D1.nx σ' H') : tFor (iList K te) g tu D1 σ H := h H (Le.refl _) _ fun v d0 H1 e p r => by
  obtain ⟨xs, rfl, pl⟩ := p
  obtain ⟨a, us, rfl, s, nh, rr⟩ := rp_lst r
  obtain ⟨Pv, h0, hle, hs, hd⟩ := k xs a us H1 pl e s nh
  have el : us.length = xs.length := by rw [rr.len, List.length_map]
  refine ⟨a, rfl, ⟨us, SqL.of s⟩, for_it (walk_list (xs := us)) Pv h0 (fun i σ' H' hi q => SqL.of (hle i σ' H' (by rw [← el]; exact hi) q).2) ?_ (fun σ' H' q => hd σ' H' (by rw [← el]; exact q))⟩
  rintro i x σ' H' _ hi q ⟨rfl, hx⟩
  obtain ⟨d, h1, h2⟩ := rr.at' hx
  obtain ⟨b, hb, rfl⟩ := map_at h1
  exact hs i b x σ' _ hb (h2.leT (hle i σ' _ (by rw [← el]; omega) q).1 (E.noL _)) q
theorem q_forLP {PL : List α → Prop} (E : Enc enc) (h : EP K te σ H fun d _ => ∃ xs : List α, d = .lst (xs.map enc) ∧ PL xs)
    (k : ∀ xs a us H1, PL xs → Le H H1 → H1 a = some (.lst us) → NotH us → ∃ Pv : Nat → L2.St → Hp → Prop, Pv 0 σ H1 ∧ (∀ i σ' H', i ≤ xs.length → Pv i σ' H' → LeT H1 H' ∧ H' a = some (.lst us)) ∧
      (∀ i x v σ' H', xs[i]? = some x → Rp K H' v (enc x) → Pv i σ' H' → g v σ' H' fun σ2 H2 => tu { D1 with nx := Pv (i + 1), ct := Pv (i + 1), bk := tz D1 } σ2 H2) ∧ ∀ σ' H', Pv xs.length σ' H' → tz D1 σ' H') : tSeq (tFor (iList K te) g tu) tz D1 σ H := s_forLP (D1 := { D1 with nx := tz D1 }) E h k
/-- [x for x in range(n) if ..] -/
theorem ep_lcRS {n : Nat} {j : Nat} (h : EDA K ra σ H [.int (n : Int)]) (hz : n ≤ 50000) (hw : ∀ x, wipe ((wipe σ vs).set j (some x)) vs = wipe σ vs)
    (ht : ∀ (i : Nat) H1, Le H H1 → i < n → ET tt ((wipe σ vs).set j (some (.int (i : Int)))) H1 fun _ => True)
    (he : ∀ (i : Nat) H1, Le H H1 → i < n → ED K te ((wipe σ vs).set j (some (.int (i : Int)))) H1 (.int (i : Int))) :
    EP K (tLc (iRng1 ra) (gName j) tt te vs) σ H (fun d _ => ∃ zs : List Int, d = .lst (zs.map .int) ∧ zs.length ≤ n ∧ ∀ z ∈ zs, 0 ≤ z ∧ z < n) := by
  refine EP.weak (ep_lcR1 (I := GI D.int fun i zs => zs.length ≤ i ∧ ∀ z ∈ zs, 0 ≤ z ∧ z < (n : Int)) (PT := fun i b => True) (good enc_int _) h (by omega) hw ⟨[], rfl, Nat.zero_le _, Nat.le_refl _, by simp⟩ ?_ ?_ ?_) ?_
  · intro i acc H1 e hi _
    exact ht i H1 e (by omega)
  · rintro i acc H1 e hi ⟨zs, rfl, hl, hl2, hZ⟩ _
    refine (he i H1 e (by omega)).weak fun d' H2 _ p => ?_
    have p' : d' = .int (i : Int) := p
    subst p'
    refine ⟨GI.more (by simp; omega) ⟨by simp; omega, fun x hx => ?_⟩, .int _⟩
    rcases List.mem_append.mp hx with hx | hx
    · exact hZ x hx
    · rw [List.mem_singleton.mp hx]
      omega
  · rintro i acc hi ⟨zs, rfl, hl, hl2, hZ⟩ _
    exact ⟨zs, rfl, hl, by omega, hZ⟩
  · rintro d H2 _ ⟨acc, rfl, zs, rfl, _, hl, hZ⟩
    rw [Int.toNat_natCast] at hl
    exact ⟨zs, rfl, hl, hZ⟩
/-- new, known by what holds of it -/
theorem EP.anyL {PL : List D → Prop} (h : EP K te σ H fun d _ => ∃ ds, d = .lst ds ∧ PL ds) : EP K te σ H fun d _ => ∃ ds, d = .lst ds := h.weak fun d _ _ ⟨ds, e, _⟩ => ⟨ds, e⟩
theorem EA_weak {A : TA} {P1 P2 : List D → Hp → Prop} (h : EA K A σ H P1) (w : ∀ ds H2, P1 ds H2 → P2 ds H2) : EA K A σ H P2 := fun H1 a Q q => h H1 a Q fun vs ds H2 b p r => q vs ds H2 b (w ds H2 p) r
/-! promises of a new list -/
def spF (K : PySem.W.Frag) (R : List D → Hp → (List D → Prop) → Prop) : Sp := fun vs H Q _ => ∃ ds PL, Rps K H vs ds ∧ R ds H PL ∧ ∀ p us es H2, H p = none → Le H H2 → H2 p = some (.lst us) → NotH us → Rps K H2 us es → PL es → Q (.ref p) H2
theorem ef_call {R : List D → Hp → (List D → Prop) → Prop} {E : XK} {A : TA} {ds : List D} {PL : List D → Prop} (h : EDA K A σ H ds) (hr : ∀ H2, Le H H2 → R ds H2 PL) : EF K (tCall (spF K R) [] E A) σ H PL := fun H1 e Q q =>
  h H1 e _ fun vs es H2 e2 p r => by
    have p' : es = ds := p
    subst p'
    exact ⟨es, PL, by rw [List.append_nil]; exact r, hr H2 (e.trans e2), fun a us fs H3 na e3 ha nh r3 pl => q a us fs H3 (e2.fresh na) (e2.trans e3) ha nh r3 pl⟩
theorem ef_sortedI {PN : List Int → Prop} (h : EP K ta σ H fun d _ => ∃ ns : List Int, d = .lst (ns.map .int) ∧ PN ns) :
    EF K (tCB (rSortedI K) (tCons ta tNil)) σ H (fun ds => ∃ ns ns' : List Int, ds = ns'.map .int ∧ PN ns ∧ ns'.Perm ns ∧ ns'.Pairwise (· ≤ ·)) := fun H1 e Q q => h H1 e _ fun v d H2 e2 p r => by
  obtain ⟨ns, rfl, pn⟩ := p
  obtain ⟨a, xs, rfl, s, nh, rr⟩ := rp_lst r
  have ex := ints_rps rr
  subst ex
  exact ⟨a, ns, rfl, SqL.of s, fun ns' p hp hs hn => q p _ _ _ (e2.fresh hn) (e2.trans (Le.new hn)) upd_same (notH_ints _) (rps_ints _) ⟨ns, ns', rfl, pn, hp, hs⟩⟩
theorem s_retF {PL : List D → Prop} (h : EF K te σ H PL) (k : ∀ p us ds H1, H p = none → Le H H1 → H1 p = some (.lst us) → NotH us → Rps K H1 us ds → PL ds → D1.rt (.ref p) H1) : tRet te D1 σ H := h H (Le.refl _) _ k
theorem EF.le {PL : List D → Prop} (e : Le H H') (h : EF K te σ H PL) : EF K te σ H' PL := fun H1 a Q q => h H1 (e.trans a) Q q
theorem s_forLF {PL : List α → Prop} (E : Enc enc) (h : EF K te σ H fun ds => ∃ xs : List α, ds = xs.map enc ∧ PL xs)
    (k : ∀ xs a us H1, PL xs → H a = none → Le H H1 → H1 a = some (.lst us) → NotH us → ∃ Pv : Nat → L2.St → Hp → Prop, Pv 0 σ H1 ∧ (∀ i σ' H', i ≤ xs.length → Pv i σ' H' → LeT H1 H' ∧ H' a = some (.lst us)) ∧
      (∀ i x v σ' H', xs[i]? = some x → Rp K H' v (enc x) → Pv i σ' H' → g v σ' H' fun σ2 H2 => tu { D1 with nx := Pv (i + 1), ct := Pv (i + 1), bk := D1.nx } σ2 H2) ∧ ∀ σ' H', Pv xs.length σ' H' → D1.nx σ' H') : tFor (iList K te) g tu D1 σ H := h H (Le.refl _) _ fun a us ds H1 na e s nh rr p => by
  obtain ⟨xs, rfl, pl⟩ := p
  obtain ⟨Pv, h0, hle, hs, hd⟩ := k xs a us H1 pl na e s nh
  have el : us.length = xs.length := by rw [rr.len, List.length_map]
  refine ⟨a, rfl, ⟨us, SqL.of s⟩, for_it (walk_list (xs := us)) Pv h0 (fun i σ' H' hi q => SqL.of (hle i σ' H' (by rw [← el]; exact hi) q).2) ?_ (fun σ' H' q => hd σ' H' (by rw [← el]; exact q))⟩
  rintro i x σ' H' _ hi q ⟨rfl, hx⟩
  obtain ⟨d, h1, h2⟩ := rr.at' hx
  obtain ⟨b, hb, rfl⟩ := map_at h1
  exact hs i b x σ' _ hb (h2.leT (hle i σ' _ (by rw [← el]; omega) q).1 (E.noL _)) q
theorem q_forLF {PL : List α → Prop} (E : Enc enc) (h : EF K te σ H fun ds => ∃ xs : List α, ds = xs.map enc ∧ PL xs)
    (k : ∀ xs a us H1, PL xs → H a = none → Le H H1 → H1 a = some (.lst us) → NotH us → ∃ Pv : Nat → L2.St → Hp → Prop, Pv 0 σ H1 ∧ (∀ i σ' H', i ≤ xs.length → Pv i σ' H' → LeT H1 H' ∧ H' a = some (.lst us)) ∧
      (∀ i x v σ' H', xs[i]? = some x → Rp K H' v (enc x) → Pv i σ' H' → g v σ' H' fun σ2 H2 => tu { D1 with nx := Pv (i + 1), ct := Pv (i + 1), bk := tz D1 } σ2 H2) ∧ ∀ σ' H', Pv xs.length σ' H' → tz D1 σ' H') : tSeq (tFor (iList K te) g tu) tz D1 σ H := s_forLF (D1 := { D1 with nx := tz D1 }) E h k
end
section
variable {P : Program} {w : World} {K : PySem.W.Frag} {mg : Str → Option Value} {base : Heap}
theorem defF {x : Str} {st : Stmt} {N ps : List Str} {k : Nat} {R : List D → Hp → (List D → Prop) → Prop} (g : GDef K mg x st ps) (S : FnScope N ps (defScope st)) (hl : ∀ ds H Pd, R ds H Pd → ds.length = ps.length)
    (body : ∀ (cdv : Value) (A : Around) (outer : List Env) (s : Shared) (f : Addr) (H : Hp) (vs : List V) (ds : List D) (PL : List D → Prop) (Q : VK) (E : XK), Room k (A.deeper (envOfC x (defScope st) s.heap.objs.size f cdv)) → Rps K H vs ds → R ds H PL →
      (∀ p us es H2, H p = none → Le H H2 → H2 p = some (.lst us) → NotH us → Rps K H2 us es → PL es → Q (.ref p) H2) →
      ∃ t, PSs (cxOf CX0 P w K mg base N x (defScope st) f cdv A outer s H E).nox (defBody st) t ∧ t { nx := fun _ H' => Q .non H', rt := Q } (start N vs) H) : Def P w K mg base (k + 1) x ps (spF K R) := by
  refine defS g S (fun vs H Q E h => ?_) fun cdv A outer s f H vs Q E hr h => ?_
  · obtain ⟨ds, Pd, r, h, _⟩ := h
    rw [r.len]
    exact hl ds H Pd h
  · obtain ⟨ds, Pd, r, h, q⟩ := h
    exact body cdv A outer s f H vs ds Pd Q E hr r h q
end
end W1

set_option maxRecDepth 100000
set_option maxHeartbeats 4000000
namespace W1
open PySem PyProof.Rows L2
section
variable {X : Cx} {K : PySem.W.Frag} {σ : L2.St} {H H' : Hp} {ta tb tc te : TE} {tt : TT} {t u : TT} {d d1 d2 d3 : D} {P P1 P2 P3 : Pd} {D1 : Ends} {tu tw tz : TS}
/-- a name of the module that holds a number -/
theorem pe_gl {x : Str} {pos : Pos} {v : V} (hm : ∃ u, X.mg x = some u ∧ RelV v u) (hg : Gl X x := by rfl) (hd : (x == ("__debug__" : Str)) = false := by decide) : PE X (.Name x pos) (tC v) := by
  obtain ⟨u, h1, h2⟩ := hm
  exact pe_glob hg h1 h2 hd
/-- a way that is not taken -/
theorem s_no {b : Bool} (h : EB t σ H b) (hb : b = false) (k : ∀ H1, Le H H1 → tw D1 σ H1) : tIfS t tu tw D1 σ H := s_ifB h (fun e => by rw [hb] at e; cases e) fun _ => k
theorem q_no {b : Bool} (h : EB t σ H b) (hb : b = false) (k : ∀ H1, Le H H1 → tz D1 σ H1) : tSeq (tIfS t tu tNext) tz D1 σ H := s_no (D1 := { D1 with nx := tz D1 }) h hb k
theorem kitB_bool : kitB "bool" "int" = some true := by decide +kernel
end
/-! ### which data is an integer -/
def isI : D → Bool
  | .int _ => true
  | _ => false
def btw (l m : Int) : D → Bool
  | .int i => decide (l ≤ i) && decide (i ≤ m)
  | _ => false
def noObj : D → Bool
  | .obj _ => false
  | _ => true
theorem noObj_ne {d : D} (h : noObj d = true) : ∀ u, d ≠ .obj u := fun u e => by
  subst e
  cases h
def subI : D → Bool
  | .int _ => true
  | .bl _ => true
  | _ => false
theorem kit_int {d : D} (h : noObj d = true) : kitB (tyD d) "int" = some (subI d) := by
  cases d <;> first | rfl | decide +kernel | cases h
theorem kit_bool {d : D} (h : noObj d = true) : kitB (tyD d) "bool" = some (match d with | .bl _ => true | _ => false) := by
  cases d <;> first | rfl | decide +kernel | cases h
theorem kit_tup {d : D} (h : noObj d = true) : kitB (tyD d) "tuple" = some (match d with | .tup _ => true | _ => false) := by
  cases d <;> first | rfl | decide +kernel | cases h
/-! ### a web -/
def webFs (m t n : V) : List (Str × V) := putF "near" n (putF "ties" t (putF "memories" m []))
theorem mt_ : ¬ (("memories" : Str) = "ties") := by decide +kernel
theorem mn_ : ¬ (("memories" : Str) = "near") := by decide +kernel
theorem tn_ : ¬ (("ties" : Str) = "near") := by decide +kernel
theorem web_m (m t n : V) : (webFs m t n).lookup ("memories" : Str) = some m := by
  unfold webFs
  rw [lookup_putF, if_neg mn_, lookup_putF, if_neg mt_, lookup_putF, if_pos rfl]
theorem web_t (m t n : V) : (webFs m t n).lookup ("ties" : Str) = some t := by
  unfold webFs
  rw [lookup_putF, if_neg tn_, lookup_putF, if_pos rfl]
theorem web_n (m t n : V) : (webFs m t n).lookup ("near" : Str) = some n := by
  unfold webFs
  rw [lookup_putF, if_pos rfl]
structure WTxt (K : PySem.W.Frag) (C : Addr) : Prop where
  cl : Cls K C
  nM : NoAttr K C "memories"
  nT : NoAttr K C "ties"
  nN : NoAttr K C "near"
end W1

set_option maxRecDepth 100000
set_option maxHeartbeats 4000000
/-! own rules: zip of a tuple and a list; a tuple from behind -/
namespace L2
open PySem PySem.Spec PyProof.Rows
/-- the tuple at a and the list at b side by side, the items of each turn in a new pair -/
def IzTL (K : PySem.W.Frag) (a b : Addr) : It where
  go := fun i H => ∃ (xs ys : List V) (x y : V), SqT K H a xs ∧ SqL K H b ys ∧ xs[i]? = some x ∧ ys[i]? = some y
  yld := fun i H v H' => ∃ T x y, v = .ref T ∧ H T = none ∧ H' = upd H T (.tup [x, y]) ∧ (∀ xs, SqT K H a xs → xs[i]? = some x) ∧ ∀ ys, SqL K H b ys → ys[i]? = some y
  stop := fun i H => ∃ xs ys : List V, SqT K H a xs ∧ SqL K H b ys ∧ (xs.length ≤ i ∨ ys.length ≤ i) ∧ i ≤ xs.length ∧ i ≤ ys.length
theorem sqt_inj {X : Cx} {pins : List (Addr × Obj)} {σ : L2.St} {H : Hp} {s : Shared} {a : Addr} {xs ys : List V} (I : Inv X pins σ H s) (h1 : SqT X.K H a xs) (h2 : SqT X.K H a ys) : xs = ys := I.tuple_inj h1 h2
theorem turn_zTL {P : Program} {w : World} {K : PySem.W.Frag} {elts : List Expr} {kk : Nat} {tp : Pos} {a b z TI TO i1 i2 : Addr} (S : ZipSep2 z TI TO i1 i2 [i1, a] [i2, b]) (ha : a ≠ i1) (hb : b ≠ i2) :
    Turn P w K (.Tuple elts kk tp) (IzTL K a b) [z, TI, TO, i1, i2] z (fun i h => IsZip h z TI TO .none ∧ IsTupOf2 h TI (.ref i1) (.ref i2) ∧ (∃ x y, IsTupOf2 h TO x y) ∧ h.IsTupleIter i1 a i ∧ h.IsListIter i2 b i) := by
  refine ⟨by simp, ?_, ?_, ?_, ?_, ?_⟩
  · rintro i h ⟨g1, g2, ⟨x, y, g3⟩, ⟨o4, g4, _, k4⟩, ⟨o5, g5, _, k5⟩⟩ c hc
    simp only [List.mem_cons, List.not_mem_nil, or_false] at hc
    rcases hc with rfl | rfl | rfl | rfl | rfl
    · exact ⟨_, g1, fun v q => nomatch q⟩
    · exact ⟨_, g2, fun v q => nomatch q⟩
    · exact ⟨_, g3, fun v q => nomatch q⟩
    · exact ⟨o4, g4, fun v q => by rw [k4] at q; cases q⟩
    · exact ⟨o5, g5, fun v q => by rw [k5] at q; cases q⟩
  · rintro i h h' ⟨g1, g2, ⟨x, y, g3⟩, g4, g5⟩ k
    exact ⟨k _ (by simp) _ g1, k _ (by simp) _ g2, ⟨x, y, k _ (by simp) _ g3⟩, g4.at fun o q => k _ (by simp) o q, g5.at fun o q => k _ (by simp) o q⟩
  · intro X hP hw hK hc i pins s σ H E I hf st hg
    subst hP hw hK
    obtain ⟨g1, g2, ⟨x0, y0, g3⟩, g4, g5⟩ := st
    obtain ⟨xs, ys, x, y, hqx, hqy, hx, hy⟩ := hg
    obtain ⟨its, rv, pt, _⟩ := I.tuple hqx
    obtain ⟨jts, rw', pl, _⟩ := I.list hqy
    have hzl : z < s.heap.objs.size := Heap.lt_size g1
    have hn : X.A.in1.handled = none := by
      have h0 := I.ok.hd hc
      simpa using h0
    have in1 : i < its.toArray.size := by
      have h2 := (List.getElem?_eq_some_iff.mp hx).1
      have h3 := rv.length
      simpa [← h3] using h2
    have in2 : i < jts.toArray.size := by
      have h2 := (List.getElem?_eq_some_iff.mp hy).1
      have h3 := rw'.length
      simpa [← h3] using h2
    refine wpAny_pyNext_zipD2_item S (Draws.tuple hn i1 a ha its.toArray) (Draws.list hn i2 b hb jts.toArray) g1 g2 g3 ⟨g4, isTup_isTuple pt⟩ ⟨g5, pl.isList⟩ in1 in2 fun u1 u2 h' tk hu1 hu2 z' TO' s1' s2' hT hsz hk => ?_
    refine ⟨_, rfl, wpAny_letOwnedTupleGo_zip (s := { s with heap := h', toks := tk }) z' fun h2 z2 sb => ?_⟩
    have hT2 : h2.get? s.heap.objs.size = some { cls := .type "tuple", data := .seq #[u1, u2] } := (sb.2 _ (Nat.ne_of_gt hzl)).trans hT
    obtain ⟨w1, hw1, ru1⟩ := rv.get hx
    obtain ⟨w2, hw2, ru2⟩ := rw'.get hy
    have e1 : u1 = w1 := by
      have h3 : its.toArray[i]? = some w1 := by simpa using hw1
      exact Option.some.inj (hu1.symm.trans h3)
    have e2 : u2 = w2 := by
      have h3 : jts.toArray[i]? = some w2 := by simpa using hw2
      exact Option.some.inj (hu2.symm.trans h3)
    subst e1 e2
    have nw : ObjOk X.prog X.w (upd H s.heap.objs.size (.tup [x, y])) h2 s.heap.objs.size (.tup [x, y]) := by
      refine ⟨?_, [u1, u2], .cons ru1 (.cons ru2 .nil), ?_⟩
      · show 2 ≤ sizeLine
        decide
      · exact ⟨_, hT2, rfl, _, rfl⟩
    have nz : ∀ c, c ∉ [z, TI, TO, i1, i2] → c ≠ z ∧ c ≠ TO ∧ c ≠ i1 ∧ c ≠ i2 := fun c hc => ⟨fun q => hc (by simp [q]), fun q => hc (by simp [q]), fun q => hc (by simp [q]), fun q => hc (by simp [q])⟩
    have I1 : Inv X pins σ (upd H s.heap.objs.size (.tup [x, y])) { s with heap := h2, toks := tk } := by
      refine I.turnedNew (ch := [z, TI, TO, i1, i2]) (fun c o hb q => ?_) hf (Nat.le_refl _) nw
      obtain ⟨n1, n2, n3, n4⟩ := nz c hb
      exact (sb.2 c n1).trans (hk c o n1 n2 n3 n4 q)
    refine ⟨.ref s.heap.objs.size, _, I1, rfl, ⟨_, x, y, rfl, I.hok.fresh (Nat.le_refl _), rfl, fun l hl => ?_, fun l hl => ?_⟩, ⟨z2, ?_, ⟨u1, u2, ?_⟩, ?_, ?_⟩, fun c hcm => ?_⟩
    · rw [sqt_inj I hl hqx]
      exact hx
    · rw [I.list_inj hl hqy]
      exact hy
    · exact (sb.2 _ S.TIz).trans (hk _ _ S.TIz S.TITO S.TIi1 S.TIi2 g2)
    · exact (sb.2 _ S.TOz).trans TO'
    · exact s1'.1.at fun o q => (sb.2 i1 (Ne.symm S.zi1)).trans q
    · exact s2'.1.at fun o q => (sb.2 i2 (Ne.symm S.zi2)).trans q
    · have hlt : c < s.heap.objs.size := by
        simp only [List.mem_cons, List.not_mem_nil, or_false] at hcm
        obtain ⟨o4, q4, _⟩ := g4
        obtain ⟨o5, q5, _⟩ := g5
        rcases hcm with rfl | rfl | rfl | rfl | rfl
        · exact hzl
        · exact Heap.lt_size g2
        · exact Heap.lt_size g3
        · exact Heap.lt_size q4
        · exact Heap.lt_size q5
      rw [upd_ne (Nat.ne_of_lt hlt)]
      exact (hf c hcm).1
  · intro X hP hw hK hc i pins s σ H E I hf st hg
    subst hP hw hK
    obtain ⟨g1, g2, ⟨x0, y0, g3⟩, g4, g5⟩ := st
    obtain ⟨xs, ys, hqx, hqy, hend, l1, l2⟩ := hg
    obtain ⟨its, rv, pt, _⟩ := I.tuple hqx
    obtain ⟨jts, rw', pl, _⟩ := I.list hqy
    have hn : X.A.in1.handled = none := by
      have h0 := I.ok.hd hc
      simpa using h0
    have e1 : its.toArray.size = xs.length := by simp [← rv.length]
    have e2 : jts.toArray.size = ys.length := by simp [← rw'.length]
    refine wpAny_pyNext_zipD2_end S (Draws.tuple hn i1 a ha its.toArray) (Draws.list hn i2 b hb jts.toArray) g1 g2 g3 ⟨g4, isTup_isTuple pt⟩ ⟨g5, pl.isList⟩ (by omega) (by omega) (by omega) fun h' tk hk => ⟨rfl, ?_⟩
    exact I.turnedL (t' := tk) (ch := [z, TI, TO, i1, i2]) (fun c o hb q => hk c o (fun e => hb (by simp [e])) (fun e => hb (by simp [e])) (fun e => hb (by simp [e])) (fun e => hb (by simp [e])) q) hf
  · rintro A i s Q E ⟨g1, _⟩ h
    exact wpAny_pyIter_zip g1 h
def iZTL (K : PySem.W.Frag) (ta : TA) : TI := fun σ H R => ta σ H fun vs H1 => ∃ a b xs ys, vs = [.ref a, .ref b] ∧ SqT K H1 a xs ∧ SqL K H1 b ys ∧ R (IzTL K a b) H1
theorem pi_zTL {X : Cx} {e e2 : Expr} {ta : TA} {p pos tp : Pos} {elts : List Expr} {kk : Nat} (hg : Gl X "zip") (hm : X.mg "zip" = none) (ha : PA X [e, e2] ta)
    (hs : starEach [e, e2] X.env = (false, eval e X.env) :: starEach [e2] X.env := by rfl) (hpl : (backTo pos (starEach [e2] X.env)).any (·.1) = false := by rfl) :
    PI X (.Tuple elts kk tp) (.Call (.Name "zip" p) [e, e2] [] pos) (iZTL X.K ta) := by
  constructor
  intro pins s σ H R I h
  refine Call_ (ld_blt I hg hm boot_zip ?_)
  refine PyProof.Rows.callWith_type1 (thn (ha.run pos pins s σ H _ I h) fun us s1 hh => ?_) hs hpl
  obtain ⟨vs, H1, I1, r1, a, b, xs, ys, rfl, hqx, hqy, q⟩ := hh
  cases r1 with
  | cons r rr =>
    cases rr with
    | cons r' rr =>
      cases rr
      cases r
      cases r'
      obtain ⟨its, rv, pt, _⟩ := I1.tuple hqx
      obtain ⟨jts, rw', pl, _⟩ := I1.list hqy
      have la : a < s1.heap.objs.size := by
        obtain ⟨o, ho, _⟩ := pt
        exact Heap.lt_size ho
      have lb : b < s1.heap.objs.size := pl.lt
      refine zip_begins2 (begins_tuple a its.toArray) (begins_list b jts.toArray) (isTup_isTuple pt) pl.isList fun h' y1 y2 y3 y4 y5 y6 hk => ?_
      refine wpAny_pyIter_zip y1 ?_
      have I2 : Inv X pins σ H1 { s1 with heap := h' } := I1.kept (t' := s1.toks) hk
      have S : ZipSep2 (s1.heap.objs.size + 4) (s1.heap.objs.size + 2) (s1.heap.objs.size + 3) s1.heap.objs.size (s1.heap.objs.size + 1) [s1.heap.objs.size, a] [s1.heap.objs.size + 1, b] := zip_sep2 (fp1 := [a]) (fp2 := [b]) (fun c hc => by rw [List.mem_singleton.mp hc]; exact la) (fun c hc => by rw [List.mem_singleton.mp hc]; exact lb)
      refine ⟨s1.heap.objs.size + 4, [s1.heap.objs.size + 4, s1.heap.objs.size + 2, s1.heap.objs.size + 3, s1.heap.objs.size, s1.heap.objs.size + 1], _, _, H1, rfl, I2, turn_zTL S (Nat.ne_of_lt la) (Nat.ne_of_lt (Nat.lt_succ_of_lt lb)), ⟨y1, y2, ⟨_, _, y3⟩, ⟨_, y4, rfl, rfl⟩, ⟨_, y5, rfl, rfl⟩⟩, fun c hc => ?_, q⟩
      have hle : s1.heap.objs.size ≤ c := by
        simp only [List.mem_cons, List.not_mem_nil, or_false] at hc
        rcases hc with rfl | rfl | rfl | rfl | rfl <;> first | exact Nat.le_refl _ | exact Nat.le_add_right _ _
      exact I1.fpOk hle (I1.hok.fresh hle)
theorem walk_zTL {K : PySem.W.Frag} {a b : Addr} {xs ys : List V} (hl : xs.length = ys.length) : Walk (IzTL K a b) xs.length (fun H => SqT K H a xs ∧ SqL K H b ys) (YPair (fun i => xs[i]?) (fun i => ys[i]?)) := by
  constructor
  · intro i H hi q
    have h2 : i < ys.length := by omega
    exact ⟨xs, ys, xs[i], ys[i], q.1, q.2, by simp [hi], by simp [h2]⟩
  · intro H q
    exact ⟨xs, ys, q.1, q.2, .inl (Nat.le_refl _), Nat.le_refl _, by omega⟩
  · rintro i H v H' _ q ⟨T, x, y, h1, h2, h3, h4, h5⟩
    exact ⟨T, x, y, h1, h2, h3, h4 xs q.1, h5 ys q.2⟩

/-! ### a tuple from behind -/
section
variable {P : Program} {w : World} {A : Around} {E : Value → Shared → Prop} {s : Shared}
theorem back_adjust (n : Nat) : Builtin.Slice.sliceAdjust none none (-1) (n : Int) = ((n : Int) - 1, -1) := by
  unfold Builtin.Slice.sliceAdjust
  rfl
theorem back_places (n : Nat) : Builtin.Slice.slicePlaces ((n : Int) - 1) (-1) (-1) = n := by
  unfold Builtin.Slice.slicePlaces
  rw [if_neg (by decide)]
  by_cases hn : (n : Int) - 1 > -1
  · rw [if_pos hn]
    have e : -(-1 : Int) = 1 := by decide
    rw [e, Int.ediv_one]
    omega
  · rw [if_neg hn]
    omega
theorem back_items {α : Type} (xs : Array α) : ((List.range xs.size).filterMap fun (m : Nat) => xs[((xs.size : Int) - 1 + (m : Int) * (-1)).toNat]?) = xs.toList.reverse := by
  apply List.ext_getElem?
  intro i
  have h0 : ∀ n, n ≤ xs.size → ((List.range n).filterMap fun (m : Nat) => xs[((xs.size : Int) - 1 + (m : Int) * (-1)).toNat]?) = (xs.toList.reverse).take n := by
    intro n
    induction n with
    | zero => intro _; simp
    | succ n ih =>
      intro hn
      have hi : n < xs.toList.reverse.length := by simp; omega
      rw [List.range_succ, List.filterMap_append, ih (by omega), List.take_add_one, List.getElem?_eq_getElem hi]
      congr 1
      have e : ((xs.size : Int) - 1 + (n : Int) * (-1)).toNat = xs.size - 1 - n := by omega
      have e2 : xs[xs.size - 1 - n]? = some (xs.toList.reverse[n]) := by
        rw [Array.getElem?_eq_getElem (by omega)]
        simp
      show List.filterMap _ [n] = _
      rw [List.filterMap_cons, e, e2]
      rfl
  rw [h0 xs.size (Nat.le_refl _), List.take_of_length_le (by simp)]
theorem tup_back {t c : Addr} {its : Array Value} {v : Value} {Q : Value → Shared → Prop} (qt : IsTup s.heap t its) (qs : s.heap.IsSliceOf c .none .none v) (pv : IsPart v (some (-1))) (hz : its.size ≤ sizeLine)
    (h : Q (.ref s.heap.objs.size) { s with heap := s.heap.push { cls := .type "tuple", data := .seq its.toList.reverse.toArray } }) : wpAny (model P w) A (getItem (.ref t) (.ref c)) Q E s := by
  have zl : sizeOk (.seq its.toList.reverse.toArray) := by
    show its.toList.reverse.toArray.size ≤ sizeLine
    simpa using hz
  obtain ⟨oc, gc, cc, dc⟩ := id qs
  have yc : s.TypeIs (.ref c) "slice" := ⟨oc, gc, cc⟩
  have ac : wpAny (model P w) A.in1 (Builtin.Slice.sliceApplied (.ref c) (pure (its.size : Int))) (fun r s1 => r = ((its.size : Int) - 1, (-1 : Int), its.size) ∧ s1 = s) (fun _ _ => False) s := by
    unfold Builtin.Slice.sliceApplied Builtin.Slice.sliceFields
    refine wpAny_bind (wpAny_bind (wpAny_field gc dc (x := .none) rfl (wpAny_bind (wpAny_field gc dc (x := .none) rfl (wpAny_bind (wpAny_field gc dc (x := v) rfl (wpAny_pure ?_)))))))
    refine wpAny_bind (HT.slicePart_ pv ?_)
    show wpAny _ _ (if ((-1 : Int) == 0) = true then _ else _) _ _ _
    rw [if_neg (by decide)]
    refine wpAny_bind (HT.slicePart_ .none (wpAny_bind (HT.slicePart_ .none (wpAny_bind (wpAny_pure ?_)))))
    show wpAny _ _ (match Builtin.Slice.sliceAdjust none none (-1) (its.size : Int) with | (lo, hi) => pure (lo, (-1 : Int), Builtin.Slice.slicePlaces lo hi (-1))) _ _ _
    rw [back_adjust]
    show wpAny _ _ (pure ((its.size : Int) - 1, (-1 : Int), Builtin.Slice.slicePlaces ((its.size : Int) - 1) (-1) (-1))) _ _ _
    rw [back_places]
    exact wpAny_pure ⟨rfl, rfl⟩
  unfold getItem
  try with_reducible refine wpAny_holding ?_
  first | refine wpAny_bind (wpAny_pure ?_) | skip
  refine wpAny_bind (wpAny_sequenceKey qt.typeIs (by decide) ?_)
  refine wpAny_bind (wpAny_callSpecial?_slot (name := Str.ofString "__getitem__") qt.typeIs slot_tuple_getitem (wpAny_call_entry slot_tuple_getitem qt.typeIs entry_tuple_getitem ?_ (args_tuple_getitem _ _)))
  show wpAny _ _ (Builtin.Tuple.tupleItemsOf (.ref t) >>= _) _ _ _
  refine wpAny_bind (tupleItemsOf_ qt ?_)
  refine wpAny_bind (wpAny_typeOf yc ?_)
  rw [if_pos (by decide)]
  refine wpAny_bind (wpAny_mono ac (fun r s1 hr => ?_) fun _ _ z => z.elim)
  obtain ⟨rfl, rfl⟩ := hr
  show wpAny _ _ (if (((its.size : Int) - 1) == 0 && (-1 : Int) == 1 && its.size == its.size) = true then _ else _) _ _ _
  rw [if_neg (by simp), back_items]
  first
    | exact wpAny_bind (m := Builtin.Tuple.tupleExact _) (wpAny_newObj_type (wpAny_pure ⟨_, rfl, wpAny_pure h⟩) zl)
    | exact wpAny_bind (m := Builtin.Tuple.tupleExact _) (wpAny_newObj_type (wpAny_bind (wpAny_pure (wpAny_pure ⟨_, rfl, wpAny_pure h⟩))) zl)
    | exact wpAny_bind (wpAny_bind (m := Builtin.Tuple.tupleExact _) (wpAny_newObj_type (wpAny_pure (wpAny_pure ⟨_, rfl, wpAny_pure h⟩)) zl))
    | exact wpAny_bind (wpAny_bind (m := Builtin.Tuple.tupleExact _) (wpAny_newObj_type (wpAny_pure ⟨_, rfl, wpAny_pure h⟩) zl))
end
/-- t[::-1] -/
def tRevT (K : PySem.W.Frag) (te : TE) : TE := fun σ H Q => te σ H fun x H1 => ∃ a xs, x = .ref a ∧ SqT K H1 a xs ∧ ∀ p, H1 p = none → Q (.ref p) (upd H1 p (.tup xs.reverse))
theorem pe_revT {X : Cx} {e : Expr} {te : TE} {k : Nat} {p1 p2 p3 pos : Pos} (he : PE X e te) : PE X (.Subscript e (.Slice none none (some (.UnaryOp .USub (.Constant (.int 1) k p1) p2)) p3) pos) (tRevT X.K te) := by
  constructor
  intro pins s σ H Q I h
  refine Subscript_ (thn (he.run pins s σ H _ I h) fun v s1 hh => ?_)
  obtain ⟨x, H1, I1, r1, a, xs, rfl, hx, q⟩ := hh
  cases r1
  have hs : PO X (some (.UnaryOp .USub (.Constant (.int 1) k p1) p2)) (tPart (tUn (rU fun i => .int (-i)) (tC (.int 1)))) := po_some (pe_un un_neg pe_int)
  refine wpAny_Slice (thn (po_none.run pins s1 σ H1 (fun o H2 => o = none ∧ H2 = H1) I1 ⟨rfl, rfl⟩) fun vl s2 h2 => ?_)
  obtain ⟨l, H2, I2, pl, rfl, rfl⟩ := h2
  refine thn (po_none.run pins s2 σ _ (fun o H3 => o = none ∧ H3 = H2) I2 ⟨rfl, rfl⟩) fun vu s3 h3 => ?_
  obtain ⟨u, H3, I3, pu, rfl, rfl⟩ := h3
  refine thn (hs.run pins s3 σ _ (fun o H4 => o = some (-1) ∧ H4 = H3) I3 ⟨1, rfl, -1, rfl, rfl, rfl⟩) fun vs s4 h4 => ?_
  obtain ⟨o, H4, I4, ps, rfl, rfl⟩ := h4
  cases pl
  cases pu
  have I5 : Inv X pins σ H4 { s4 with heap := s4.heap.push { cls := .type "slice", data := .fields #[.none, .none, vs] } } := I4.kept (t' := s4.toks) fun b ob q => Heap.get?_push_of_some _ q
  obtain ⟨its, r, qt, hz⟩ := I5.tuple hx
  show wpAny (model X.prog X.w) X.A (subscriptTail e (.Slice none none (some (.UnaryOp .USub (.Constant (.int 1) k p1) p2)) p3) (.ref a) (.ref s4.heap.objs.size)) (EP X pins σ Q) X.xe { s4 with heap := s4.heap.push { cls := .type "slice", data := .fields #[.none, .none, vs] } }
  refine tail_any (ops := [.ref a, .ref s4.heap.objs.size]) qt.typeIs (slot_tuple_getitem.lookup) ?_ (by with_unfolding_all rfl)
  have hl := r.length
  refine tup_back qt (Heap.IsSliceOf.new _ .none .none vs) ps (by rw [List.size_toArray]; omega) ?_
  refine ⟨.ref _, _, I5.laid (t' := s4.toks) (o := .tup xs.reverse) (fun b ob q => Heap.get?_push_of_some _ q) (Nat.le_refl _) ?_, rfl, q _ (I5.hok.fresh (Nat.le_refl _))⟩
  exact ⟨by rw [List.length_reverse]; exact hz, its.reverse, r.reverse, ⟨_, Heap.get?_push_size _ rfl, rfl, _, rfl⟩⟩
end L2

set_option maxRecDepth 100000
set_option maxHeartbeats 4000000
/-! things of any kind: lists and dicts told by their kind alone -/
namespace W1
open PySem PyProof.Rows L2
theorem Le.dK {H H' : Hp} {a : Addr} {kvs : List (Key × V)} (e : Le H H') (h : H a = some (.dK kvs)) : H' a = some (.dK kvs) := by
  rcases e a _ h with h1 | ⟨_, _, _, _, _, _, _, _, _, z, _⟩
  · exact h1
  · cases z
theorem Le.anyL {H H' : Hp} {a : Addr} (e : Le H H') (h : ∃ xs, H a = some (.lst xs)) : ∃ xs, H' a = some (.lst xs) := by
  obtain ⟨xs, h⟩ := h
  rcases e a _ h with h1 | ⟨c, p, x, s, n, p', x', s', n', _, h1, _⟩
  · exact ⟨_, h1⟩
  · exact ⟨_, h1⟩
/-- some list, or an empty dict -/
def Ob (H : Hp) (v : V) : Prop := ∃ a, v = .ref a ∧ ((∃ xs, H a = some (.lst xs)) ∨ H a = some (.dK []))
theorem Ob.le {H H' : Hp} {v : V} (e : Le H H') (h : Ob H v) : Ob H' v := by
  obtain ⟨a, rfl, h⟩ := h
  exact ⟨a, rfl, h.imp e.anyL e.dK⟩
theorem Ob.ty {K : PySem.W.Frag} {H : Hp} {v : V} (h : Ob H v) : TyX K H v (.type "list") ∨ TyX K H v (.type "dict") := by
  obtain ⟨a, rfl, h⟩ := h
  rcases h with ⟨xs, h⟩ | h
  · exact .inl (.base (.lst h))
  · exact .inr (.base (.dK h))
def Tk (H : Hp) (d : D) : Prop := noObj d = true ∨ ∃ v, d = .obj v ∧ Ob H v
theorem Tk.le {H H' : Hp} {d : D} (e : Le H H') (h : Tk H d) : Tk H' d := h.imp (fun h => h) fun ⟨v, h1, h2⟩ => ⟨v, h1, h2.le e⟩
def sca : D → Bool
  | .non => true
  | .bl _ => true
  | .int _ => true
  | .str _ => true
  | _ => false
inductive Th (H : Hp) : D → Prop
  | sc {d : D} : sca d = true → Th H d
  | tup {ds : List D} : ds.length ≤ 50000 → (∀ d ∈ ds, Th H d) → Th H (.tup ds)
  | ob {v : V} : Ob H v → Th H (.obj v)
theorem Th.le {H H' : Hp} {d : D} (e : Le H H') (h : Th H d) : Th H' d := by
  induction h with
  | sc h => exact .sc h
  | tup hl _ ih => exact .tup hl ih
  | ob h => exact .ob (h.le e)
theorem Th.tk {H : Hp} {d : D} (h : Th H d) : Tk H d := by
  cases h with
  | sc h => exact .inl (by cases d <;> first | rfl | cases h)
  | tup _ _ => exact .inl rfl
  | ob h => exact .inr ⟨_, rfl, h⟩
theorem Th.noL {H : Hp} {d : D} (h : Th H d) : NoL d := by
  induction h with
  | @sc d h => cases d <;> first | exact .non | exact .bl _ | exact .int _ | exact .str _ | cases h
  | tup _ _ ih => exact .tup ih
  | ob _ => exact .obj _
theorem Th.items {H : Hp} {ds : List D} (h : Th H (.tup ds)) : ds.length ≤ 50000 ∧ ∀ d ∈ ds, Th H d := by
  cases h with
  | sc h => cases h
  | tup h1 h2 => exact ⟨h1, h2⟩
/-- isinstance(x, T) of a thing -/
theorem ed_isK {K : PySem.W.Frag} {σ : L2.St} {H : Hp} {ta : TE} {d : D} {T : String} {f : D → Bool} (h : ED K ta σ H d) (t : Tk H d) (hb : noObj d = true → kitB (tyD d) T = some (f d)) (h1 : kitB "list" T = some false) (h2 : kitB "dict" T = some false) (h3 : ∀ v, f (.obj v) = false) :
    ED K (tCB (rIsi K) (tCons ta (tCons (tC (.ty T)) tNil))) σ H (.bl (f d)) := by
  rcases t with hn | ⟨v, rfl, ho⟩
  · exact ed_isi h (noObj_ne hn) (hb hn)
  · intro H1 e Q q
    refine h H1 e _ fun x d' H2 e2 p r => ?_
    have p' : d' = .obj v := p
    subst p'
    have ex := rp_obj r
    subst ex
    rw [h3]  at q
    rcases (ho.le (e.trans e2)).ty (K := K) with ty | ty
    · exact ⟨x, .ty T, .type "list", .type T, false, rfl, .ty T, ty, kit_ty h1, q _ _ H2 e2 rfl (.bl _)⟩
    · exact ⟨x, .ty T, .type "dict", .type T, false, rfl, .ty T, ty, kit_ty h2, q _ _ H2 e2 rfl (.bl _)⟩
def tupB : D → Bool
  | .tup _ => true
  | _ => false
def strB : D → Bool
  | .str _ => true
  | _ => false
def blB : D → Bool
  | .bl _ => true
  | _ => false
section
variable {K : PySem.W.Frag} {σ : L2.St} {H : Hp} {ta : TE} {d : D}
theorem ed_isTup (h : ED K ta σ H d) (t : Tk H d) : ED K (tCB (rIsi K) (tCons ta (tCons (tC (.ty "tuple")) tNil))) σ H (.bl (tupB d)) :=
  ed_isK (f := tupB) h t (fun hn => by cases d <;> first | rfl | decide +kernel | cases hn) (by decide +kernel) (by decide +kernel) fun _ => rfl
theorem ed_isStr (h : ED K ta σ H d) (t : Tk H d) : ED K (tCB (rIsi K) (tCons ta (tCons (tC (.ty "str")) tNil))) σ H (.bl (strB d)) :=
  ed_isK (f := strB) h t (fun hn => by cases d <;> first | rfl | decide +kernel | cases hn) (by decide +kernel) (by decide +kernel) fun _ => rfl
theorem ed_isInt (h : ED K ta σ H d) (t : Tk H d) : ED K (tCB (rIsi K) (tCons ta (tCons (tC (.ty "int")) tNil))) σ H (.bl (subI d)) :=
  ed_isK (f := subI) h t (fun hn => kit_int hn) (by decide +kernel) (by decide +kernel) fun _ => rfl
theorem ed_isBool (h : ED K ta σ H d) (t : Tk H d) : ED K (tCB (rIsi K) (tCons ta (tCons (tC (.ty "bool")) tNil))) σ H (.bl (blB d)) :=
  ed_isK (f := blB) h t (fun hn => by cases d <;> first | rfl | decide +kernel | cases hn) (by decide +kernel) (by decide +kernel) fun _ => rfl
/-- a list is told by its kind -/
theorem ep_hide {P : List D → Hp → Prop} (h : EP K ta σ H fun d H2 => ∃ ds, d = .lst ds ∧ P ds H2) : EP K ta σ H fun d H2 => ∃ v, d = .obj v ∧ Ob H2 v := fun H1 e Q q => h H1 e _ fun v d H2 e2 p r => by
  obtain ⟨ds, rfl, _⟩ := p
  obtain ⟨a, xs, rfl, s, _, _⟩ := rp_lst r
  exact q _ (.obj (.ref a)) H2 e2 ⟨_, rfl, a, rfl, .inl ⟨xs, s⟩⟩ (.obj _)
theorem ep_lstO {A : TA} {P : List D → Hp → Prop} (h : EA K A σ H P) (hl : ∀ ds H2, P ds H2 → ds.length ≤ 100000) : EP K (tLst A) σ H fun d H2 => ∃ v, d = .obj v ∧ Ob H2 v := fun H1 e Q q => h H1 e _ fun vs ds H2 e2 p r => by
  refine ⟨by rw [r.len]; exact Evl.sz_of (hl ds H2 p), fun a na => ?_⟩
  exact q _ (.obj (.ref a)) _ (e2.trans (Le.new na)) ⟨_, rfl, a, rfl, .inl ⟨vs, upd_same⟩⟩ (.obj _)
/-- a list of a length that no hand has -/
theorem ed_lstN {A : TA} {ds : List D} (h : EDA K A σ H ds) (hl : ds.length ≤ 100000) (hn : ds.length ≠ 5) : ED K (tLst A) σ H (.lst ds) :=
  ep_lst h (fun ds' H2 p => by rw [show ds' = ds from p]; exact hl) (fun ds' H2 xs p r => by rw [show ds' = ds from p] at r; exact notH_len (by rw [r.len]; exact hn)) fun ds' H2 p H3 _ => by rw [show ds' = ds from p]
theorem ep_lstN {A : TA} {P : List D → Hp → Prop} (h : EA K A σ H P) (hl : ∀ ds H2, P ds H2 → ds.length ≤ 100000) (hn : ∀ ds H2, P ds H2 → ds.length ≠ 5) (hP : ∀ ds H2, P ds H2 → ∀ H3, Le H2 H3 → P ds H3) : EP K (tLst A) σ H fun d H2 => ∃ ds, d = .lst ds ∧ P ds H2 :=
  ep_lst h hl (fun ds H2 xs p r => notH_len (by rw [r.len]; exact hn ds H2 p)) fun ds H2 p H3 e => ⟨ds, rfl, hP ds H2 p H3 e⟩
/-- t[::-1] -/
theorem rps_rev {H : Hp} : ∀ {vs : List V} {ds : List D}, Rps K H vs ds → Rps K H vs.reverse ds.reverse
  | _, _, .nil => .nil
  | _, _, .cons h r => by
    rw [List.reverse_cons, List.reverse_cons]
    exact (rps_rev r).app (.cons h .nil)
theorem ed_revT {ds : List D} (h : ED K ta σ H (.tup ds)) : ED K (tRevT K ta) σ H (.tup ds.reverse) := fun H1 e Q q =>
  h H1 e _ fun v d H2 e2 p r => by
    have p' : d = .tup ds := p
    subst p'
    obtain ⟨a, xs, rfl, s, rr⟩ := rp_tup r
    exact ⟨a, xs, rfl, s, fun p np => q _ _ _ (e2.trans (Le.new np)) rfl (.tup (Evl.st_of upd_same) ((rps_rev rr).le (Le.new np)))⟩
end
section
variable {X : Cx} {K : PySem.W.Frag}
theorem kpe_revT {e : Expr} {te : TE} {k : Nat} {p1 p2 p3 pos : Pos} (he : PE X e te) (h : X.K = K := by rfl) : PE X (.Subscript e (.Slice none none (some (.UnaryOp .USub (.Constant (.int 1) k p1) p2)) p3) pos) (tRevT K te) := h ▸ pe_revT he
theorem kpi_zTL {e e2 : Expr} {ta : TA} {p pos tpos : Pos} {elts : List Expr} {kk : Nat} (hg : Gl X "zip") (hm : X.mg "zip" = none) (ha : PA X [e, e2] ta)
    (hs : starEach [e, e2] X.env = (false, eval e X.env) :: starEach [e2] X.env := by rfl) (hpl : (backTo pos (starEach [e2] X.env)).any (·.1) = false := by rfl) (h : X.K = K := by rfl) :
    PI X (.Tuple elts kk tpos) (.Call (.Name "zip" p) [e, e2] [] pos) (iZTL K ta) := h ▸ pi_zTL hg hm ha hs hpl
end
/-! ### loops in which nothing changes but by calls -/
section
variable {K : PySem.W.Frag} {σ : L2.St} {H H' : Hp} {te : TE} {D1 : Ends} {tu tz : TS} {g : TG}
theorem s_forT2 {ds : List D} (h : ED K te σ H (.tup ds))
    (k : ∀ H1, Le H H1 → ∃ Pv : Nat → L2.St → Hp → Prop, Pv 0 σ H1 ∧ (∀ i σ' H', i ≤ ds.length → Pv i σ' H' → Le H1 H') ∧
      (∀ i d v σ' H', ds[i]? = some d → Rp K H' v d → Pv i σ' H' → g v σ' H' fun σ2 H2 => tu (bodyEnds D1 (Pv (i + 1))) σ2 H2) ∧ ∀ σ' H', Pv ds.length σ' H' → D1.nx σ' H') : tFor (iTup K te) g tu D1 σ H := h H (Le.refl _) _ fun v d0 H1 e p r => by
  have p' : d0 = .tup ds := p
  subst p'
  obtain ⟨a, xs, rfl, s, rr⟩ := rp_tup r
  obtain ⟨Pv, h0, hle, hs, hd⟩ := k H1 e
  refine ⟨a, rfl, ⟨xs, s⟩, for_it (walk_tup (xs := xs)) Pv h0 (fun i σ' H' hi q => (hle i σ' H' (by rw [← rr.len]; exact hi) q).sqt s) ?_ (fun σ' H' q => hd σ' H' (by rw [← rr.len]; exact q))⟩
  rintro i x σ' H' _ hi q ⟨rfl, hx⟩
  obtain ⟨d, h1, h2⟩ := rr.at' hx
  exact hs i d x σ' _ h1 (h2.le (hle i σ' _ (by rw [← rr.len]; omega) q)) q
theorem q_forT2 {ds : List D} (h : ED K te σ H (.tup ds))
    (k : ∀ H1, Le H H1 → ∃ Pv : Nat → L2.St → Hp → Prop, Pv 0 σ H1 ∧ (∀ i σ' H', i ≤ ds.length → Pv i σ' H' → Le H1 H') ∧
      (∀ i d v σ' H', ds[i]? = some d → Rp K H' v d → Pv i σ' H' → g v σ' H' fun σ2 H2 => tu ({ D1 with nx := Pv (i + 1), ct := Pv (i + 1), bk := tz D1 }) σ2 H2) ∧ ∀ σ' H', Pv ds.length σ' H' → tz D1 σ' H') : tSeq (tFor (iTup K te) g tu) tz D1 σ H := s_forT2 (D1 := { D1 with nx := tz D1 }) h k
theorem s_forL2 {ds : List D} (h : ED K te σ H (.lst ds))
    (k : ∀ H1, Le H H1 → ∃ Pv : Nat → L2.St → Hp → Prop, Pv 0 σ H1 ∧ (∀ i σ' H', i ≤ ds.length → Pv i σ' H' → Le H1 H') ∧
      (∀ i d v σ' H', ds[i]? = some d → Rp K H' v d → Pv i σ' H' → g v σ' H' fun σ2 H2 => tu (bodyEnds D1 (Pv (i + 1))) σ2 H2) ∧ ∀ σ' H', Pv ds.length σ' H' → D1.nx σ' H') : tFor (iList K te) g tu D1 σ H := h H (Le.refl _) _ fun v d0 H1 e p r => by
  have p' : d0 = .lst ds := p
  subst p'
  obtain ⟨a, xs, rfl, s, nh, rr⟩ := rp_lst r
  obtain ⟨Pv, h0, hle, hs, hd⟩ := k H1 e
  refine ⟨a, rfl, ⟨xs, SqL.of s⟩, for_it (walk_list (xs := xs)) Pv h0 (fun i σ' H' hi q => SqL.of ((hle i σ' H' (by rw [← rr.len]; exact hi) q).lst s nh)) ?_ (fun σ' H' q => hd σ' H' (by rw [← rr.len]; exact q))⟩
  rintro i x σ' H' _ hi q ⟨rfl, hx⟩
  obtain ⟨d, h1, h2⟩ := rr.at' hx
  exact hs i d x σ' _ h1 (h2.le (hle i σ' _ (by rw [← rr.len]; omega) q)) q
end
end W1

set_option maxRecDepth 100000
set_option maxHeartbeats 4000000
namespace W1
open PySem PyProof.Rows L2
abbrev topS (i : Nat) : Stmt := PySem.Challenge.pw_staletags_k01_webs_judged_and_made.main.body.getD i (.Pass ⟨0, 0, 0, 0⟩)
abbrev s__law_draw : Stmt := topS 49
abbrev N__law_draw : List Str := ["_law_hand_here", "_law_many", "_law_cell", "_law_digit", "_law_number"]
theorem sc__law_draw : FnScope N__law_draw ["_law_hand_here", "_law_many"] (defScope s__law_draw) := ⟨rfl, rfl, rfl, by decide +kernel, rfl, by decide +kernel, by decide +kernel⟩
/-- no built-in that is called is hidden -/
structure Txt (mg : Str → Option Value) : Prop where
  n_len : mg "len" = none
  n_abs : mg "abs" = none
  n_int : mg "int" = none
  n_range : mg "range" = none
  n_tuple : mg "tuple" = none
  n_list : mg "list" = none
  n_sorted : mg "sorted" = none
  n_set : mg "set" = none
  n_enumerate : mg "enumerate" = none
  n_isinstance : mg "isinstance" = none
  n_all : mg "all" = none
  n_max : mg "max" = none
  n_min : mg "min" = none
  n_bool : mg "bool" = none
section
variable {P : Program} {w : World} {K : PySem.W.Frag} {mg : Str → Option Value} {base : Heap}
/-! ### _law_draw -/
def R_draw : List D → Hp → Pd → Prop := fun ds H P => ∃ (h : Addr) (m : Int), ds = [.obj (.ref h), .int m] ∧ Hand H h ∧ 1 ≤ m ∧ m ≤ 1000000 ∧ P = fun d _ => ∃ r : Int, d = .int r ∧ 0 ≤ r ∧ r < m
/-- the frame of a draw: the hand at h, H0 what stood -/
def Dw (H0 : Hp) (h : Addr) (H : Hp) : Prop := Le H0 H ∧ ∃ c cells p x s n, HandAt H h c cells p x s n
theorem ok_draw (T : Txt mg) (g : GDef K mg "_law_draw" s__law_draw ["_law_hand_here", "_law_many"]) : Def P w K mg base 1 "_law_draw" ["_law_hand_here", "_law_many"] (spD K R_draw) := by
  refine defD g sc__law_draw (fun ds H Pd h => ?_) fun cdv A outer s f H vs ds Pd Q E hr r h q => ?_
  · obtain ⟨h, m, rfl, _⟩ := h
    rfl
  obtain ⟨h, m, rfl, ⟨c, cells, p, x, z, n, a⟩, m1, m2, rfl⟩ := h
  obtain ⟨v1, v2, rfl, r1, r2⟩ := rps2 r
  have e1 := rp_obj r1
  have e2 := rp_int r2
  subst e1 e2
  refine ⟨_, (Evl.pss_cut (ps_if (PW.pt (pw_and (pt_cmpR op_eq (pe_ix ix_list (pv 0) pe_int (fun _ _ => rfl)) pe_int (nomark _)) (pw_and1 (pt_cmpR op_lt (pe_ix ix_list (pv 0) pe_int (fun _ _ => rfl)) (pe_callB call_len_seq (by rfl) T.n_len boot_len (pa_cons (pe_ix ix_list (pv 0) pe_int (fun _ _ => rfl)) pa_nil)) (nomark _)))))
      (pss_cons (ps_set (i := 2) sc__law_draw.nd rfl (Or.inl rfl) (pe_ix ix_list (pe_ix ix_list (pv 0) pe_int (fun _ _ => rfl)) (pe_ix ix_list (pv 0) pe_int (fun _ _ => rfl)) (fun _ _ => rfl)))
    (pss_cons (ps_asg (pe_op op_add (pe_ix ix_list (pv 0) pe_int (fun _ _ => rfl)) pe_int) (pg_sub (pv 0) pe_int set_list))
    (pss_cons (ps_asg (pe_op op_mod (pe_callTy call_int1 (by rfl) T.n_int boot_int (pa_cons (pe_op op_add (pe_op op_add (pe_op op_mul (pe_ix ix_list (pv 0) pe_int (fun _ _ => rfl)) pe_int) (pv 2)) pe_int) pa_nil)) pe_int) (pg_sub (pv 0) pe_int set_list))
    (pss_one (ps_if (pt_cmpR op_ge (pv 2) (pe_op op_pow pe_int pe_int) (nomark _))
      (pss_one (ps_asg (pv 2) (pg_sub (pv 0) pe_int set_list)))
      pss_nil)))))
      pss_nil)
    (pss_cons (ps_if (pt_cmpR op_gt (pe_ix ix_list (pv 0) pe_int (fun _ _ => rfl)) pe_int (nomark _))
      (pss_cons (ps_set (i := 3) sc__law_draw.nd rfl (Or.inl rfl) (pe_op op_modN (pe_callTy call_int1 (by rfl) T.n_int boot_int (pa_cons (pe_ix ix_list (pv 0) pe_int (fun _ _ => rfl)) pa_nil)) (pv 1)))
    (pss_cons (ps_asg (pe_op op_fdivN (pe_ix ix_list (pv 0) pe_int (fun _ _ => rfl)) (pv 1)) (pg_sub (pv 0) pe_int set_list))
    (pss_one (ps_ret (pv 3)))))
      pss_nil)
    (pss_cons (ps_asg (pe_op op_add (pe_ix ix_list (pv 0) pe_int (fun _ _ => rfl)) pe_int) (pg_sub (pv 0) pe_int set_list))
    (pss_cons (ps_set (i := 4) sc__law_draw.nd rfl (Or.inl rfl) (pe_op op_mod (pe_callTy call_int1 (by rfl) T.n_int boot_int (pa_cons (pe_op op_mul (pe_callTy call_int1 (by rfl) T.n_int boot_int (pa_cons (pe_op op_add (pe_ix ix_list (pv 0) pe_int (fun _ _ => rfl)) (pe_op op_mul pe_int (pe_ix ix_list (pv 0) pe_int (fun _ _ => rfl)))) pa_nil)) pe_int) pa_nil)) pe_int))
    (pss_cons (ps_set (i := 4) sc__law_draw.nd rfl (Or.inl rfl) (pe_op op_mod (pe_callTy call_int1 (by rfl) T.n_int boot_int (pa_cons (pe_op op_mul (pv 4) (pe_op op_add (pe_op op_fdiv (pv 4) pe_int) pe_int)) pa_nil)) pe_int))
    (pss_cons (ps_set (i := 4) sc__law_draw.nd rfl (Or.inl rfl) (pe_op op_mod (pe_callTy call_int1 (by rfl) T.n_int boot_int (pa_cons (pe_op op_mul (pv 4) (pe_op op_add (pe_op op_fdiv (pv 4) pe_int) pe_int)) pa_nil)) pe_int))
    (pss_one (ps_ret (pe_op op_modN (pe_callTy call_int1 (by rfl) T.n_int boot_int (pa_cons (pe_op op_fdiv (pv 4) pe_int) pa_nil)) (pv 1)))))))))), ?_⟩
  -- between the first if and the rest
  refine ⟨fun σ H' => (∃ y : Option V, σ = [some (.ref h), some (.int m), y, none, none]) ∧ Dw H h H', ?_, ?_⟩
  · refine ⟨_, rfl, h, _, 2, .int x, rfl, rfl, SqL.of a.hand, atI_nat (j := 2) rfl, rfl, _, rfl, ?_⟩
    refine ite2 (fun c1 => ?_) (fun c1 => ?_)
    · refine ⟨_, rfl, h, _, 1, .int p, rfl, rfl, SqL.of a.hand, atI_nat (j := 1) rfl, _, rfl, h, _, 0, .ref c, rfl, rfl, SqL.of a.hand, atI_nat (j := 0) rfl, c, _, rfl, .inl (SqL.of a.cell), p, _, rfl, rfl, _, rfl, ?_⟩
      refine ite2 (fun c2 => ?_) (fun c2 => ?_)
      · have hp : p.toNat < cells.length := by
          have c3 := of_decide_eq_true c2
          rw [List.length_map] at c3
          have := a.p0
          omega
        obtain ⟨y, hy⟩ : ∃ y, cells[p.toNat]? = some y := ⟨cells[p.toNat], List.getElem?_eq_getElem hp⟩
        have hy0 : 0 ≤ y := a.pos y (List.mem_of_getElem? hy)
        have ep : p = ((p.toNat : Nat) : Int) := by have := a.p0; omega
        have hyV : atI (cells.map V.int) p = some (.int y) := by
          rw [ep]
          exact atI_nat (by rw [List.getElem?_map, hy]; rfl)
        -- cell = hand[0][hand[1]]
        refine ⟨_, rfl, h, _, 0, .ref c, rfl, rfl, SqL.of a.hand, atI_nat (j := 0) rfl, _, rfl, h, _, 1, .int p, rfl, rfl, SqL.of a.hand, atI_nat (j := 1) rfl, c, _, p, .int y, rfl, rfl, SqL.of a.cell, hyV, ?_⟩
        -- hand[1] = hand[1] + 1
        refine ⟨_, rfl, h, _, 1, .int p, rfl, rfl, SqL.of a.hand, atI_nat (j := 1) rfl, p, 1, rfl, rfl, _, rfl, h, _, 1, 1, rfl, rfl, a.hand, rfl, ?_⟩
        obtain ⟨a1, l1⟩ := a.put (p2 := p + 1) (x2 := x) (s2 := z) (n2 := n) (by have := a.p0; omega) a.x0
        -- hand[3] = int(hand[3] * 69621 + cell + 11) % 2147483629
        refine ⟨_, rfl, h, _, 3, .int z, rfl, rfl, SqL.of a1.hand, atI_nat (j := 3) rfl, z, 69621, rfl, rfl, .inr ⟨by decide, by decide⟩, _, rfl, _, y, rfl, rfl, _, 11, rfl, rfl, .inl ⟨_, rfl, _, 2147483629, rfl, rfl, (by show (0 : Int) < 2147483629; decide), _, rfl, h, _, 3, 3, rfl, rfl, a1.hand, rfl, ?_⟩⟩
        obtain ⟨a2, l2⟩ := a1.put (p2 := p + 1) (x2 := x) (s2 := (z * 69621 + y + 11) % 2147483629) (n2 := n) (by have := a.p0; omega) a.x0
        -- if cell >= 10 ** 18: hand[2] = cell
        refine ⟨_, rfl, 10, 18, rfl, rfl, ⟨by decide, by decide, by decide⟩, y, _, rfl, rfl, _, rfl, ?_⟩
        refine ite2 (fun c3 => ?_) (fun c3 => ?_)
        · refine ⟨_, rfl, _, rfl, h, _, 2, 2, rfl, rfl, a2.hand, rfl, ?_⟩
          obtain ⟨a3, l3⟩ := a2.put (p2 := p + 1) (x2 := y) (s2 := (z * 69621 + y + 11) % 2147483629) (n2 := n) (by have := a.p0; omega) hy0
          exact ⟨⟨_, rfl⟩, (l1.trans l2).trans l3, c, cells, _, _, _, _, a3⟩
        · exact ⟨⟨_, rfl⟩, l1.trans l2, c, cells, _, _, _, _, a2⟩
      · exact ⟨⟨none, rfl⟩, Le.refl _, c, cells, _, _, _, _, a⟩
    · exact ⟨⟨none, rfl⟩, Le.refl _, c, cells, _, _, _, _, a⟩
  · clear a
    rintro σ H1 ⟨⟨y, rfl⟩, l0, c, cells, p, x, z, n, a⟩
    -- if hand[2] > 0
    refine ⟨_, rfl, h, _, 2, .int x, rfl, rfl, SqL.of a.hand, atI_nat (j := 2) rfl, x, 0, rfl, rfl, _, rfl, ?_⟩
    refine ite2 (fun c1 => ?_) (fun c1 => ?_)
    · have hx0 : (0 : Int) < x := of_decide_eq_true c1
      refine ⟨_, rfl, h, _, 2, .int x, rfl, rfl, SqL.of a.hand, atI_nat (j := 2) rfl, .inl ⟨x, rfl, _, rfl, x, m, rfl, rfl, by omega, ?_⟩⟩
      refine ⟨_, rfl, h, _, 2, .int x, rfl, rfl, SqL.of a.hand, atI_nat (j := 2) rfl, _, rfl, x, m, rfl, rfl, ⟨by omega, by omega⟩, _, rfl, h, _, 2, 2, rfl, rfl, a.hand, rfl, ?_⟩
      obtain ⟨a1, l1⟩ := a.put (p2 := p) (x2 := x.fdiv m) (s2 := z) (n2 := n) a.p0 (by
        rw [Int.fdiv_eq_ediv_of_nonneg _ (by omega)]
        exact Int.ediv_nonneg (by omega) (by omega))
      refine ⟨_, rfl, ?_⟩
      refine q _ (.int (x.fmod m)) _ (l0.trans l1) ⟨_, rfl, ?_⟩ (.int _)
      rw [Int.fmod_eq_emod_of_nonneg _ (by omega)]
      exact ⟨Int.emod_nonneg _ (by omega), Int.emod_lt_of_pos _ (by omega)⟩
    · -- hand[4] = hand[4] + 1
      refine ⟨_, rfl, h, _, 4, .int n, rfl, rfl, SqL.of a.hand, atI_nat (j := 4) rfl, n, 1, rfl, rfl, _, rfl, h, _, 4, 4, rfl, rfl, a.hand, rfl, ?_⟩
      obtain ⟨a1, l1⟩ := a.put (p2 := p) (x2 := x) (s2 := z) (n2 := n + 1) a.p0 a.x0
      -- number = int(int(hand[3] + 7919 * hand[4]) * 48271) % 2147483647
      refine ⟨_, rfl, h, _, 3, .int z, rfl, rfl, SqL.of a1.hand, atI_nat (j := 3) rfl, _, rfl, h, _, 4, .int (n + 1), rfl, rfl, SqL.of a1.hand, atI_nat (j := 4) rfl, 7919, n + 1, rfl, rfl, .inl ⟨by decide, by decide⟩, z, _, rfl, rfl, .inl ⟨_, rfl, _, 48271, rfl, rfl, .inr ⟨by decide, by decide⟩, .inl ⟨_, rfl, _, 2147483647, rfl, rfl, (by show (0 : Int) < 2147483647; decide), ?_⟩⟩⟩
      obtain ⟨u, eu⟩ : ∃ u : Int, u = (z + 7919 * (n + 1)) * 48271 % 2147483647 := ⟨_, rfl⟩
      have hu : 0 ≤ u ∧ u < 2147483647 := by omega
      have ev : ((fun i j => V.int (i % j)) ((z + 7919 * (n + 1)) * 48271) 2147483647 : V) = V.int u := by rw [eu]
      rw [ev]
      refine ⟨_, rfl, _, rfl, u, 1009, rfl, rfl, ⟨by decide, by decide⟩, _, 69621, rfl, rfl, u, _, rfl, rfl, .inl ⟨by omega, by omega⟩, .inl ⟨_, rfl, _, 2147483647, rfl, rfl, (by show (0 : Int) < 2147483647; decide), ?_⟩⟩
      obtain ⟨u2, eu2⟩ : ∃ u2 : Int, u2 = u * (u / 1009 + 69621) % 2147483647 := ⟨_, rfl⟩
      have hu2 : 0 ≤ u2 ∧ u2 < 2147483647 := by
        rw [eu2]
        exact ⟨Int.emod_nonneg _ (by decide), Int.emod_lt_of_pos _ (by decide)⟩
      have ev2 : ((fun i j => V.int (i % j)) (u * (u / 1009 + 69621)) 2147483647 : V) = V.int u2 := by rw [eu2]
      rw [ev2]
      refine ⟨_, rfl, _, rfl, u2, 2003, rfl, rfl, ⟨by decide, by decide⟩, _, 40692, rfl, rfl, u2, _, rfl, rfl, .inl ⟨by omega, by omega⟩, .inl ⟨_, rfl, _, 2147483399, rfl, rfl, (by show (0 : Int) < 2147483399; decide), ?_⟩⟩
      obtain ⟨u3, eu3⟩ : ∃ u3 : Int, u3 = u2 * (u2 / 2003 + 40692) % 2147483399 := ⟨_, rfl⟩
      have ev3 : ((fun i j => V.int (i % j)) (u2 * (u2 / 2003 + 40692)) 2147483399 : V) = V.int u3 := by rw [eu3]
      rw [ev3]
      refine ⟨_, rfl, u3, 16, rfl, rfl, ⟨by decide, by decide⟩, .inl ⟨_, rfl, _, rfl, _, m, rfl, rfl, by omega, ?_⟩⟩
      refine q _ (.int ((u3 / 16).fmod m)) _ (l0.trans l1) ⟨_, rfl, ?_⟩ (.int _)
      rw [Int.fmod_eq_emod_of_nonneg _ (by omega)]
      exact ⟨Int.emod_nonneg _ (by omega), Int.emod_lt_of_pos _ (by omega)⟩
end
end W1

set_option maxRecDepth 100000
set_option maxHeartbeats 4000000
namespace W1
open PySem PyProof.Rows L2
local macro_rules | `(tactic| walk_at "rp") => `(tactic| first | assumption | exact Rp.int _ | exact Rp.bl _ | exact Rp.str _ | exact Rp.non | exact Rp.obj _ | (refine Rp.le (by assumption) ?_; walk_at "rp"))
local macro_rules | `(tactic| walk_at "ed") => `(tactic| first
  | exact ed_int | exact ed_str | exact ed_bl | exact ed_non
  | (refine ed_var rfl ?_; walk_at "rp")
  | (refine ed_ixT (ds := [_, _]) ?_ ed_int (by decide) rfl; walk_at "ed")
  | (refine ed_I0 ?_ ?_ <;> walk_at "ed")
  | (refine ed_B0 ?_ ?_ <;> walk_at "ed")
  | (refine ed_eqS ?_ ?_ rfl rfl rfl <;> walk_at "ed")
  | assumption)
local macro_rules | `(tactic| walk_at "ea") => `(tactic| first | exact ea_nil | (refine ea_cons ?_ ?_; walk_at "ed"; walk_at "ea"))

abbrev s__law_hand : Stmt := topS 48
abbrev N__law_hand : List Str := ["_law_script", "_law_cells", "_law_cell"]
theorem sc__law_hand : FnScope N__law_hand ["_law_script"] (defScope s__law_hand) := ⟨rfl, rfl, rfl, by decide +kernel, rfl, by decide +kernel, by decide +kernel⟩
abbrev s__law_any : Stmt := topS 50
abbrev N__law_any : List Str := ["_law_hand_here", "_law_items"]
theorem sc__law_any : FnScope N__law_any ["_law_hand_here", "_law_items"] (defScope s__law_any) := ⟨rfl, rfl, rfl, by decide +kernel, rfl, by decide +kernel, by decide +kernel⟩
section
variable {P : Program} {w : World} {K : PySem.W.Frag} {mg : Str → Option Value} {base : Heap}
/-! ### _law_hand -/
theorem Le.sqlI {H H' : Hp} {a : Addr} {ns : List Int} (e : Le H H') (h : SqL K H a (ns.map V.int)) : SqL K H' a (ns.map V.int) := by
  rcases h with (h | ⟨o, h⟩) | h
  · exact .inl (.inl (e.lst h (notH_ints _)))
  · exact .inl (.inr ⟨o, e.frz h⟩)
  · exact .inr h
theorem ed_slS {σ : L2.St} {H : Hp} {i : Nat} {a : Addr} {ns : List Int} {m : Int} (h : σ[i]? = some (some (.ref a))) (hs : SqL K H a (ns.map V.int)) : ED K (tSl (rSlL K) (tVar i) tNoPart (tPart (tC (.int m)))) σ H (.lst ((cutG ns none (some m)).map .int)) := fun H1 e Q q => by
  have ec : cutV (ns.map V.int) none (some m) = (cutG ns none (some m)).map V.int := by
    unfold cutV cutG
    rw [List.length_map, List.map_take, List.map_drop]
  refine ⟨_, h, m, rfl, a, _, rfl, e.sqlI hs, fun p np => ?_⟩
  rw [ec]
  exact q _ _ _ (Le.new np) rfl (.lst upd_same (notH_ints _) (rps_ints _))
def R_hand (K : PySem.W.Frag) : List D → Hp → Pd → Prop := fun ds H P => ∃ (a : Addr) (ns : List Int), ds = [.obj (.ref a)] ∧ SqL K H a (ns.map V.int) ∧ ns.length ≤ 63 ∧ P = fun d H2 => ∃ h, d = .obj (.ref h) ∧ Hand H2 h
theorem ok_hand (T : Txt mg) (g : GDef K mg "_law_hand" s__law_hand ["_law_script"]) : Def P w K mg base 1 "_law_hand" ["_law_script"] (spD K (R_hand K)) := by
  refine defD g sc__law_hand (fun ds H Pd h => ?_) fun cdv A outer s f H vs ds Pd Q E hr r h q => ?_
  · obtain ⟨a, ns, rfl, _⟩ := h
    rfl
  obtain ⟨a, ns, rfl, hS, hl, rfl⟩ := h
  obtain ⟨v1, rfl, r1⟩ := rps1 r
  have e1 := rp_obj r1
  subst e1
  refine ⟨_, (pss_cons (ps_setLc (i := 1) (own := [("_law_cell", 2)]) rfl sc__law_hand.nd rfl rfl (sw_true rfl rfl rfl (by decide +kernel)) (kpi_list (K := K) (pe_slice (ksl_list (K := K)) (pv 0) po_none (po_some pe_int))) (blkOk_by (N := N__law_hand) (sc := defScope s__law_hand) (by decide +kernel)) (fun _ _ _ _ _ => (pg_name (i := 2) sc__law_hand.nd rfl (Or.inl rfl))) (fun _ _ _ _ _ => pts_nil) (fun _ _ _ _ _ => (pe_callB call_abs (by rfl) T.n_abs boot_abs (pa_cons (pe_callTy call_int1 (by rfl) T.n_int boot_int (pa_cons (pv 2) pa_nil)) pa_nil))))
    (pss_one (ps_ret (pe_lst (pa_cons (pv 1) (pa_cons pe_int (pa_cons pe_int (pa_cons (pe_op op_add pe_int (pe_callB (kc_len (K := K)) (by rfl) T.n_len boot_len (pa_cons (pv 1) pa_nil))) (pa_cons pe_int pa_nil))))))))), ?_⟩
  refine q_asgD (ed_lcL enc_int (encS := .int) (cutG ns none (some 63)) (fun _ => true) (fun z => if z < 0 then -z else z) (ed_slS rfl hS) ?_ (fun _ => rfl) (fun b v H1 e _ r => et_yes) (fun b v H1 e _ r _ => ed_abs (ed_int1 (ed_var rfl r)))) fun v H1 e1 r1 => ?_
  · rw [cutG_hi _ _ (by decide)]
    exact Nat.le_trans (List.length_take_le' _ _) (by omega)
  rw [List.filter_eq_self.mpr (fun _ _ => rfl)] at r1
  generalize hz : (cutG ns none (some 63)).map (fun z => if z < 0 then -z else z) = zs at r1
  obtain ⟨c, xs, rfl, hc, nh, rr⟩ := rp_lst r1
  have ex := ints_rps rr
  subst ex
  refine s_ret (P := fun d H2 => ∃ h, d = .obj (.ref h) ∧ Hand H2 h) ?_ fun v d H2 e2 p r2 => q v d H2 (e1.trans e2) p r2
  intro H2 e2 Q' q'
  have hc2 := e2.lst hc (notH_ints _)
  refine ⟨_, rfl, _, rfl, c, _, rfl, .inl (SqL.of hc2), _, _, rfl, rfl, (by show 5 ≤ sizeLine; decide), fun p np => ?_⟩
  have hcp : c ≠ p := ne_of_none hc2 np
  refine q' _ (.obj (.ref p)) _ (Le.new np) ⟨p, rfl, c, zs, 0, 0, _, 0, upd_same, by rw [upd_ne hcp]; exact hc2, by decide, by decide, fun z hz2 => ?_⟩ (.obj _)
  rw [← hz] at hz2
  obtain ⟨y, _, rfl⟩ := List.mem_map.mp hz2
  by_cases hy : y < 0
  · rw [if_pos hy]; omega
  · rw [if_neg hy]; omega
/-! ### _law_any -/
def R_any : List D → Hp → Pd → Prop := fun ds H P => ∃ (h : Addr) (xs : List D), ds = [.obj (.ref h), .lst xs] ∧ Hand H h ∧ xs ≠ [] ∧ xs.length ≤ 100000 ∧ P = fun d _ => d ∈ xs
theorem ep_draw {σ : L2.St} {H : Hp} {E : XK} {h : Addr} {m : Int} {ta : TA} (hh : Hand H h) (ha : EDA K ta σ H [.obj (.ref h), .int m]) (h1 : 1 ≤ m ∧ m ≤ 1000000) : EP K (tCall (spD K R_draw) [] E ta) σ H (fun d _ => ∃ r : Int, d = .int r ∧ 0 ≤ r ∧ r < m) :=
  ed_call ha fun H2 e => ⟨h, m, rfl, hh.le e, h1.1, h1.2, rfl⟩
theorem ok_any (T : Txt mg) (g : GDef K mg "_law_any" s__law_any ["_law_hand_here", "_law_items"]) (G_law_draw : Def P w K mg base 1 "_law_draw" ["_law_hand_here", "_law_many"] (spD K R_draw)) :
    Def P w K mg base 2 "_law_any" ["_law_hand_here", "_law_items"] (spD K R_any) := by
  refine defD g sc__law_any (fun ds H Pd h => ?_) fun cdv A outer s f H vs ds Pd Q E hr r h q => ?_
  · obtain ⟨h, xs, rfl, _⟩ := h
    rfl
  obtain ⟨h, xs, rfl, hh, hne, hl, rfl⟩ := h
  obtain ⟨v1, v2, rfl, r1, r2⟩ := rps2 r
  refine ⟨_, (pss_one (ps_ret (pe_ix (kix_list (K := K)) (pv 1) (pe_def G_law_draw (hr.mono (by decide)) (pa_cons (pv 0) (pa_cons (pe_callB (kc_len (K := K)) (by rfl) T.n_len boot_len (pa_cons (pv 1) pa_nil)) pa_nil))) (fun _ _ => rfl)))), ?_⟩
  have hlen : 1 ≤ (xs.length : Int) ∧ (xs.length : Int) ≤ 1000000 := by
    have : xs.length ≠ 0 := fun e => hne (List.eq_nil_of_length_eq_zero e)
    omega
  refine s_ret (P := fun d _ => d ∈ xs) ?_ q
  refine ep_op (P1 := is (.lst xs)) (P2 := fun d _ => ∃ r : Int, d = .int r ∧ 0 ≤ r ∧ r < xs.length) (ed_var rfl r2) ?_ ?_
  · exact ep_draw hh (ea_cons (ed_var rfl r1) (ea_cons (ed_lenL (ed_var rfl r2)) ea_nil)) hlen
  · rintro x y d1 d2 H1 H2 _ _ rfl ⟨i, rfl, h0, h1⟩ q1 q2 Q' q'
    obtain ⟨a, us, rfl, s, nh, rr⟩ := rp_lst q1
    have hi : xs[i.toNat]? = some xs[i.toNat] := List.getElem?_eq_getElem (by omega)
    obtain ⟨v, h3, h4⟩ := atI_rps rr h0 hi
    exact ⟨a, us, i, v, rfl, rp_int q2, SqL.of s, h3, q' v _ H2 (Le.refl _) (List.getElem_mem _) h4⟩
end
end W1

set_option maxRecDepth 100000
set_option maxHeartbeats 4000000
namespace W1
open PySem PyProof.Rows L2
local macro_rules | `(tactic| walk_at "rp") => `(tactic| first | assumption | exact Rp.int _ | exact Rp.bl _ | exact Rp.str _ | exact Rp.non | exact Rp.obj _ | (refine Rp.le (by assumption) ?_; walk_at "rp"))
local macro_rules | `(tactic| walk_at "ed") => `(tactic| first
  | exact ed_int | exact ed_str | exact ed_bl | exact ed_non
  | (refine ed_var rfl ?_; walk_at "rp")
  | (refine ed_ixT (ds := [_, _]) ?_ ed_int (by decide) rfl; walk_at "ed")
  | (refine ed_I0 ?_ ?_ <;> walk_at "ed")
  | (refine ed_B0 ?_ ?_ <;> walk_at "ed")
  | (refine ed_eqS ?_ ?_ rfl rfl rfl <;> walk_at "ed")
  | assumption)
local macro_rules | `(tactic| walk_at "ea") => `(tactic| first | exact ea_nil | (refine ea_cons ?_ ?_; walk_at "ed"; walk_at "ea"))

abbrev s__law_pairs : Stmt := topS 53
abbrev N__law_pairs : List Str := ["_law_many", "_law_found", "_law_one", "_law_other"]
theorem sc__law_pairs : FnScope N__law_pairs ["_law_many"] (defScope s__law_pairs) := ⟨rfl, rfl, rfl, by decide +kernel, rfl, by decide +kernel, by decide +kernel⟩
abbrev s__law_near : Stmt := topS 56
abbrev N__law_near : List Str := ["_law_parts_here", "_law_room", "_law_one", "_law_other"]
theorem sc__law_near : FnScope N__law_near ["_law_parts_here", "_law_room"] (defScope s__law_near) := ⟨rfl, rfl, rfl, by decide +kernel, rfl, by decide +kernel, by decide +kernel⟩
/-- the pairs i < j below n, row by row -/
def pairsL (n : Nat) : List (Int × Int) := (List.range n).flatMap fun i : Nat => (List.range ((n : Int) - ((i : Int) + 1)).toNat).map fun j : Nat => ((i : Int), (i : Int) + 1 + (j : Int))
theorem mem_pairsL {n : Nat} {p : Int × Int} : p ∈ pairsL n ↔ 0 ≤ p.1 ∧ p.1 < p.2 ∧ p.2 < n := by
  unfold pairsL
  rw [List.mem_flatMap]
  constructor
  · rintro ⟨i, hi, hp⟩
    obtain ⟨j, hj, rfl⟩ := List.mem_map.mp hp
    rw [List.mem_range] at hi hj
    dsimp only
    omega
  · rintro ⟨h1, h2, h3⟩
    refine ⟨p.1.toNat, List.mem_range.mpr (by omega), List.mem_map.mpr ⟨(p.2 - p.1 - 1).toNat, List.mem_range.mpr (by omega), ?_⟩⟩
    have e1 : ((p.1.toNat : Nat) : Int) = p.1 := by omega
    rw [e1]
    have e2 : p.1 + 1 + (((p.2 - p.1 - 1).toNat : Nat) : Int) = p.2 := by omega
    rw [e2]
theorem flatMap_len {α β : Type} (f : α → List β) (m : Nat) : ∀ l : List α, (∀ a ∈ l, (f a).length ≤ m) → (l.flatMap f).length ≤ l.length * m
  | [], _ => by simp
  | a :: l, h => by
    rw [List.flatMap_cons, List.length_append, List.length_cons, Nat.add_mul, Nat.one_mul]
    have h1 := h a (List.mem_cons_self ..)
    have h2 := flatMap_len f m l fun b hb => h b (List.mem_cons_of_mem _ hb)
    omega
theorem pairs_len {n i : Nat} (hi : i ≤ n) (hn : n ≤ 60) : ((List.range i).flatMap fun i : Nat => (List.range ((n : Int) - ((i : Int) + 1)).toNat).map fun j : Nat => ((i : Int), (i : Int) + 1 + (j : Int))).length ≤ 3600 := by
  refine Nat.le_trans (flatMap_len _ 60 _ fun a _ => ?_) ?_
  · rw [List.length_map, List.length_range]
    omega
  · rw [List.length_range]
    have := Nat.mul_le_mul (show i ≤ 60 by omega) (Nat.le_refl 60)
    omega
section
variable {P : Program} {w : World} {K : PySem.W.Frag} {mg : Str → Option Value} {base : Heap}
def R_pairs : List D → Hp → Pd → Prop := fun ds _ P => ∃ n : Nat, ds = [.int (n : Int)] ∧ n ≤ 60 ∧ P = is (.lst ((pairsL n).map eP))
theorem ok_pairs (T : Txt mg) (g : GDef K mg "_law_pairs" s__law_pairs ["_law_many"]) : Def P w K mg base 1 "_law_pairs" ["_law_many"] (spD K R_pairs) := by
  refine defD g sc__law_pairs (fun ds H Pd h => ?_) fun cdv A outer s f H vs ds Pd Q E hr r h q => ?_
  · obtain ⟨n, rfl, _⟩ := h
    rfl
  obtain ⟨n, rfl, hn, rfl⟩ := h
  obtain ⟨v1, rfl, r1⟩ := rps1 r
  have e1 := rp_int r1
  subst e1
  refine ⟨_, (pss_cons (ps_set (i := 1) sc__law_pairs.nd rfl (Or.inl rfl) (pe_lst pa_nil))
    (pss_cons (ps_for PassesOwn.never rfl (pi_range1 (by rfl) T.n_range (pa_cons (pv 0) pa_nil)) (pg_name (i := 2) sc__law_pairs.nd rfl (Or.inr rfl))
      (pss_one (ps_expr (pe_bm PySem.F.plainAttrs_list PySem.F.slot_list_extend PySem.F.type_list_extend mt_extend (pv 1) (pa_cons (pe_lc (own := [("_law_other", 3)]) rfl sc__law_pairs.nd (pi_range2 (by rfl) T.n_range (pa_cons (pe_op op_add (pv 2) pe_int) (pa_cons (pv 0) pa_nil))) (blkOk_by (N := N__law_pairs) (sc := defScope s__law_pairs) (by decide +kernel)) (fun _ _ _ _ _ => (pg_name (i := 3) sc__law_pairs.nd rfl (Or.inl rfl))) (fun _ _ _ _ _ => pts_nil) (fun _ _ _ _ _ => (pe_tup (pa_cons (pv 2) (pa_cons (pv 3) pa_nil))))) pa_nil)))))
    (pss_one (ps_ret (pv 1))))), ?_⟩
  refine q_asgF (K := K) (ef_lst (ds := []) ea_nil (by decide) rfl) fun c vs ds H1 nc e1 hc nh rr hd => ?_
  subst hd
  refine q_forR1 (K := K) (n := (n : Int)) (ea_cons (ed_var rfl (.int _)) ea_nil) (by omega) fun H2 e2 => ?_
  refine ⟨fun i σ H' => ∃ y ws, σ = [some (.int (n : Int)), some (.ref c), y, none] ∧ Le H H' ∧ H' c = some (.lst ws) ∧ i ≤ n ∧
    Rps K H' ws (((List.range i).flatMap fun i : Nat => (List.range ((n : Int) - ((i : Int) + 1)).toNat).map fun j : Nat => ((i : Int), (i : Int) + 1 + (j : Int))).map eP), ⟨none, vs, rfl, e1.trans e2, e2.lst hc nh, Nat.zero_le _, rr.le e2⟩, ?_, ?_⟩
  · rintro i σ H' hi ⟨y, ws, rfl, e, hc', _, rr'⟩
    have nh' : NotH ws := (enc_P.un _).notH rr'
    refine s_ext (ds := ((List.range ((n : Int) - ((i : Int) + 1)).toNat).map fun j : Nat => ((i : Int), (i : Int) + 1 + (j : Int))).map eP) hc' nh' (ed_var rfl (.obj _)) (fun H3 e3 => ?_) ?_ ?_
    · refine ed_lcR2 enc_P (fun k => ((i : Int), k)) (ea_cons (ed_I0 (f := fun i j => i + j) (ed_var rfl (.int (i : Int))) ed_int) (ea_cons (ed_var rfl (.int (n : Int))) ea_nil)) (by omega) (fun _ => rfl) fun j H4 e4 hj => ?_
      exact ed_tup (ea_cons (ed_var rfl (.int _)) (ea_cons (ed_var rfl (.int _)) ea_nil)) (by show 2 ≤ 100000; decide)
    · rw [rr'.len, List.length_map, List.length_map, List.length_map, List.length_range]
      have := pairs_len (n := n) (i := i) (by omega) hn
      omega
    · intro ws2 H3 e3 rr2 hc3
      refine ⟨_, ws ++ ws2, rfl, (e.trans e3).mut nc, upd_same, by omega, ?_⟩
      rw [List.range_succ, List.flatMap_append, List.map_append]
      refine ((rr'.le e3).upd hc3 (enc_P.nl _)).app ?_
      rw [List.flatMap_cons, List.flatMap_nil, List.append_nil]
      exact rr2.upd hc3 (enc_P.nl _)
  · rintro σ H' ⟨y, ws, rfl, e, hc', _, rr'⟩
    rw [Int.toNat_natCast] at rr'
    refine s_retD (ed_var rfl (.lst hc' ((enc_P.un _).notH rr') rr')) fun v H3 e3 r3 => ?_
    exact q v _ H3 (e.trans e3) rfl r3
/-! ### parts as data -/
def eW (ms : List Int) (ties : List (Int × Int)) : D := .tup [.tup (ms.map .int), .tup (ties.map eP)]
def rawNear (ties : List (Int × Int)) (r : Int) : List Int := (ties.filter fun p => decide (r ∈ [p.1, p.2])).map fun p => p.1 + p.2 - r
structure Near (ties : List (Int × Int)) (r : Int) (ns : List Int) : Prop where
  perm : ns.Perm (rawNear ties r)
  up : ns.Pairwise (· ≤ ·)
def R_near : List D → Hp → (List D → Prop) → Prop := fun ds _ P => ∃ ms ties r, ds = [eW ms ties, .int r] ∧ ties.length ≤ 3600 ∧ P = fun es => ∃ ns : List Int, es = ns.map .int ∧ Near ties r ns
theorem ok_near (T : Txt mg) (g : GDef K mg "_law_near" s__law_near ["_law_parts_here", "_law_room"]) : Def P w K mg base 1 "_law_near" ["_law_parts_here", "_law_room"] (spF K R_near) := by
  refine defF g sc__law_near (fun ds H Pd h => ?_) fun cdv A outer s f H vs ds Pd Q E hr r h q => ?_
  · obtain ⟨ms, ties, n, rfl, _⟩ := h
    rfl
  obtain ⟨ms, ties, n, rfl, hz, rfl⟩ := h
  obtain ⟨v1, v2, rfl, r1, r2⟩ := rps2 r
  refine ⟨_, (pss_one (ps_ret (pe_callB (kc_sortedI (K := K)) (by rfl) T.n_sorted boot_sorted (pa_cons (pe_lc (own := [("_law_one", 2), ("_law_other", 3)]) rfl sc__law_near.nd (kpi_tup (K := K) (pe_ix (kix_tup (K := K)) (pv 0) pe_int (fun _ _ => rfl))) (blkOk_by (N := N__law_near) (sc := defScope s__law_near) (by decide +kernel)) (fun _ _ _ _ _ => (kpg_tup (K := K) (n := 2) rfl (pgs_cons (pg_name (i := 2) sc__law_near.nd rfl (Or.inl rfl)) (pgs_cons (pg_name (i := 3) sc__law_near.nd rfl (Or.inl rfl)) pgs_nil)))) (fun _ _ _ _ _ => (pts_one (pt_cmpR (kop_in (K := K)) (pv 1) (pe_tup (pa_cons (pv 2) (pa_cons (pv 3) pa_nil))) (by rfl)))) (fun _ _ _ _ _ => (pe_op op_sub (pe_op op_add (pv 2) (pv 3)) (pv 1)))) pa_nil)))), ?_⟩
  refine s_retF (ef_sortedI (PN := fun ns => ns = rawNear ties n) ?_) fun p us es H1 np e1 hp nh rr pl => q p us es H1 np e1 hp nh rr (by
    obtain ⟨ns, ns', rfl, rfl, hp, hs⟩ := pl
    exact ⟨ns', rfl, hp, hs⟩)
  · refine EP.weak (ed_lcT2 enc_int ties (fun p => decide (n ∈ [p.1, p.2])) (fun p => p.1 + p.2 - n) (ed_ixT (ds := [_, _]) (ed_var rfl r1) ed_int (by decide) rfl) (by omega) (fun _ _ => rfl) (fun p H1 e hp => ?_) fun p H1 e hp _ => ?_) fun d H2 _ p => ⟨_, p, rfl⟩
    · exact et_test (ed_inT (ns := [p.1, p.2]) (ed_var rfl (r2.le e)) (ed_tup (ea_cons (ed_var rfl (.int _)) (ea_cons (ed_var rfl (.int _)) ea_nil)) (by show 2 ≤ 100000; decide)))
    · exact ed_I0 (f := fun i j => i - j) (ed_I0 (f := fun i j => i + j) (ed_var rfl (.int _)) (ed_var rfl (.int _))) (ed_var rfl (r2.le e))
def eR (x : Bool × List Int) : D := .tup [.bl x.1, .tup (x.2.map .int)]
theorem enc_R : Enc eR := enc_tup fun a d hd => by
  rcases List.mem_cons.mp hd with rfl | hd
  · exact .bl _
  · rcases List.mem_cons.mp hd with rfl | hd
    · exact .tup (noL_ints _)
    · cases hd
theorem rep_flat {α : Type} (a : α) : ∀ n : Nat, (List.replicate n [a]).flatten = List.replicate n a
  | 0 => rfl
  | n + 1 => by
    rw [List.replicate_succ, List.flatten_cons, rep_flat a n]
    rfl
end
end W1

set_option maxRecDepth 100000
set_option maxHeartbeats 4000000
namespace W1
open PySem PyProof.Rows L2
local macro_rules | `(tactic| walk_at "rp") => `(tactic| first | assumption | exact Rp.int _ | exact Rp.bl _ | exact Rp.str _ | exact Rp.non | exact Rp.obj _ | (refine Rp.le (by assumption) ?_; walk_at "rp"))
local macro_rules | `(tactic| walk_at "ed") => `(tactic| first
  | exact ed_int | exact ed_str | exact ed_bl | exact ed_non
  | (refine ed_var rfl ?_; walk_at "rp")
  | (refine ed_ixT (ds := [_, _]) ?_ ed_int (by decide) rfl; walk_at "ed")
  | (refine ed_I0 ?_ ?_ <;> walk_at "ed")
  | (refine ed_B0 ?_ ?_ <;> walk_at "ed")
  | (refine ed_eqS ?_ ?_ rfl rfl rfl <;> walk_at "ed")
  | assumption)
local macro_rules | `(tactic| walk_at "ea") => `(tactic| first | exact ea_nil | (refine ea_cons ?_ ?_; walk_at "ed"; walk_at "ea"))

abbrev s__law_parts : Stmt := topS 54
abbrev N__law_parts : List Str := ["_law_hand_here", "_law_most", "_law_memory", "_law_many", "_law_kind", "_law_share", "_law_memories", "_law_pairs_here", "_law_ties", "_law_room", "_law_pair"]
theorem sc__law_parts : FnScope N__law_parts ["_law_hand_here", "_law_most", "_law_memory"] (defScope s__law_parts) := ⟨rfl, rfl, rfl, by decide +kernel, rfl, by decide +kernel, by decide +kernel⟩
structure PartsOk (ms : List Int) (ties : List (Int × Int)) : Prop where
  some : 1 ≤ ms.length
  few : ms.length ≤ 60
  mem : ∀ m ∈ ms, 0 ≤ m ∧ m ≤ 30
  sub : ties.Sublist (pairsL ms.length)
theorem PartsOk.len {ms : List Int} {ties : List (Int × Int)} (h : PartsOk ms ties) : ties.length ≤ 3600 := Nat.le_trans h.sub.length_le (pairs_len (n := ms.length) (i := ms.length) (Nat.le_refl _) h.few)
section
variable {P : Program} {w : World} {K : PySem.W.Frag} {mg : Str → Option Value} {base : Heap}
section
variable {σ : L2.St} {H : Hp} {E : XK} {h : Addr} {ta tb : TE} {a : TA}
theorem ep_plus {m k : Int} (hd : EP K tb σ H (fun d _ => ∃ r : Int, d = .int r ∧ 0 ≤ r ∧ r < m)) : EP K (tOp (rI0 fun i j => .int (i + j)) (tC (.int k)) tb) σ H (fun d _ => ∃ r : Int, d = .int r ∧ k ≤ r ∧ r < k + m) :=
  ep_I0 ed_int hd fun d1 d2 H1 H2 _ _ p1 ⟨r, e, h0, h1⟩ => ⟨k, r, p1, e, _, ⟨k + r, rfl, by omega, by omega⟩, .int _⟩
theorem et_eq0 {k : Int} (hd : EP K ta σ H (fun d _ => ∃ r : Int, d = .int r)) : ET (tTest (tOp rEq ta (tC (.int k)))) σ H fun _ => True :=
  et_testp (ep_op hd ed_int fun x y d1 d2 H1 H2 _ _ ⟨r, e⟩ p2 r1 r2 Q q => by
    have p2' : d2 = .int k := p2
    subst e p2'
    rw [rp_int r1, rp_int r2]
    exact ⟨rfl, q _ (.bl _) H2 (Le.refl _) ⟨_, rfl⟩ (.bl _)⟩)
theorem et_cmp {g : Int → Int → Bool} (hd : EP K ta σ H (fun d _ => ∃ r : Int, d = .int r)) (hb : EP K tb σ H (fun d _ => ∃ r : Int, d = .int r)) : ET (tTest (tOp (rI0 fun i j => .bl (g i j)) ta tb)) σ H fun _ => True :=
  et_testp (ep_I0 hd hb fun d1 d2 H1 H2 _ _ ⟨i, e1⟩ ⟨j, e2⟩ => ⟨i, j, e1, e2, .bl (g i j), ⟨_, rfl⟩, .bl _⟩)
theorem EP.anyI {m : Int} (hd : EP K tb σ H (fun d _ => ∃ r : Int, d = .int r ∧ 0 ≤ r ∧ r < m)) : EP K tb σ H (fun d _ => ∃ r : Int, d = .int r) := hd.weak fun d _ _ ⟨r, e, _⟩ => ⟨r, e⟩
end
def R_parts : List D → Hp → Pd → Prop := fun ds H P => ∃ (h : Addr) (most m : Int), ds = [.obj (.ref h), .int most, .int m] ∧ Hand H h ∧ 1 ≤ most ∧ most ≤ 60 ∧ 0 ≤ m ∧ m ≤ 30 ∧
  P = fun d _ => ∃ ms ties, d = eW ms ties ∧ PartsOk ms ties ∧ (ms.length : Int) ≤ most ∧ ∀ z ∈ ms, z ≤ m
theorem ok_parts (T : Txt mg) (g : GDef K mg "_law_parts" s__law_parts ["_law_hand_here", "_law_most", "_law_memory"]) (G_law_draw : Def P w K mg base 1 "_law_draw" ["_law_hand_here", "_law_many"] (spD K R_draw))
    (G_law_pairs : Def P w K mg base 1 "_law_pairs" ["_law_many"] (spD K R_pairs)) : Def P w K mg base 2 "_law_parts" ["_law_hand_here", "_law_most", "_law_memory"] (spD K R_parts) := by
  refine defD g sc__law_parts (fun ds H Pd h => ?_) fun cdv A outer s f H vs ds Pd Q E hr r h q => ?_
  · obtain ⟨h, a, b, rfl, _⟩ := h
    rfl
  obtain ⟨h, most, mm, rfl, hh, m1, m2, mm0, mm1, rfl⟩ := h
  obtain ⟨v1, v2, v3, rfl, r1, r2, r3⟩ := rps3 r
  refine ⟨_, (pss_cons (ps_asg (pe_tup (pa_cons (pe_op op_add pe_int (pe_def G_law_draw (hr.mono (by decide)) (pa_cons (pv 0) (pa_cons (pv 1) pa_nil)))) (pa_cons (pe_def G_law_draw (hr.mono (by decide)) (pa_cons (pv 0) (pa_cons pe_int pa_nil))) (pa_cons (pe_op op_add pe_int (pe_def G_law_draw (hr.mono (by decide)) (pa_cons (pv 0) (pa_cons pe_int pa_nil)))) pa_nil)))) (kpg_tup (K := K) (n := 3) rfl (pgs_cons (pg_name (i := 3) sc__law_parts.nd rfl (Or.inr rfl)) (pgs_cons (pg_name (i := 4) sc__law_parts.nd rfl (Or.inl rfl)) (pgs_cons (pg_name (i := 5) sc__law_parts.nd rfl (Or.inr rfl)) pgs_nil)))))
    (pss_cons (ps_setLc (i := 6) (own := [("_law_room", 9)]) rfl sc__law_parts.nd rfl rfl (sw_true rfl rfl rfl (by decide +kernel)) (pi_range1 (by rfl) T.n_range (pa_cons (pv 3) pa_nil)) (blkOk_by (N := N__law_parts) (sc := defScope s__law_parts) (by decide +kernel)) (fun _ _ _ _ _ => (pg_name (i := 9) sc__law_parts.nd rfl (Or.inl rfl))) (fun _ _ _ _ _ => pts_nil) (fun _ _ _ _ _ => (pe_def G_law_draw (hr.mono (by decide)) (pa_cons (pv 0) (pa_cons (pe_op op_add (pv 2) pe_int) pa_nil)))))
    (Evl.pss_cut (ps_if (pt_cmpR op_eq (pe_def G_law_draw (hr.mono (by decide)) (pa_cons (pv 0) (pa_cons pe_int pa_nil))) pe_int (nomark _))
      (pss_one (ps_set (i := 6) sc__law_parts.nd rfl (Or.inl rfl) (pe_op op_rep (pe_lst (pa_cons (pe_ix (kix_list (K := K)) (pv 6) pe_int (fun _ _ => rfl)) pa_nil)) (pv 3))))
      pss_nil)
    (pss_cons (ps_set (i := 7) sc__law_parts.nd rfl (Or.inl rfl) (pe_def G_law_pairs (hr.mono (by decide)) (pa_cons (pv 3) pa_nil)))
    (Evl.pss_cut (ps_if (pt_cmpR op_eq (pv 4) pe_int (nomark _))
      (pss_one (ps_setLc (i := 8) (own := [("_law_pair", 10)]) rfl sc__law_parts.nd rfl rfl (sw_true rfl rfl rfl (by decide +kernel)) (kpi_list (K := K) (pv 7)) (blkOk_by (N := N__law_parts) (sc := defScope s__law_parts) (by decide +kernel)) (fun _ _ _ _ _ => (pg_name (i := 10) sc__law_parts.nd rfl (Or.inl rfl))) (fun _ _ _ _ _ => (pts_one (pt_cmpR (kop_in (K := K)) (pe_op op_sub (pe_ix (kix_tup (K := K)) (pv 10) pe_int (fun _ _ => rfl)) (pe_ix (kix_tup (K := K)) (pv 10) pe_int (fun _ _ => rfl))) (pe_tup (pa_cons pe_int (pa_cons (pe_op op_sub (pv 3) pe_int) pa_nil))) (by rfl)))) (fun _ _ _ _ _ => (pv 10))))
      (pss_one (ps_if (pt_cmpR op_eq (pv 4) pe_int (nomark _))
      (pss_one (ps_setLc (i := 8) (own := [("_law_pair", 10)]) rfl sc__law_parts.nd rfl rfl (sw_true rfl rfl rfl (by decide +kernel)) (kpi_list (K := K) (pv 7)) (blkOk_by (N := N__law_parts) (sc := defScope s__law_parts) (by decide +kernel)) (fun _ _ _ _ _ => (pg_name (i := 10) sc__law_parts.nd rfl (Or.inl rfl))) (fun _ _ _ _ _ => (pts_one (pt_cmpR op_eq (pe_op op_sub (pe_ix (kix_tup (K := K)) (pv 10) pe_int (fun _ _ => rfl)) (pe_ix (kix_tup (K := K)) (pv 10) pe_int (fun _ _ => rfl))) pe_int (nomark _)))) (fun _ _ _ _ _ => (pv 10))))
      (pss_one (ps_if (pt_cmpR op_eq (pv 4) pe_int (nomark _))
      (pss_one (ps_setLc (i := 8) (own := [("_law_pair", 10)]) rfl sc__law_parts.nd rfl rfl (sw_true rfl rfl rfl (by decide +kernel)) (kpi_list (K := K) (pv 7)) (blkOk_by (N := N__law_parts) (sc := defScope s__law_parts) (by decide +kernel)) (fun _ _ _ _ _ => (pg_name (i := 10) sc__law_parts.nd rfl (Or.inl rfl))) (fun _ _ _ _ _ => (pts_one (PW.pt (pw_and (pt_cmpR op_eq (pe_op op_mod (pe_callTy call_int1 (by rfl) T.n_int boot_int (pa_cons (pe_op op_add (pe_ix (kix_tup (K := K)) (pv 10) pe_int (fun _ _ => rfl)) (pe_ix (kix_tup (K := K)) (pv 10) pe_int (fun _ _ => rfl))) pa_nil)) pe_int) pe_int (nomark _)) (pw_and1 (pt_cmpR op_lt (pe_def G_law_draw (hr.mono (by decide)) (pa_cons (pv 0) (pa_cons pe_int pa_nil))) (pv 5) (nomark _))))))) (fun _ _ _ _ _ => (pv 10))))
      (pss_one (ps_if (pt_cmpR op_eq (pv 4) pe_int (nomark _))
      (pss_one (ps_setLc (i := 8) (own := [("_law_pair", 10)]) rfl sc__law_parts.nd rfl rfl (sw_true rfl rfl rfl (by decide +kernel)) (kpi_list (K := K) (pv 7)) (blkOk_by (N := N__law_parts) (sc := defScope s__law_parts) (by decide +kernel)) (fun _ _ _ _ _ => (pg_name (i := 10) sc__law_parts.nd rfl (Or.inl rfl))) (fun _ _ _ _ _ => (pts_one (pt_cmpR op_eq (pe_ix (kix_tup (K := K)) (pv 10) pe_int (fun _ _ => rfl)) pe_int (nomark _)))) (fun _ _ _ _ _ => (pv 10))))
      (pss_one (ps_setLc (i := 8) (own := [("_law_pair", 10)]) rfl sc__law_parts.nd rfl rfl (sw_true rfl rfl rfl (by decide +kernel)) (kpi_list (K := K) (pv 7)) (blkOk_by (N := N__law_parts) (sc := defScope s__law_parts) (by decide +kernel)) (fun _ _ _ _ _ => (pg_name (i := 10) sc__law_parts.nd rfl (Or.inl rfl))) (fun _ _ _ _ _ => (pts_one (pt_cmpR op_lt (pe_def G_law_draw (hr.mono (by decide)) (pa_cons (pv 0) (pa_cons pe_int pa_nil))) (pv 5) (nomark _)))) (fun _ _ _ _ _ => (pv 10)))))))))))
    (pss_one (ps_ret (pe_tup (pa_cons (pe_callTy (kc_tuple (K := K)) (by rfl) T.n_tuple boot_tuple (pa_cons (pv 6) pa_nil)) (pa_cons (pe_callTy (kc_tuple (K := K)) (by rfl) T.n_tuple boot_tuple (pa_cons (pv 8) pa_nil)) pa_nil)))))))))), ?_⟩
  -- many, kind, share
  refine q_tup3 (K := K) (ep_cons (ep_plus (ep_draw hh (ea_cons (ed_var rfl r1) (ea_cons (ed_var rfl r2) ea_nil)) (by omega)))
    (ep_cons (ep_draw hh (ea_cons (ed_var rfl r1) (ea_cons ed_int ea_nil)) (by omega)) (ep_cons (ep_plus (ep_draw hh (ea_cons (ed_var rfl r1) (ea_cons ed_int ea_nil)) (by omega))) ea_nil))) ?_ ?_
  · rintro ds H1 ⟨d, r, H2, rfl, _, _, d2, r2, H3, rfl, _, _, d3, r3, H4, rfl, _, _, rfl⟩
    rfl
  rintro w1 w2 w3 d1 d2 d3 H1 e1 ⟨d, r, H2, er, _, ⟨many, em, n1, n2⟩, d', r', H3, er2, _, ⟨kind, ek, _, _⟩, d'', r'', H4, er3, _, ⟨share, es, _, _⟩, er4⟩ q1 q2 q3 H5 e5
  injection er with ea eb
  subst eb
  injection er2 with ea2 eb
  subst eb
  injection er3 with ea3 eb
  subst er4 ea ea2 ea3 em ek es
  have ew1 := rp_int q1
  have ew2 := rp_int q2
  have ew3 := rp_int q3
  subst ew1 ew2 ew3
  have e0 := e1.trans e5
  obtain ⟨n, rfl⟩ : ∃ n : Nat, many = (n : Int) := ⟨many.toNat, by omega⟩
  have hh1 := hh.le e0
  have hv1 : v1 = .ref h := rp_obj r1
  have hv3 : v3 = .int mm := rp_int r3
  subst hv1 hv3
  -- memories
  refine q_asg (K := K) (ep_lcR enc_int (n := n) (fun z => 0 ≤ z ∧ z ≤ mm) (ea_cons (ed_var rfl (.int _)) ea_nil) (by omega) (fun _ => rfl) fun i H6 e6 hi => ?_) ?_
  · refine (ep_draw (hh1.le e6) (ea_cons (ed_var rfl (.obj _)) (ea_cons (ed_I0 (f := fun i j => i + j) (ed_var rfl (.int mm)) ed_int) ea_nil)) (by omega)).weak fun d H7 _ p => ?_
    obtain ⟨r, rfl, h0, h1⟩ := p
    exact ⟨r, rfl, h0, by omega⟩
  rintro v6 d6 H6 e6 ⟨zs, rfl, hzl, hz⟩ r6
  -- all of one memory, perhaps
  refine q_cut (M := fun σ H' => ∃ v6 zs, σ = [some (.ref h), some v2, some (.int mm), some (.int (n : Int)), some (.int kind), some (.int share), some v6, none, none, none, none] ∧ Le H6 H' ∧ Rp K H' v6 (.lst (List.map D.int zs)) ∧ zs.length = n ∧ ∀ z ∈ zs, 0 ≤ z ∧ z ≤ mm) ?_ ?_
  · refine s_if (et_eq0 (K := K) (EP.anyI (ep_draw (hh1.le e6) (ea_cons (ed_var rfl (.obj _)) (ea_cons ed_int ea_nil)) (by omega)))) (fun _ H7 e7 => ?_) (fun _ H7 e7 => ?_)
    · obtain ⟨z, zs, rfl⟩ : ∃ z r, zs = z :: r := by
        cases zs with
        | nil =>
          rw [List.length_nil] at hzl
          omega
        | cons z r => exact ⟨z, r, rfl⟩
      have eq : (List.replicate ((n : Int)).toNat [D.int z]).flatten = (List.replicate n z).map D.int := by
        rw [rep_flat, Int.toNat_natCast, List.map_replicate]
      refine s_asgD (ed_eq (ed_rep (ds := [.int z]) (k := (n : Int)) (ed_lst (ea_cons (ed_ixL (ed_var rfl (r6.le e7)) ed_int (by decide) rfl) ea_nil) (by show 1 ≤ 100000; decide) rfl) (ed_var rfl (.int _)) (by omega) (by show 1 ≤ 1000; decide) (by rw [eq]; exact enc_int.un _)) (congrArg D.lst eq)) fun v H8 e8 r8 => ?_
      refine ⟨v, List.replicate n z, rfl, e7.trans e8, r8, List.length_replicate, fun y hy => ?_⟩
      rw [List.eq_of_mem_replicate hy]
      exact hz z (List.mem_cons_self ..)
    · exact ⟨v6, zs, rfl, e7, r6.le e7, hzl, hz⟩
  clear r6 hz hzl zs v6
  rintro σ H7 ⟨v6, zs, rfl, e7, r6, hzl, hz⟩
  have e07 := (e0.trans e6).trans e7
  -- the pairs
  refine q_asgD (K := K) (ed_call (P := is (.lst ((pairsL n).map eP))) (ea_cons (ed_var rfl (.int (n : Int))) ea_nil) fun H8 _ => ⟨n, rfl, by omega, rfl⟩) fun v7 H8 e8 r7 => ?_
  have pl : (pairsL n).length ≤ 50000 := Nat.le_trans (pairs_len (n := n) (i := n) (Nat.le_refl _) (by omega)) (by decide)
  have hh8 := hh.le (e07.trans e8)
  -- the ties
  refine q_cut (M := fun σ H' => ∃ v8 ties, σ = [some (.ref h), some v2, some (.int mm), some (.int (n : Int)), some (.int kind), some (.int share), some v6, some v7, some v8, none, none] ∧ Le H8 H' ∧ Rp K H' v8 (.lst (List.map eP ties)) ∧ ties.Sublist (pairsL n)) ?_ ?_
  · have fin : ∀ {σ : L2.St} {H9 : Hp} {te : TE} {D1 : Ends}, σ = [some (.ref h), some v2, some (.int mm), some (.int (n : Int)), some (.int kind), some (.int share), some v6, some v7, none, none, none] → Le H8 H9 →
        (D1.nx = fun σ H' => ∃ v8 ties, σ = [some (.ref h), some v2, some (.int mm), some (.int (n : Int)), some (.int kind), some (.int share), some v6, some v7, some v8, none, none] ∧ Le H8 H' ∧ Rp K H' v8 (.lst (List.map eP ties)) ∧ ties.Sublist (pairsL n)) →
        EP K te σ H9 (fun d _ => ∃ zs, d = .lst (List.map eP zs) ∧ zs.Sublist (pairsL n)) → tAsg te (gName 8) D1 σ H9 := by
      intro σ H9 te D1 es e9 en hp
      refine s_asg hp fun v d H10 e10 p r => ?_
      obtain ⟨zs, rfl, hs⟩ := p
      rw [en, es]
      exact ⟨v, zs, rfl, e9.trans e10, r, hs⟩
    have prs : ∀ {H9 : Hp} {σ : L2.St}, Le H8 H9 → σ[7]? = some (some v7) → ED K (tVar 7) σ H9 (.lst (List.map eP (pairsL n))) := fun e9 hs => ed_var hs (r7.le e9)
    have comp : ∀ {H9 : Hp} {σ : L2.St} {tt : TT}, Le H8 H9 → σ[7]? = some (some v7) → (∀ x, wipe ((wipe σ [10]).set 10 (some x)) [10] = wipe σ [10]) → ((wipe σ [10]).length = 11) →
        (∀ b v H1, Le H9 H1 → Rp K H1 v (eP b) → ET tt ((wipe σ [10]).set 10 (some v)) H1 fun _ => True) → EP K (tLc (iList K (tVar 7)) (gName 10) tt (tVar 10) [10]) σ H9 (fun d _ => ∃ zs, d = .lst (List.map eP zs) ∧ zs.Sublist (pairsL n)) := by
      intro H9 σ tt e9 h7 hw hlen ht
      refine ep_lcSub enc_P (pairsL n) (fun _ => True) (prs e9 h7) pl hw (fun b v H1 e hb r => et_weak (ht b v H1 e r) fun _ _ _ => trivial) fun b v H1 e hb r => ed_var ?_ r
      rw [List.getElem?_set_self (by omega)]
    have dif : ∀ {H1 : Hp} {σ : L2.St} {v : V} {b : Int × Int}, σ[10]? = some (some v) → Rp K H1 v (eP b) → ED K (tOp (rI0 fun i j => .int (i - j)) (tOp (rIxT K) (tVar 10) (tC (.int 1))) (tOp (rIxT K) (tVar 10) (tC (.int 0)))) σ H1 (.int (b.2 - b.1)) := fun hs r =>
      ed_I0 (f := fun i j => i - j) (ed_ixT (ds := [_, _]) (ed_var hs r) ed_int (by decide) rfl) (ed_ixT (ds := [_, _]) (ed_var hs r) ed_int (by decide) rfl)
    refine s_if (et_eq0 (K := K) (EP.weak (ed_var rfl (.int kind)) fun d _ _ p => ⟨_, p⟩)) (fun _ H9 e9 => ?_) (fun _ H9 e9 => ?_)
    · refine fin rfl e9 rfl (comp e9 rfl (fun _ => rfl) rfl fun b v H1 e r => et_weak (et_test (ed_inT (ns := [1, (n : Int) - 1]) (dif rfl r) (ed_tup (ea_cons ed_int (ea_cons (ed_I0 (f := fun i j => i - j) (ed_var rfl (.int _)) ed_int) ea_nil)) (by show 2 ≤ 100000; decide)))) fun _ _ => trivial)
    refine s_if (et_eq0 (K := K) (EP.weak (ed_var rfl (.int kind)) fun d _ _ p => ⟨_, p⟩)) (fun _ H10 e10 => ?_) (fun _ H10 e10 => ?_)
    · refine fin rfl (e9.trans e10) rfl (comp (e9.trans e10) rfl (fun _ => rfl) rfl fun b v H1 e r => et_weak (et_test (ed_eqS (dif rfl r) ed_int rfl rfl rfl)) fun _ _ => trivial)
    refine s_if (et_eq0 (K := K) (EP.weak (ed_var rfl (.int kind)) fun d _ _ p => ⟨_, p⟩)) (fun _ H11 e11 => ?_) (fun _ H11 e11 => ?_)
    · refine fin rfl ((e9.trans e10).trans e11) rfl (comp ((e9.trans e10).trans e11) rfl (fun _ => rfl) rfl fun b v H1 e r => ?_)
      refine et_weak (et_and (et_test (ed_eqS (ed_I (f := fun i j => i % j) (ed_int1 (ed_I0 (f := fun i j => i + j) (ed_ixT (ds := [_, _]) (ed_var rfl r) ed_int (by decide) rfl) (ed_ixT (ds := [_, _]) (ed_var rfl r) ed_int (by decide) rfl))) ed_int (by show (0 : Int) < 2; decide)) ed_int rfl rfl rfl)) fun _ => et_cmp (K := K) (EP.anyI (ep_draw (((hh8.le e9).le (e10.trans e11)).le e) (ea_cons (ed_var rfl (.obj _)) (ea_cons ed_int ea_nil)) (by omega))) (EP.weak (ed_var rfl (.int share)) fun d _ _ p => ⟨_, p⟩)) fun _ _ => trivial
    refine s_if (et_eq0 (K := K) (EP.weak (ed_var rfl (.int kind)) fun d _ _ p => ⟨_, p⟩)) (fun _ H12 e12 => ?_) (fun _ H12 e12 => ?_)
    · refine fin rfl (((e9.trans e10).trans e11).trans e12) rfl (comp (((e9.trans e10).trans e11).trans e12) rfl (fun _ => rfl) rfl fun b v H1 e r => et_weak (et_test (ed_eqS (ed_ixT (ds := [_, _]) (ed_var rfl r) ed_int (by decide) rfl) ed_int rfl rfl rfl)) fun _ _ => trivial)
    · refine fin rfl (((e9.trans e10).trans e11).trans e12) rfl (comp (((e9.trans e10).trans e11).trans e12) rfl (fun _ => rfl) rfl fun b v H1 e r => ?_)
      exact et_cmp (K := K) (EP.anyI (ep_draw ((((hh8.le e9).le (e10.trans e11)).le e12).le e) (ea_cons (ed_var rfl (.obj _)) (ea_cons ed_int ea_nil)) (by omega))) (EP.weak (ed_var rfl (.int share)) fun d _ _ p => ⟨_, p⟩)
  rintro σ H9 ⟨v8, ties, rfl, e9, r8, hs⟩
  refine s_retD (ed_tup (ea_cons (ed_tupOf (ed_var rfl (r6.le (e8.trans e9)))) (ea_cons (ed_tupOf (ed_var rfl r8)) ea_nil)) (by show 2 ≤ 100000; decide)) fun v H10 e10 r => ?_
  refine q v _ H10 (((e07.trans e8).trans e9).trans e10) ⟨zs, ties, rfl, ⟨by omega, by omega, fun z hz2 => ?_, by rw [hzl]; exact hs⟩, by omega, fun z hz2 => (hz z hz2).2⟩ r
  have := hz z hz2
  omega
end
end W1

set_option maxRecDepth 100000
set_option maxHeartbeats 4000000
namespace W1
open PySem PyProof.Rows L2
theorem map_get {α : Type} {f : α → D} {xs : List α} {i : Nat} {a : α} (h : xs[i]? = some a) : (xs.map f)[i]? = some (f a) := by
  rw [List.getElem?_map, h]
  rfl
theorem vs_int (i j : Int) : decide (vOf (.int i) = vOf (.int j)) = decide (i = j) := by
  show decide (V.int i = V.int j) = decide (i = j)
  rw [decide_eq_decide]
  exact ⟨fun h => by injection h, fun h => by rw [h]⟩
theorem vs_str (x y : Str) : decide (vOf (.str x) = vOf (.str y)) = decide (x = y) := by
  show decide (V.str x = V.str y) = decide (x = y)
  rw [decide_eq_decide]
  exact ⟨fun h => by injection h, fun h => by rw [h]⟩
theorem take_more {α : Type} {p : List α} {i : Nat} {d : α} (h : p[i]? = some d) : p.take (i + 1) = p.take i ++ [d] := by
  rw [List.take_add_one, h]
  rfl
section
variable {P : Program} {w : World} {K : PySem.W.Frag} {mg : Str → Option Value} {base : Heap}
theorem ep_any {σ : L2.St} {H : Hp} {E : XK} {h : Addr} {ta : TA} {PX : List D → Prop} (hh : Hand H h) (ha : EA K ta σ H (fun ds _ => ∃ xs, ds = [.obj (.ref h), .lst xs] ∧ PX xs)) (hne : ∀ xs, PX xs → xs ≠ [] ∧ xs.length ≤ 100000) :
    EP K (tCall (spD K R_any) [] E ta) σ H (fun d _ => ∃ xs, PX xs ∧ d ∈ xs) :=
  ep_call ha fun ds H2 e ⟨xs, ed, px⟩ => ⟨fun d _ => d ∈ xs, ⟨h, xs, ed, hh.le e, (hne xs px).1, (hne xs px).2, rfl⟩, fun d H3 _ hd => ⟨xs, px, hd⟩⟩
end
end W1

set_option maxRecDepth 100000
set_option maxHeartbeats 4000000
namespace W1
open PySem PyProof.Rows L2
local macro_rules | `(tactic| walk_at "rp") => `(tactic| first | assumption | exact Rp.int _ | exact Rp.bl _ | exact Rp.str _ | exact Rp.non | exact Rp.obj _ | (refine Rp.le (by assumption) ?_; walk_at "rp"))
local macro_rules | `(tactic| walk_at "ed") => `(tactic| first
  | exact ed_int | exact ed_str | exact ed_bl | exact ed_non
  | (refine ed_var rfl ?_; walk_at "rp")
  | (refine ed_ixT (ds := [_, _]) ?_ ed_int (by decide) rfl; walk_at "ed")
  | (refine ed_I0 ?_ ?_ <;> walk_at "ed")
  | (refine ed_B0 ?_ ?_ <;> walk_at "ed")
  | (refine ed_eqS ?_ ?_ rfl rfl rfl <;> walk_at "ed")
  | assumption)
local macro_rules | `(tactic| walk_at "ea") => `(tactic| first | exact ea_nil | (refine ea_cons ?_ ?_; walk_at "ed"; walk_at "ea"))

abbrev s_is_integer : Stmt := topS 7
abbrev N_is_integer : List Str := ["thing"]
theorem sc_is_integer : FnScope N_is_integer ["thing"] (defScope s_is_integer) := ⟨rfl, rfl, rfl, by decide +kernel, rfl, by decide +kernel, by decide +kernel⟩
abbrev s_is_between : Stmt := topS 8
abbrev N_is_between : List Str := ["least", "most", "thing"]
theorem sc_is_between : FnScope N_is_between ["least", "most", "thing"] (defScope s_is_between) := ⟨rfl, rfl, rfl, by decide +kernel, rfl, by decide +kernel, by decide +kernel⟩
structure GTxt (mg : Str → Option Value) : Prop extends Txt mg where
  g_rooms : ∃ u, mg "MOST_ROOMS" = some u ∧ RelV (.int 60) u
  g_memory : ∃ u, mg "MOST_MEMORY" = some u ∧ RelV (.int 30) u
section
variable {P : Program} {w : World} {K : PySem.W.Frag} {mg : Str → Option Value} {base : Heap}
def R_isint : List D → Hp → Pd → Prop := fun ds H P => ∃ d, ds = [d] ∧ Tk H d ∧ P = is (.bl (isI d))
theorem ok_isint (T : Txt mg) (g : GDef K mg "is_integer" s_is_integer ["thing"]) : Def P w K mg base 1 "is_integer" ["thing"] (spD K R_isint) := by
  refine defD g sc_is_integer (fun ds H Pd h => ?_) fun cdv A outer s f H vs ds Pd Q E hr r h q => ?_
  · obtain ⟨d, rfl, _⟩ := h
    rfl
  obtain ⟨d, rfl, hn, rfl⟩ := h
  obtain ⟨v1, rfl, r1⟩ := rps1 r
  refine ⟨_, (pss_one (ps_ret (pe_and (pe_callB (kc_isi (K := K)) (by rfl) T.n_isinstance boot_isinstance (pa_cons (pv 0) (pa_cons (pe_bltn (v := V.ty "int") (by rfl) T.n_int boot_int rfl) pa_nil))) (pe_one (pe_not (pe_callB (kc_isi (K := K)) (by rfl) T.n_isinstance boot_isinstance (pa_cons (pv 0) (pa_cons (pe_bltn (v := V.ty "bool") (by rfl) T.n_bool boot_bool rfl) pa_nil)))))))), ?_⟩
  refine s_retD (ed_eq (ed_andV (ed_isInt (ed_var rfl r1) hn) fun _ => ed_notV (ed_isBool (ed_var rfl r1) hn)) ?_) fun v H1 e1 r => q v _ H1 e1 rfl r
  cases d <;> rfl
def R_btw : List D → Hp → Pd → Prop := fun ds H P => ∃ l m d, ds = [.int l, .int m, d] ∧ Tk H d ∧ P = is (.bl (btw l m d))
theorem ok_btw (T : Txt mg) (g : GDef K mg "is_between" s_is_between ["least", "most", "thing"]) (Gis_integer : Def P w K mg base 1 "is_integer" ["thing"] (spD K R_isint)) : Def P w K mg base 2 "is_between" ["least", "most", "thing"] (spD K R_btw) := by
  refine defD g sc_is_between (fun ds H Pd h => ?_) fun cdv A outer s f H vs ds Pd Q E hr r h q => ?_
  · obtain ⟨l, m, d, rfl, _⟩ := h
    rfl
  obtain ⟨l, m, d, rfl, hn, rfl⟩ := h
  obtain ⟨v1, v2, v3, rfl, r1, r2, r3⟩ := rps3 r
  refine ⟨_, (pss_one (ps_ret (pe_and (pe_def Gis_integer (hr.mono (by decide)) (pa_cons (pv 2) pa_nil)) (pe_one (pe_chain op_le op_le (pv 0) (pv 2) (pv 1)))))), ?_⟩
  have hc : ED K (tCall (spD K R_isint) [] E0 (tCons (tVar 2) tNil)) [some v1, some v2, some v3] H (.bl (isI d)) := ed_call (ea_cons (ed_var rfl r3) ea_nil) fun H1 e => ⟨d, rfl, hn.le e, rfl⟩
  have fin : isI d = false → btw l m d = false := fun h => by
    cases d <;> first | rfl | cases h
  cases hi : isI d with
  | false =>
    rw [hi] at hc
    refine s_retD (ed_andV (b := true) hc fun h => nomatch h) fun v H1 e1 r => q v _ H1 e1 (by rw [fin hi]; rfl) r
  | true =>
    rw [hi] at hc
    obtain ⟨i, rfl⟩ : ∃ i, d = .int i := by
      cases d with
      | int i => exact ⟨i, rfl⟩
      | _ => cases hi
    refine s_retD (ed_andV hc fun _ => ed_chain (f := fun i j => decide (i ≤ j)) (g := fun i j => decide (i ≤ j)) (ed_var rfl r1) (ed_var rfl r3) (ed_var rfl r2)) fun v H1 e1 r => q v _ H1 e1 rfl r
/-- a call of is_between -/
theorem ed_btw {σ : L2.St} {H : Hp} {ta tb tc : TE} {E : XK} {l m : Int} {d : D} (ha : ED K ta σ H (.int l)) (hb : ED K tb σ H (.int m)) (hc : ED K tc σ H d) (hn : noObj d = true) : ED K (tCall (spD K R_btw) [] E (tCons ta (tCons tb (tCons tc tNil)))) σ H (.bl (btw l m d)) :=
  ed_call (ea_cons ha (ea_cons hb (ea_cons hc ea_nil))) fun H1 _ => ⟨l, m, d, rfl, .inl hn, rfl⟩
theorem ed_btwK {σ : L2.St} {H : Hp} {ta tb tc : TE} {E : XK} {l m : Int} {d : D} (ha : ED K ta σ H (.int l)) (hb : ED K tb σ H (.int m)) (hc : ED K tc σ H d) (hn : Tk H d) : ED K (tCall (spD K R_btw) [] E (tCons ta (tCons tb (tCons tc tNil)))) σ H (.bl (btw l m d)) :=
  ed_call (ea_cons ha (ea_cons hb (ea_cons hc ea_nil))) fun H1 e => ⟨l, m, d, rfl, hn.le e, rfl⟩
theorem all_true {α : Type} {f : α → Bool} : ∀ {xs : List α}, (∀ x ∈ xs, f x = true) → ((xs.map f).all id) = true
  | [], _ => rfl
  | x :: xs, h => by
    rw [List.map_cons, List.all_cons, all_true fun y hy => h y (List.mem_cons_of_mem _ hy)]
    simp [h x (List.mem_cons_self ..)]
end
end W1

set_option maxRecDepth 100000
set_option maxHeartbeats 4000000
namespace W1
open PySem PyProof.Rows L2
local macro_rules | `(tactic| walk_at "rp") => `(tactic| first | assumption | exact Rp.int _ | exact Rp.bl _ | exact Rp.str _ | exact Rp.non | exact Rp.obj _ | (refine Rp.le (by assumption) ?_; walk_at "rp"))
local macro_rules | `(tactic| walk_at "ed") => `(tactic| first
  | exact ed_int | exact ed_str | exact ed_bl | exact ed_non
  | (refine ed_var rfl ?_; walk_at "rp")
  | (refine ed_ixT (ds := [_, _]) ?_ ed_int (by decide) rfl; walk_at "ed")
  | (refine ed_I0 ?_ ?_ <;> walk_at "ed")
  | (refine ed_B0 ?_ ?_ <;> walk_at "ed")
  | (refine ed_eqS ?_ ?_ rfl rfl rfl <;> walk_at "ed")
  | assumption)
local macro_rules | `(tactic| walk_at "ea") => `(tactic| first | exact ea_nil | (refine ea_cons ?_ ?_; walk_at "ed"; walk_at "ea"))

abbrev s_near_lots : Stmt := topS 18
abbrev N_near_lots : List Str := ["many", "ties", "near", "one", "other", "_", "rooms"]
theorem sc_near_lots : FnScope N_near_lots ["many", "ties"] (defScope s_near_lots) := ⟨rfl, rfl, rfl, by decide +kernel, rfl, by decide +kernel, by decide +kernel⟩
/-! ### the ties ascend -/
def ltP (p q : Int × Int) : Prop := p.1 < q.1 ∨ (p.1 = q.1 ∧ p.2 < q.2)
theorem pairs_row (n : Nat) (i : Nat) : ((List.range ((n : Int) - ((i : Int) + 1)).toNat).map fun j : Nat => ((i : Int), (i : Int) + 1 + (j : Int))).Pairwise ltP := by
  rw [List.pairwise_map]
  exact (List.pairwise_lt_range).imp fun {a b} h => .inr ⟨rfl, by dsimp only; omega⟩
theorem pairs_up (n : Nat) : ∀ m : Nat, ((List.range m).flatMap fun i : Nat => (List.range ((n : Int) - ((i : Int) + 1)).toNat).map fun j : Nat => ((i : Int), (i : Int) + 1 + (j : Int))).Pairwise ltP
  | 0 => by simp
  | m + 1 => by
    rw [List.range_succ, List.flatMap_append, List.pairwise_append]
    refine ⟨pairs_up n m, ?_, fun a ha b hb => ?_⟩
    · rw [List.flatMap_cons, List.flatMap_nil, List.append_nil]
      exact pairs_row n m
    · rw [List.flatMap_cons, List.flatMap_nil, List.append_nil] at hb
      obtain ⟨i, hi, ha⟩ := List.mem_flatMap.mp ha
      obtain ⟨j, _, rfl⟩ := List.mem_map.mp ha
      obtain ⟨l, _, rfl⟩ := List.mem_map.mp hb
      have := List.mem_range.mp hi
      exact .inl (by dsimp only; omega)
theorem PartsOk.up {ms : List Int} {ties : List (Int × Int)} (ok : PartsOk ms ties) : ties.Pairwise ltP := (pairs_up ms.length ms.length).sublist ok.sub
theorem PartsOk.tie {ms : List Int} {ties : List (Int × Int)} (ok : PartsOk ms ties) {p : Int × Int} (h : p ∈ ties) : 0 ≤ p.1 ∧ p.1 < p.2 ∧ p.2 < ms.length := mem_pairsL.mp (ok.sub.subset h)
section
variable {P : Program} {w : World} {K : PySem.W.Frag} {mg : Str → Option Value} {base : Heap}
theorem ed_leP {σ : L2.St} {H : Hp} {ta tb : TE} {p q : Int × Int} (ha : ED K ta σ H (eP p)) (hb : ED K tb σ H (eP q)) (h : ltP q p) : ED K (tOp (rLeT K) ta tb) σ H (.bl false) :=
  ed_op ha hb fun x y H2 _ r1 r2 Q q' => by
    obtain ⟨a, xs, rfl, s, rr⟩ := rp_tup r1
    obtain ⟨b, ys, rfl, s2, rr2⟩ := rp_tup r2
    have e1 := ints_rps (ns := [p.1, p.2]) rr
    have e2 := ints_rps (ns := [q.1, q.2]) rr2
    subst e1 e2
    refine ⟨a, b, [p.1, p.2], [q.1, q.2], rfl, rfl, s, s2, ?_⟩
    have e : Ob.lexAt (fun j => decide ([p.1, p.2].getD j 0 = [q.1, q.2].getD j 0)) (fun j => decide ([p.1, p.2].getD j 0 ≤ [q.1, q.2].getD j 0)) (decide ([p.1, p.2].length ≤ [q.1, q.2].length)) 0 (min [p.1, p.2].length [q.1, q.2].length) = false := by
      show (if decide (p.1 = q.1) = true then (if decide (p.2 = q.2) = true then _ else decide (p.2 ≤ q.2)) else decide (p.1 ≤ q.1)) = false
      rcases h with h | ⟨h, h2⟩
      · rw [if_neg (by simp; omega)]
        exact decide_eq_false (by omega)
      · rw [if_pos (by simp; omega), if_neg (by simp; omega)]
        exact decide_eq_false (by omega)
    rw [e]
    exact q' _ _ H2 (Le.refl _) rfl (.bl _)
end
end W1

set_option maxRecDepth 100000
set_option maxHeartbeats 4000000
namespace W1
open PySem PyProof.Rows L2
local macro_rules | `(tactic| walk_at "rp") => `(tactic| first | assumption | exact Rp.int _ | exact Rp.bl _ | exact Rp.str _ | exact Rp.non | exact Rp.obj _ | (refine Rp.le (by assumption) ?_; walk_at "rp"))
local macro_rules | `(tactic| walk_at "ed") => `(tactic| first
  | exact ed_int | exact ed_str | exact ed_bl | exact ed_non
  | (refine ed_var rfl ?_; walk_at "rp")
  | (refine ed_ixT (ds := [_, _]) ?_ ed_int (by decide) rfl; walk_at "ed")
  | (refine ed_I0 ?_ ?_ <;> walk_at "ed")
  | (refine ed_B0 ?_ ?_ <;> walk_at "ed")
  | (refine ed_eqS ?_ ?_ rfl rfl rfl <;> walk_at "ed")
  | assumption)
local macro_rules | `(tactic| walk_at "ea") => `(tactic| first | exact ea_nil | (refine ea_cons ?_ ?_; walk_at "ed"; walk_at "ea"))

/-- a list of lists of ints, each a list of its own -/
structure Rows (H : Hp) (L : Addr) (as : List Addr) (f : Nat → List Int) (H0 : Hp) : Prop where
  top : H L = some (.lst (as.map V.ref))
  row : ∀ (i : Nat) a, as[i]? = some a → H a = some (.lst ((f i).map V.int))
  new : ∀ a ∈ as, H0 a = none
  nd : as.Nodup
  nL : L ∉ as
  nL0 : H0 L = none
  le : Le H0 H
theorem notH_refs (as : List Addr) : NotH (as.map V.ref) := notH_of fun v hv i e => by
  rw [List.getElem?_map] at hv
  cases h : as[1]? with
  | none =>
    rw [h] at hv
    cases hv
  | some a =>
    rw [h] at hv
    have := Option.some.inj hv
    rw [e] at this
    cases this
theorem Rows.le2 {H H' H0 : Hp} {L : Addr} {as : List Addr} {f : Nat → List Int} (r : Rows H L as f H0) (e : Le H H') : Rows H' L as f H0 :=
  ⟨e.lst r.top (notH_refs as), fun i a h => e.lst (r.row i a h) (notH_ints _), r.new, r.nd, r.nL, r.nL0, r.le.trans e⟩
theorem Rows.put {H H0 : Hp} {L a : Addr} {as : List Addr} {f : Nat → List Int} {i : Nat} {z : Int} (r : Rows H L as f H0) (h : as[i]? = some a) :
    Rows (upd H a (.lst ((f i).map V.int ++ [.int z]))) L as (fun j => if j = i then f i ++ [z] else f j) H0 := by
  have hm := List.mem_of_getElem? h
  have ne : L ≠ a := fun e => r.nL (e ▸ hm)
  refine ⟨by rw [upd_ne ne]; exact r.top, fun j b hb => ?_, r.new, r.nd, r.nL, r.nL0, r.le.mut (r.new a hm)⟩
  by_cases hj : j = i
  · subst hj
    cases hb.symm.trans h
    rw [if_pos rfl, upd_same, List.map_append]
    rfl
  · have nb : b ≠ a := fun e => hj (nd_ix r.nd hb (e ▸ h))
    rw [if_neg hj, upd_ne nb]
    exact r.row j b hb
theorem Rows.leT {H H' H0 : Hp} {L : Addr} {as : List Addr} {f f' : Nat → List Int} (r : Rows H L as f H0) (r' : Rows H' L as f' H0) : Le H0 H' := r'.le
section
variable {P : Program} {w : World} {K : PySem.W.Frag} {mg : Str → Option Value} {base : Heap}
theorem raw_more {l : List (Int × Int)} {p : Int × Int} {i : Int} : rawNear (l ++ [p]) i = rawNear l i ++ (if i ∈ [p.1, p.2] then [p.1 + p.2 - i] else []) := by
  unfold rawNear
  rw [List.filter_append, List.map_append]
  congr 1
  by_cases h : i ∈ [p.1, p.2]
  · rw [if_pos h, List.filter_cons, if_pos (decide_eq_true h)]
    rfl
  · rw [if_neg h, List.filter_cons, if_neg (by rw [decide_eq_false h]; exact Bool.false_ne_true)]
    rfl
def nearD (ms : List Int) (ties : List (Int × Int)) : D := .tup ((List.range ms.length).map fun i : Nat => .tup ((rawNear ties (i : Int)).map .int))
def R_nlots : List D → Hp → Pd → Prop := fun ds _ P => ∃ ms ties, ds = [.int ((ms : List Int).length : Int), .tup (ties.map eP)] ∧ PartsOk ms ties ∧ P = is (nearD ms ties)
theorem ok_nlots (T : GTxt mg) (g : GDef K mg "near_lots" s_near_lots ["many", "ties"]) : Def P w K mg base 1 "near_lots" ["many", "ties"] (spD K R_nlots) := by
  refine defD g sc_near_lots (fun ds H Pd h => ?_) fun cdv A outer s f H vs ds Pd Q E hr r h q => ?_
  · obtain ⟨ms, ties, rfl, _⟩ := h
    rfl
  obtain ⟨ms, ties, rfl, ok, rfl⟩ := h
  obtain ⟨v1, v2, rfl, r1, r2⟩ := rps2 r
  have hv1 := rp_int r1
  subst hv1
  generalize hn : ms.length = n at *
  have n60 : n ≤ 60 := by rw [← hn]; exact ok.few
  refine ⟨_, (pss_cons (ps_setLc (i := 2) (own := [("_", 5)]) rfl sc_near_lots.nd rfl rfl (sw_true rfl rfl rfl (by decide +kernel)) (pi_range1 (by rfl) T.n_range (pa_cons (pv 0) pa_nil)) (blkOk_by (N := N_near_lots) (sc := defScope s_near_lots) (by decide +kernel)) (fun _ _ _ _ _ => (pg_name (i := 5) sc_near_lots.nd rfl (Or.inl rfl))) (fun _ _ _ _ _ => pts_nil) (fun _ _ _ _ _ => (pe_lst pa_nil)))
    (pss_cons (ps_for PassesOwn.never rfl (kpi_tup (K := K) (pv 1)) (kpg_tup (K := K) (n := 2) rfl (pgs_cons (pg_name (i := 3) sc_near_lots.nd rfl (Or.inl rfl)) (pgs_cons (pg_name (i := 4) sc_near_lots.nd rfl (Or.inl rfl)) pgs_nil)))
      (pss_cons (ps_expr (pe_bm PySem.F.plainAttrs_list PySem.F.slot_list_append PySem.F.type_list_append mt_append (pe_ix (kix_list (K := K)) (pv 2) (pv 3) (fun _ _ => rfl)) (pa_cons (pv 4) pa_nil)))
    (pss_one (ps_expr (pe_bm PySem.F.plainAttrs_list PySem.F.slot_list_append PySem.F.type_list_append mt_append (pe_ix (kix_list (K := K)) (pv 2) (pv 4) (fun _ _ => rfl)) (pa_cons (pv 3) pa_nil))))))
    (pss_one (ps_ret (pe_callTy (kc_tuple (K := K)) (by rfl) T.n_tuple boot_tuple (pa_cons (pe_lc (own := [("rooms", 6)]) rfl sc_near_lots.nd (kpi_list (K := K) (pv 2)) (blkOk_by (N := N_near_lots) (sc := defScope s_near_lots) (by decide +kernel)) (fun _ _ _ _ _ => (pg_name (i := 6) sc_near_lots.nd rfl (Or.inl rfl))) (fun _ _ _ _ _ => pts_nil) (fun _ _ _ _ _ => (pe_callTy (kc_tuple (K := K)) (by rfl) T.n_tuple boot_tuple (pa_cons (pv 6) pa_nil)))) pa_nil)))))), ?_⟩
  -- near = [[] for _ in range(many)]
  refine ⟨_, rfl, (n : Int), rfl, by omega, by omega, fun L hL => lc_it (walk_range (lo := 0) (n := n)) (fun i H' => ∃ as, Rows H' L as (fun _ => []) H ∧ as.length = i ∧ i ≤ n) ⟨[], ⟨upd_same, fun i a h => by simp at h, fun a h => by simp at h, List.nodup_nil, by simp, hL, Le.new hL⟩, rfl, Nat.zero_le _⟩ (fun _ _ _ _ => trivial) ?_ ?_⟩
  · rintro i x H1 _ hi ⟨as, R, hl, _⟩ ⟨rfl, rfl⟩
    refine ⟨rfl, ?_⟩
    unfold tYes
    dsimp only
    rw [if_pos rfl]
    refine ⟨Nat.zero_le _, fun p np => ?_⟩
    have npL : L ≠ p := ne_of_none R.top np
    have nas : ∀ a ∈ as, a ≠ p := fun a ha => by
      obtain ⟨j, hj⟩ := List.mem_iff_getElem?.mp ha
      exact ne_of_none (R.row j a hj) np
    refine ⟨as.map V.ref, by rw [upd_ne npL]; exact R.top, by rw [List.length_map, hl]; exact Evl.sz_lt (by omega), as ++ [p], ⟨?_, fun j a hj => ?_, fun a ha => ?_, ?_, ?_, hL, ?_⟩, by rw [List.length_append, hl]; rfl, hi⟩
    · rw [upd_same, List.map_append]
      rfl
    · have ha : a ∈ as ++ [p] := List.mem_of_getElem? hj
      have hne : a ≠ L := by
        rcases List.mem_append.mp ha with ha | ha
        · exact fun e => R.nL (e ▸ ha)
        · rw [List.mem_singleton.mp ha]
          exact npL.symm
      rw [upd_ne hne]
      rcases List.mem_append.mp ha with ha | ha
      · rw [upd_ne (nas a ha)]
        obtain ⟨j2, hj2⟩ := List.mem_iff_getElem?.mp ha
        exact R.row j2 a hj2
      · rw [List.mem_singleton.mp ha]
        exact upd_same
    · rcases List.mem_append.mp ha with ha | ha
      · exact R.new a ha
      · rw [List.mem_singleton.mp ha]
        exact R.le.fresh np
    · rw [List.nodup_append]
      exact ⟨R.nd, by simp, fun a ha b hb => by rw [List.mem_singleton.mp hb]; exact nas a ha⟩
    · intro h
      rcases List.mem_append.mp h with h | h
      · exact R.nL h
      · exact npL (List.mem_singleton.mp h)
    · exact (R.le.trans (Le.new np)).mut hL
  rintro H1 ⟨as, R, hl, _⟩
  -- for one, other in ties
  refine q_forT (K := K) (ds := ties.map eP) (ed_var rfl (r2.le R.le)) (enc_P.nl _) fun H2 e2 => ?_
  refine ⟨fun i σ H' => ∃ y3 y4, σ = [some (.int (n : Int)), some v2, some (.ref L), y3, y4, none, none] ∧ LeT H2 H' ∧ Rows H' L as (fun j => rawNear (ties.take i) (j : Int)) H, ⟨none, none, rfl, LeT.refl _, R.le2 e2⟩, fun i σ H' _ ⟨_, _, _, e, _⟩ => e, ?_, ?_⟩
  · rintro i d v σ' H' hd rv ⟨y3, y4, rfl, et, R⟩
    obtain ⟨p, hp, rfl⟩ := map_at hd
    obtain ⟨h1, h2, h3⟩ := ok.tie (List.mem_of_getElem? hp)
    rw [hn] at h3
    obtain ⟨t, xs, rfl, st, rr⟩ := rp_tup rv
    obtain ⟨w1, w2, rfl, q1, q2⟩ := rps2 rr
    have e1 := rp_int q1
    have e2' := rp_int q2
    subst e1 e2'
    obtain ⟨a, ha⟩ : ∃ a, as[p.1.toNat]? = some a := ⟨as[p.1.toNat], List.getElem?_eq_getElem (by omega)⟩
    obtain ⟨b, hb⟩ : ∃ b, as[p.2.toNat]? = some b := ⟨as[p.2.toNat], List.getElem?_eq_getElem (by omega)⟩
    have len1 : ∀ l : List (Int × Int), ∀ i : Int, l.length ≤ 3600 → (rawNear l i).length ≤ 3600 := fun l i hl => by
      unfold rawNear
      rw [List.length_map]
      exact Nat.le_trans (List.length_filter_le _ _) hl
    have tl : (ties.take i).length ≤ 3600 := Nat.le_trans (List.length_take_le' _ _) ok.len
    refine ⟨t, _, rfl, st, rfl, _, _, rfl, _, _, rfl, rfl, ?_⟩
    -- near[one].append(other)
    refine ⟨_, rfl, _, rfl, L, _, p.1, .ref a, rfl, rfl, SqL.of R.top, ?_, .inl ⟨rfl, _, SqL.of (R.row _ _ ha)⟩, _, rfl, a, _, .int p.2, rfl, rfl, R.row _ _ ha, ?_, ?_⟩
    · exact at_of (j := p.1.toNat) (by omega) (by rw [List.getElem?_map, ha]; rfl)
    · rw [List.length_map]
      exact Evl.sz_lt (Nat.lt_of_le_of_lt (len1 _ _ tl) (by decide))
    have R1 := R.put (z := p.2) ha
    have lt1 := LeT.upd (o := .lst ((rawNear (ties.take i) ((p.1.toNat : Nat) : Int)).map V.int ++ [.int p.2])) (R.row _ _ ha)
    -- near[other].append(one)
    refine ⟨_, rfl, _, rfl, L, _, p.2, .ref b, rfl, rfl, SqL.of R1.top, ?_, .inl ⟨rfl, _, SqL.of (R1.row _ _ hb)⟩, _, rfl, b, _, .int p.1, rfl, rfl, R1.row _ _ hb, ?_, ?_⟩
    · exact at_of (j := p.2.toNat) (by omega) (by rw [List.getElem?_map, hb]; rfl)
    · rw [List.length_map, if_neg (by omega)]
      exact Evl.sz_lt (Nat.lt_of_le_of_lt (len1 _ _ tl) (by decide))
    have R2 := R1.put (z := p.1) hb
    refine ⟨_, _, rfl, (et.trans lt1).trans (LeT.upd (R1.row _ _ hb)), ?_⟩
    have ef : (fun j : Nat => rawNear (ties.take (i + 1)) (j : Int)) = fun j => if j = p.2.toNat then (if p.2.toNat = p.1.toNat then rawNear (ties.take i) ((p.1.toNat : Nat) : Int) ++ [p.2] else rawNear (ties.take i) ((p.2.toNat : Nat) : Int)) ++ [p.1] else if j = p.1.toNat then rawNear (ties.take i) ((p.1.toNat : Nat) : Int) ++ [p.2] else rawNear (ties.take i) (j : Int) := by
      funext j
      have tk : ties.take (i + 1) = ties.take i ++ [p] := by
        rw [List.take_add_one, hp]
        rfl
      rw [tk, raw_more]
      by_cases hj2 : j = p.2.toNat
      · subst hj2
        rw [if_pos rfl, if_neg (show ¬ p.2.toNat = p.1.toNat by omega)]
        have ej : ((p.2.toNat : Nat) : Int) = p.2 := by omega
        rw [ej, if_pos (by simp)]
        congr 1
        congr 1
        omega
      · rw [if_neg hj2]
        by_cases hj1 : j = p.1.toNat
        · subst hj1
          rw [if_pos rfl]
          have ej : ((p.1.toNat : Nat) : Int) = p.1 := by omega
          rw [ej, if_pos (by simp)]
          congr 1
          congr 1
          omega
        · rw [if_neg hj1, if_neg (by simp; omega), List.append_nil]
    rw [ef]
    exact R2
  · rintro σ' H' ⟨y3, y4, rfl, et, R⟩
    have etk : ties.take (ties.map eP).length = ties := by rw [List.length_map, List.take_length]
    rw [etk] at R
    -- return tuple([tuple(rooms) for rooms in near])
    refine s_retD (K := K) (d := nearD ms ties) (ed_tupOf (ds := (List.range ms.length).map fun i : Nat => D.tup ((rawNear ties (i : Int)).map .int)) ?_) fun v H3 e3 r3 => q v _ H3 (R.le.trans e3) rfl r3
    intro H3 e3 Q' q'
    have R3 := R.le2 e3
    refine ⟨_, rfl, L, rfl, ⟨_, SqL.of R3.top⟩, fun M hM => lc_it (walk_list (xs := as.map V.ref)) (fun i H' => H3 M = none ∧ Le H3 H' ∧ ∃ us, H' M = some (.lst us) ∧ Rps K H' us ((List.range i).map fun i : Nat => D.tup ((rawNear ties (i : Int)).map .int))) ⟨hM, Le.new hM, [], upd_same, .nil⟩ (fun i H' _ c => SqL.of (R3.le2 c.2.1).top) ?_ ?_⟩
    · rintro i x H4 _ hi ⟨_, e4, us, hus, rr⟩ ⟨rfl, hx⟩
      rw [List.length_map] at hi
      have ha : as[i]? = some as[i] := List.getElem?_eq_getElem hi
      rw [List.getElem?_map, ha] at hx
      have ex := Option.some.inj hx
      subst ex
      have hrow := (R3.le2 e4).row i _ ha
      have U : Uni ((List.range i).map fun i : Nat => D.tup ((rawNear ties (i : Int)).map .int)) := (enc_tup (f := fun i : Nat => (rawNear ties (i : Int)).map D.int) fun a => noL_ints _).un _
      have NL := (enc_tup (f := fun i : Nat => (rawNear ties (i : Int)).map D.int) fun a => noL_ints _).nl (List.range i)
      refine ⟨rfl, ?_⟩
      unfold tYes
      dsimp only
      rw [if_pos rfl]
      refine ⟨_, rfl, as[i], _, rfl, .inl ⟨SqL.of hrow, fun l hl2 => ?_⟩⟩
      have h5 := (Le.new (o := .tup ((rawNear ties (i : Int)).map V.int)) hl2).lst hus (U.notH rr)
      refine ⟨us, h5, ?_, hM, (e4.trans (Le.new hl2)).mut hM, us ++ [.ref l], upd_same, ?_⟩
      · rw [rr.len, List.length_map, List.length_range]
        exact Evl.sz_lt (by omega)
      · rw [List.range_succ, List.map_append]
        refine ((rr.le (Le.new hl2)).upd h5 NL).app (.cons ?_ .nil)
        exact Rp.upd h5 (.tup (noL_ints _)) (.tup (Evl.st_of upd_same) (rps_ints _))
    · rintro H4 ⟨_, e4, us, hus, rr⟩
      rw [List.length_map, hl] at rr
      have U : Uni ((List.range n).map fun i : Nat => D.tup ((rawNear ties (i : Int)).map .int)) := (enc_tup (f := fun i : Nat => (rawNear ties (i : Int)).map D.int) fun a => noL_ints _).un _
      exact q' _ (.lst ((List.range n).map fun i : Nat => D.tup ((rawNear ties (i : Int)).map .int))) H4 e4 (by rw [hn]) (.lst hus (U.notH rr) rr)
end
end W1

set_option maxRecDepth 100000
set_option maxHeartbeats 4000000
/-! lists of things, all of one kind -/
namespace W1
open PySem PyProof.Rows L2
/-- what stays when what is tracked stays -/
def Mono (Pc : Pd) : Prop := ∀ d H H', Le H H' → Pc d H → Pc d H'
abbrev AllA (Pc : Pd) (n : Nat) : List D → Hp → Prop := fun xs H => xs.length = n ∧ ∀ d ∈ xs, Pc d H
abbrev AllL (Pc : Pd) (n : Nat) : Pd := fun d H => ∃ xs, d = .lst xs ∧ AllA Pc n xs H
section
variable {K : PySem.W.Frag} {σ : L2.St} {H : Hp} {te ta tb : TE} {A : TA} {Pc : Pd} {n m : Nat}
theorem ea_all0 : EA K tNil σ H (AllA Pc 0) := EA_weak ea_nil fun ds H2 p => by
  have p' : ds = [] := p
  subst p'
  exact ⟨rfl, fun d hd => nomatch hd⟩
theorem ea_allC (M : Mono Pc) (h : EP K te σ H Pc) (hr : EA K A σ H (AllA Pc n)) : EA K (tCons te A) σ H (AllA Pc (n + 1)) := EA_weak (ep_cons h hr) fun ds H2 p => by
  obtain ⟨d, r, H1, rfl, e, pd, h1, h2⟩ := p
  refine ⟨by rw [List.length_cons, h1], fun x hx => ?_⟩
  rcases List.mem_cons.mp hx with rfl | hx
  · exact M _ _ _ e pd
  · exact h2 x hx
theorem ep_allL (M : Mono Pc) (h : EA K A σ H (AllA Pc n)) (hn : n ≠ 5) (hz : n ≤ 100000) : EP K (tLst A) σ H (AllL Pc n) :=
  ep_lst h (fun ds H2 p => by rw [p.1]; exact hz) (fun ds H2 xs p r => notH_len (by rw [r.len, p.1]; exact hn)) fun ds H2 p H3 e => ⟨ds, rfl, p.1, fun d hd => M _ _ _ e (p.2 d hd)⟩
theorem AllA.mono (M : Mono Pc) {xs : List D} {H' : Hp} (e : Le H H') (h : AllA Pc n xs H) : AllA Pc n xs H' := ⟨h.1, fun d hd => M _ _ _ e (h.2 d hd)⟩
theorem ep_allCat (M : Mono Pc) (h : EP K ta σ H (AllL Pc n)) (h2 : EP K tb σ H (AllL Pc m)) (hn : n + m ≠ 5) (hz : n + m ≤ 100000) : EP K (tOp rCat ta tb) σ H (AllL Pc (n + m)) :=
  ep_op h h2 fun x y d1 d2 H1 H2 _ e12 p1 p2 r1 r2 Q q => by
    obtain ⟨ds, rfl, q1⟩ := p1
    obtain ⟨es, rfl, q2⟩ := p2
    obtain ⟨a, xs, rfl, s, nh, rr⟩ := rp_lst r1
    obtain ⟨b, ys, rfl, s2, nh2, rr2⟩ := rp_lst r2
    refine ⟨a, b, xs, ys, rfl, rfl, s, s2, by rw [rr.len, rr2.len, q1.1, q2.1]; exact Evl.sz_of hz, fun p np => ?_⟩
    have rf := (rr.app rr2).le (Le.new (o := .lst (xs ++ ys)) np)
    refine q _ (.lst (ds ++ es)) _ (Le.new np) ⟨_, rfl, by rw [List.length_append, q1.1, q2.1], fun d hd => ?_⟩ (.lst upd_same (notH_len (by rw [List.length_append, rr.len, rr2.len, q1.1, q2.1]; exact hn)) rf)
    rcases List.mem_append.mp hd with hd | hd
    · exact M _ _ _ (e12.trans (Le.new np)) (q1.2 d hd)
    · exact M _ _ _ (Le.new np) (q2.2 d hd)
theorem ep_anyH {E : XK} {h : Addr} {tl : TE} (M : Mono Pc) (hh : Hand H h) (h1 : ED K ta σ H (.obj (.ref h))) (h2 : EP K tl σ H (AllL Pc n)) (hn : 1 ≤ n) (hz : n ≤ 100000) :
    EP K (tCall (spD K R_any) [] E (tCons ta (tCons tl tNil))) σ H Pc :=
  ep_call (ep_cons h1 (ep_cons h2 ea_nil)) fun ds H2 e p => by
    obtain ⟨d1, r1, H3, rfl, e3, p1, d2, r2, H4, rfl, e4, ⟨xs, rfl, q1, q2⟩, p3⟩ := p
    have p1' : d1 = .obj (.ref h) := p1
    have p3' : r2 = [] := p3
    subst p1' p3'
    exact ⟨fun d _ => d ∈ xs, ⟨h, xs, rfl, hh.le e, (fun e => by rw [e] at q1; simp at q1; omega), by omega, rfl⟩, fun d H5 e5 hd => M _ _ _ (e4.trans e5) (q2 d hd)⟩
theorem ep_var {i : Nat} {v : V} {d : D} (M : Mono Pc) (h : σ[i]? = some (some v)) (r : Rp K H v d) (p : Pc d H) : EP K (tVar i) σ H Pc := (ed_var h r).weak fun d' H2 e p' => by
  have p'' : d' = d := p'
  subst p''
  exact M _ _ _ e p
theorem ep_of {d : D} (M : Mono Pc) (h : ED K te σ H d) (p : Pc d H) : EP K te σ H Pc := h.weak fun d' H2 e p' => by
  have p'' : d' = d := p'
  subst p''
  exact M _ _ _ e p
theorem ep_dict : EP K tDNewK σ H (fun d H => ∃ v, d = .obj v ∧ Ob H v) := fun H1 e Q q d nd => q _ (.obj (.ref d)) _ (Le.new nd) ⟨_, rfl, d, rfl, .inr upd_same⟩ (.obj _)
/-- list(a tuple), told by its kind -/
theorem ep_lstOfO (h : EP K ta σ H fun d _ => ∃ ds, d = .tup ds) : EP K (tCB (rLstOf K) (tCons ta tNil)) σ H (fun d H => ∃ v, d = .obj v ∧ Ob H v) := fun H1 e Q q => h H1 e _ fun v d H2 e2 p r => by
  obtain ⟨ds, rfl⟩ := p
  obtain ⟨a, xs, rfl, s, rr⟩ := rp_tup r
  exact ⟨a, xs, rfl, .inr s, fun l hl => q _ (.obj (.ref l)) _ (e2.trans (Le.new hl)) ⟨_, rfl, l, rfl, .inl ⟨xs, upd_same⟩⟩ (.obj _)⟩
/-! tuples of things -/
abbrev AllT (Pc : Pd) (n : Nat) : Pd := fun d H => ∃ xs, d = .tup xs ∧ xs.length ≤ n ∧ ∀ d ∈ xs, Pc d H
theorem ep_tup1 (M : Mono Pc) (h : EP K te σ H Pc) : EP K (tTup (tCons te tNil)) σ H (AllT Pc 1) :=
  ep_tup (ea_allC M h ea_all0) (fun ds H2 p => by rw [p.1]; decide) fun ds H2 p H3 e => ⟨ds, rfl, by rw [p.1]; exact Nat.le_refl _, fun d hd => M _ _ _ e (p.2 d hd)⟩
theorem ep_slP {tl th : TO} {lo hi : Option Int} (M : Mono Pc) (h : EP K ta σ H (AllT Pc n)) (h1 : EO tl σ H lo) (h2 : EO th σ H hi) : EP K (tSl (rSlA K) ta tl th) σ H (AllT Pc n) := fun H1 e Q q =>
  h H1 e _ fun v d H2 e2 p r => h1 H2 (e.trans e2) _ fun H3 e3 => h2 H3 ((e.trans e2).trans e3) _ fun H4 e4 => by
    obtain ⟨ds, rfl, hl, hp⟩ := p
    have hc : ∀ H', Le H2 H' → AllT Pc n (.tup (cutG ds lo hi)) H' := fun H' e' => ⟨_, rfl, by
      unfold cutG
      rw [List.length_take, List.length_drop]
      omega, fun d hd => M _ _ _ e' (hp d (by
      unfold cutG at hd
      exact List.mem_of_mem_drop (List.mem_of_mem_take hd)))⟩
    obtain ⟨a, xs, rfl, s, rr⟩ := rp_tup (r.le (e3.trans e4))
    refine ⟨a, xs, rfl, s, fun w => ?_, fun _ p np => ?_⟩
    · rw [rr.len] at w
      have hh := hc H4 (e3.trans e4)
      rw [cutG_all ds lo hi w] at hh
      exact q _ _ H4 ((e2.trans e3).trans e4) hh (.tup s rr)
    · exact q _ _ _ (((e2.trans e3).trans e4).trans (Le.new np)) (hc _ ((e3.trans e4).trans (Le.new np))) (.tup (Evl.st_of upd_same) ((rps_cut lo hi rr).le (Le.new np)))
theorem ep_catP (M : Mono Pc) (h : EP K ta σ H (AllT Pc n)) (h2 : EP K tb σ H (AllT Pc m)) (hz : n + m ≤ 100000) : EP K (tOp (rCatA K) ta tb) σ H (AllT Pc (n + m)) :=
  ep_op h h2 fun x y d1 d2 H1 H2 _ e12 p1 p2 r1 r2 Q q => by
    obtain ⟨ds, rfl, l1, q1⟩ := p1
    obtain ⟨es, rfl, l2, q2⟩ := p2
    obtain ⟨a, xs, rfl, s, rr⟩ := rp_tup r1
    obtain ⟨b, ys, rfl, s2, rr2⟩ := rp_tup r2
    have hc : ∀ H', Le H2 H' → AllT Pc (n + m) (.tup (ds ++ es)) H' := fun H' e' => ⟨_, rfl, by rw [List.length_append]; omega, fun d hd => by
      rcases List.mem_append.mp hd with hd | hd
      · exact M _ _ _ (e12.trans e') (q1 d hd)
      · exact M _ _ _ e' (q2 d hd)⟩
    refine ⟨a, b, xs, ys, rfl, rfl, s, s2, by rw [rr.len, rr2.len]; exact Evl.sz_of (by omega), fun e => ?_, fun _ e => ?_, fun _ _ p np => ?_⟩
    · subst e
      cases rr
      exact q _ _ H2 (Le.refl _) (hc H2 (Le.refl _)) r2
    · subst e
      cases rr2
      have hh := hc H2 (Le.refl _)
      rw [List.append_nil] at hh
      exact q _ _ H2 (Le.refl _) hh r1
    · exact q _ _ _ (Le.new np) (hc _ (Le.new np)) (.tup (Evl.st_of upd_same) ((rr.app rr2).le (Le.new np)))
theorem ep_revP (M : Mono Pc) (h : EP K ta σ H (AllT Pc n)) : EP K (tRevT K ta) σ H (AllT Pc n) := fun H1 e Q q =>
  h H1 e _ fun v d H2 e2 p r => by
    obtain ⟨ds, rfl, hl, hp⟩ := p
    obtain ⟨a, xs, rfl, s, rr⟩ := rp_tup r
    exact ⟨a, xs, rfl, s, fun p np => q _ _ _ (e2.trans (Le.new np)) ⟨_, rfl, by rw [List.length_reverse]; exact hl, fun d hd => M _ _ _ (Le.new np) (hp d (List.mem_reverse.mp hd))⟩ (.tup (Evl.st_of upd_same) ((rps_rev rr).le (Le.new np)))⟩
end
end W1

set_option maxRecDepth 100000
set_option maxHeartbeats 4000000
/-! own rule: an own error's __init__ that says super().__init__() and nothing else -/
namespace L2
open PySem PySem.Spec PySem.Calls PyProof.Rows
abbrev topE0 (i : Nat) : Stmt := PySem.Challenge.pw_staletags_k01_webs_judged_and_made.main.body.getD i (.Pass ⟨0, 0, 0, 0⟩)
abbrev s_TagError___init__ : Stmt := inClass (topE0 1) 0
structure SupF (P : Program) (K : PySem.W.Frag) (mg : Str → Option Value) (D f : Addr) (fd : FuncData) : Prop where
  fn : ∃ (oc : Value) (od : Option Addr) (osl : Array (Option Value)) (kV doc pm : Value) (an : Option Addr) (cda : Addr) (ct : Value) (cc : Addr), fd = PySem.W.fnX "__init__" "TagError.__init__" (defArgs s_TagError___init__) (defBody s_TagError___init__) (defScope s_TagError___init__) [("__class__", cc)] .none kV doc pm an (.ref cda) ct ∧
    K.lookup f = some ⟨oc, od, .func fd, osl⟩ ∧ PySem.W.codeIn K (.ref cda) "TagError.__init__" = true ∧
    (∃ (ccl : Value) (cdd : Option Addr) (vs : Array Value) (ccs : Array (Option Value)) (file : Str) (tf : Tok), K.lookup cda = some ⟨ccl, cdd, .fields vs, ccs⟩ ∧ vs[2]? = some (.str file tf) ∧ ((P.main.file : Str) == file) = true) ∧
    ∃ (cl : Value) (cld : Option Addr) (csl : Array (Option Value)), K.lookup cc = some ⟨cl, cld, .cell (some (.ref D)), csl⟩
  cd : ∃ cdD, PySem.W.clsIn K D = some cdD
  op : PySem.W.nsIn K cStatics "thirdparty.any" = some none
  sup : mg "super" = none
  top : (P.main.scope.names.lookup ("super" : Str)).isSome = false
structure SupC (K : PySem.W.Frag) (D C : Addr) : Prop where
  ox : OexC K C
  sub : PySem.W.mroIn K C (.ref D) = some true
  init : PySem.W.ks_superIn K C D "__init__" = some (some (.builtin "ValueError.__init__"))
  ve : PySem.W.subIn K (.ref C) (.type "ValueError") = some true
def spSup (K : PySem.W.Frag) (D : Addr) : Sp := fun vs H Q _ => ∃ a C, vs = [.ref a] ∧ H a = some (exo a C none) ∧ SupC K D C ∧ Q .non H
theorem sup_ok {P : Program} {w : World} {K : PySem.W.Frag} {mg : Str → Option Value} {base : Heap} {D f : Addr} {fd : FuncData} {k : Nat} (S : SupF P K mg D f fd) : FnOk P w K mg base CX0 (k + 1) f fd ["self"] (spSup K D) := by
  obtain ⟨oc, od, osl, kV, doc, pm, an, cda, ct, cc, rfl, lk, hcd, ⟨ccl, cdd, vs, ccs, file, tf, lcda, hvs, hfile⟩, ⟨cl, cld, csl, lcc⟩⟩ := S.fn
  obtain ⟨cdD, hcdD⟩ := S.cd
  refine ⟨fun vs H Q E h => ?_, fun A outer s H args us vs Q E hr e0 hb r hsp => ?_⟩
  · obtain ⟨a, C, rfl, _⟩ := h
    rfl
  obtain ⟨a, C, rfl, ha, SC, q⟩ := hsp
  have hus : us = [.ref a] := by
    cases r with
    | cons h r =>
      cases r
      rw [show _ = Value.ref a from h]
  subst hus
  have KX : K.In s.heap := e0.mod.kin.keeps fun b o e => (e0.bs b o e).1
  have lim : s.heap.NoLimit := e0.mod.nolimit.keeps fun b o e => (e0.bs b o e).1
  have glob : s.heap.Ns mainGlobals mg := e0.mod.glob.keeps fun b o e => (e0.bs b o e).1
  obtain ⟨mb, hmb, hboot⟩ := e0.mod.blt
  have blt : s.heap.Ns builtinsNs mb := hmb.keeps fun b o e => (e0.bs b o e).1
  obtain ⟨t0, hx⟩ := exo_at e0.hok ha
  refine ks_codeAny_call_defAt (body := defBody s_TagError___init__) (binds := [("self", .ref a)]) hr.depth (KX _ _ lk) rfl lim (PySem.W.codeRec_of KX hcd) rfl hb (by show ∀ x ∈ (defScope s_TagError___init__).names, x.2 ≠ .cell; decide +kernel) (fun x hx => ?_) (fun h₁ hns hk₁ => ?_) rfl rfl rfl
  · rw [List.mem_singleton.mp hx]
    rfl
  refine ks_wpAt_execs_cons (ks_wpAt_Expr_any (ks_wpAt_MethodCall ?_))
  obtain ⟨s0, g, d, t, os⟩ := s
  have kk : ∀ b o, s0.get? b = some o → h₁.get? b = some o := hk₁
  have K1 : K.In h₁ := KX.keeps kk
  obtain ⟨oD, hD1, hD2⟩ : ∃ oD, h₁.get? D = some oD ∧ oD.data = .cls cdD := by
    unfold PySem.W.clsIn at hcdD
    split at hcdD
    · rename_i c d cd' sl ho
      cases hcdD
      exact ⟨_, K1 _ _ ho, rfl⟩
    · cases hcdD
  refine ks_wpAt_super_base rfl rfl rfl rfl (K1 _ _ lk) rfl rfl rfl (K1 _ _ lcda) rfl hvs hfile S.top ?_
  refine PySem.W.ks_loadName_global rfl rfl (loadGlobal_builtin (glob.keeps kk) S.sup (blt.keeps kk) ((hboot "super" (by decide)).trans (by decide +kernel)) ⟨rfl, ?_⟩)
  refine wpAny_loadName_free rfl rfl rfl ⟨_, K1 _ _ lcc, rfl⟩ ?_
  refine wpAny_loadName_local rfl rfl hns rfl ?_
  refine ks_wpAny_isType_cls hD1 hD2 ⟨rfl, ?_⟩
  refine ks_wpAny_call_super hD1 hD2 (kk _ _ hx) rfl (fun c e => nomatch e) (PySem.W.looks_mroIn K1 SC.sub) (fun h2 e2 k2 => ?_)
  have K2 : K.In h2 := K1.keeps k2
  have xa2 := k2 _ _ (kk _ _ hx)
  have I2 : PySem.W.InstAt h2 a _ C none := ⟨xa2, rfl, rfl, trivial⟩
  cases hc : PySem.W.clsIn K C with
  | none =>
    have h := SC.init
    unfold PySem.W.ks_superIn at h
    rw [hc] at h
    cases h
  | some cd =>
    have hi := SC.init
    unfold PySem.W.ks_superIn at hi
    rw [hc] at hi
    refine PySem.W.kxs_getMethod PySem.W.kxs_ValueError e2 (PySem.W.looks_opaque K2 S.op) (l₀ := cd.mro) (fun A Q E s k q => wpAny_bind ((PySem.W.looks_clsIn K2 hc) A _ E s k (wpAny_pure q))) rfl K2 hi (I2.type.andThen (PySem.W.looks_subIn K2 SC.ve)) (PySem.W.ks_ne K2 I2 hc) rfl ?_
    have k3 : ∀ b o, h2.get? b = some o → (h2.push (PySem.W.kxs_mw "ValueError.__init__" a)).get? b = some o := fun b o e => Heap.get?_push_of_some _ e
    have hu : (h2.push (PySem.W.kxs_mw "ValueError.__init__" a)).get? h2.objs.size = some (PySem.W.kxs_mw "ValueError.__init__" a) := Heap.get?_push_at rfl rfl
    refine PySem.W.kxs_callWith (i := "ValueError.__init__") (x := a) rfl (evalArgs_empty ⟨hu, ?_⟩)
    obtain ⟨nm, qn, N, bs, bm, sn, sub, ab, col, dd, k0, k1, k2', k3', k5, hC, hbm⟩ := SC.ox.cls
    refine wpAny_call (codeAny_of_tree ?_)
    show wpAny _ _ (callAny (.ref h2.objs.size) ⟨[], []⟩) _ _ _
    simp only [callAny]
    refine wpAny_bind (wpAny_load hu ?_)
    simp only [PySem.W.kxs_mw, show (Value.type "method-wrapper" == Value.type "method" || Value.type "method-wrapper" == Value.type "builtin_function_or_method" || Value.type "method-wrapper" == Value.type "method-wrapper") = true by decide, if_true]
    refine PySem.W.KFB.if_so (by decide) ?_
    refine wpAny_bind (PySem.W.check_bound_init F.excBase_ValueError.toExcCallFacts (k3 _ _ (K2 _ _ hC)) (k3 _ _ xa2) rfl ?_)
    refine wpAny_bind (wpAny_pure (wpAny_pure ?_))
    refine ⟨plainId_quiet F.excBase_ValueError.init.plain _, codeAny_builtin F.excBase_ValueError.initEntry ?_⟩
    refine PySem.W.exc_init_tree (cls := .ref C) (t0 := t0) (dv := none) (c2 := .none) (c3 := .none) (b4 := .bool false) (k3 _ _ xa2) (Nat.zero_le _) fun h' k4 ex et => ?_
    have kf : ∀ b u, b ≠ a → s0.get? b = some u → h'.get? b = some u := fun b u hb e => k4 b u hb (k3 _ _ (k2 _ _ (kk _ _ e)))
    have ao : ∃ u, h'.get? a = some u := ⟨_, ex⟩
    have mu : Mut (H a) := by
      rw [ha]
      exact True.intro
    have eu : upd H a (exo a C none) = H := by
      funext b
      by_cases hb : b = a
      · rw [hb, upd_same, ha]
      · rw [upd_ne hb]
    have un : Un (frs outer) [] H (upd H a (exo a C none)) s0 h' := Un.write mu (.inl rfl) kf ao
    have ok : HOk P w (upd H a (exo a C none)) h' := e0.hok.write mu (.inl rfl) kf ao (exo_ok ex)
    rw [eu] at un ok
    refine wpAt_of_wpAny (wpAny_execs_nil ?_)
    exact ⟨.non, H, rfl, e0.bare, un, ok, rfl, q⟩
/-- C(), an own error class whose __init__ is such: a new error, its dict none -/
theorem pe_sup0 {X : Cx} {x : Str} {D C fI : Addr} {k : Nat} {fd : FuncData} {p pos : Pos} (T : SupC X.K D C) (iC : PySem.W.findIn X.K (.ref C) "__init__" = some (some (.ref fI))) (tI : PySem.W.typeIn X.K (.ref fI) = some (.type "function"))
    (F1 : FnOk X.prog X.w X.K X.mg X.base CX0 k fI fd ["self"] (spSup X.K D)) (hr : Room (k + 1) X.A) (hb : Binds X.K fd ["self"] []) (hg : Gl X x) (hm : X.mg x = some (.ref C)) (hdb : (x == ("__debug__" : Str)) = false := by decide) :
    PE X (.Call (.Name x p) [] [] pos) (fun σ H Q => ∀ a, H a = none → Q (.ref a) (upd H a (exo a C none))) := by
  refine ⟨fun pins s σ H Q I h => ?_⟩
  obtain ⟨nm, q, N, bs, bm, sn, sub, ab, col, dd, k0, k1, k2, k3, k5, hC, hbm⟩ := T.ox.cls
  refine wpAny_Call_Name_kw (ld_glob I hg hm ?_ hdb)
  refine PySem.W.callWith_K0 I.kIn T.ox.kC ?_
  obtain ⟨hp, g, dr, tk, os⟩ := s
  have hsz : hp.objs.size ≤ hp.objs.size + 1 := Nat.le_succ _
  have hn : H (hp.objs.size + 1) = none := I.hok.fresh hsz
  have hq := h (hp.objs.size + 1) hn
  have kk : ∀ b o, hp.get? b = some o → ((hp.push (PySem.W.kdv_tup [])).push (PySem.HandSPX.excO C hp.objs.size)).get? b = some o := fun b o e => Heap.get?_push_of_some _ (Heap.get?_push_of_some _ e)
  have hget : ((hp.push (PySem.W.kdv_tup [])).push (PySem.HandSPX.excO C hp.objs.size)).get? (hp.objs.size + 1) = some (PySem.HandSPX.excO C hp.objs.size) := by heap_get
  have I2 : Inv X pins σ (upd H (hp.objs.size + 1) (exo (hp.objs.size + 1) C none)) ⟨(hp.push (PySem.W.kdv_tup [])).push (PySem.HandSPX.excO C hp.objs.size), g, dr, tk, os⟩ :=
    I.laid (t' := tk) (a := hp.objs.size + 1) (o := exo (hp.objs.size + 1) C none) (h' := (hp.push (PySem.W.kdv_tup [])).push (PySem.HandSPX.excO C hp.objs.size)) kk hsz (exo_ok hget)
  have hsp : spSup X.K D [.ref (hp.objs.size + 1)] (upd H (hp.objs.size + 1) (exo (hp.objs.size + 1) C none)) (fun v H2 => v = .non ∧ Q (.ref (hp.objs.size + 1)) H2) (fun _ _ _ => False) := ⟨_, C, rfl, upd_same, T, rfl, hq⟩
  refine wpAny_call (PySem.HandSPX.call_own F.excBase_ValueError (fun Y => PySem.HandSPX.refsVE_contains Y bm hbm) (I.kIn _ _ hC) (PySem.W.looks_findIn I.kIn iC) (fun self => PySem.W.bind_fn I.kIn self tI) (Nat.zero_le _)
    (codeAny_mono (F1.run _ X.stack _ _ ⟨Value.ref (hp.objs.size + 1) :: [], []⟩ [Value.ref (hp.objs.size + 1)] [V.ref (hp.objs.size + 1)] _ (fun _ _ _ => False) (hr.make C [] []) (I2.env0.make C [] []) (hb _ [Value.ref (hp.objs.size + 1)] I2.kIn rfl) (.cons rfl .nil) hsp) fun r s' hq' => ?_))
  cases r with
  | error er => exact hq'.elim
  | ok fl =>
    cases fl with
    | ret u =>
      obtain ⟨v, H', I3, rv, ev, q3⟩ := I2.after hq'
      subst ev
      exact ⟨rv, ⟨V.ref (hp.objs.size + 1), H', I3, rfl, q3⟩⟩
    | next => exact False.elim hq'
    | brk => exact False.elim hq'
    | cont => exact False.elim hq'
end L2

set_option maxRecDepth 100000
set_option maxHeartbeats 4000000
/-! own rules: errors of own classes held as values -/
namespace L2
open PySem PySem.Spec PySem.Calls PyProof.Rows
section
variable {X : Cx} {pins : List (Addr × Obj)} {σ : St} {H : Hp} {s : Shared}
/-- the error at a of the class C: without a dict, or with one that holds fs -/
def ErrAt (H : Hp) (a C : Addr) (fs : Option (List (Str × V))) : Prop := match fs with
  | none => H a = some (exo a C none)
  | some l => ∃ dx, H a = some (exo a C (some dx)) ∧ H dx = some (exd dx l)
theorem err_inst {a C : Addr} {fs : Option (List (Str × V))} (I : Inv X pins σ H s) (e : ErrAt H a C fs) : ∃ (oe : Obj) (od : Option Obj), PySem.W.InstAt s.heap a oe C od ∧ (fs = none → od = none) := by
  cases fs with
  | none =>
    obtain ⟨t0, hx⟩ := exo_at I.hok e
    exact ⟨_, none, ⟨hx, rfl, rfl, trivial⟩, fun _ => rfl⟩
  | some l =>
    obtain ⟨dx, e1, e2⟩ := e
    obtain ⟨t0, hx⟩ := exo_at I.hok e1
    obtain ⟨mA, hns, hr⟩ := exd_at I.hok e2
    obtain ⟨od, ho, hl⟩ := lookIn_ns hns
    exact ⟨_, some od, ⟨hx, rfl, rfl, ho⟩, fun h => nomatch h⟩
/-- isinstance(e, c), e such an error -/
def rIsX (K : PySem.W.Frag) : List V → Hp → VK → Prop := fun xs H Q => ∃ (a C : Addr) (fs : Option (List (Str × V))) (c : V) (cv : Value) (b : Bool), xs = [.ref a, c] ∧ ErrAt H a C fs ∧ ExcC K C ∧ (∀ u, RelV c u → u = cv) ∧ PySem.W.kitOne K (.ref C) cv = some b ∧ Q (.bl b) H
theorem call_isX : CallR X (.builtin "isinstance") (rIsX X.K) := by
  intro pins s σ H xs us Q I r h
  obtain ⟨a, C, fs, c, cv, b, rfl, he, T, hcv, e, q⟩ := h
  cases r with
  | cons rx rr =>
    cases rr with
    | cons rt rr =>
      cases rr
      cases rx
      have ec := hcv _ rt
      subst ec
      obtain ⟨oe, od, J, _⟩ := err_inst I he
      have hcl : (PySem.W.clsIn X.K C).isSome = true := by
        obtain ⟨cd, hc, _⟩ := PySem.W.any_some T.hd
        rw [hc]
        rfl
      exact PySem.W.kia_one (PySem.W.kitx_exc hcl T.hg T.hk T.hs T.ha T.hn T.ht T.hm) I.kIn J e (fun z => nomatch z) fun tk => ⟨.bl b, H, I.kept (t' := tk) fun _ _ z => z, rfl, q⟩
/-- e.f, e such an error -/
def tXv (K : PySem.W.Frag) (te : TE) (n : Str) : TE := fun σ H Q => te σ H fun x H1 => ∃ (a C : Addr) (fs : List (Str × V)) (v : V), x = .ref a ∧ ErrAt H1 a C (some fs) ∧ XfC K C ∧ PySem.W.findIn K (.ref C) n = some none ∧ fs.lookup n = some v ∧ Q v H1
theorem pe_xv {e : Expr} {te : TE} {pos : Pos} {n : Str} (he : PE X e te) (hb : attributeBase e n X.env (eval e X.env) = eval e X.env) : PE X (.Attribute e n pos) (tXv X.K te n) := by
  refine ⟨fun pins s σ H Q I h => ?_⟩
  refine attr_of hb (thn (he.run pins s σ H _ I h) fun u s1 hh => ?_)
  obtain ⟨x, H1, I1, rx, a, C, fs, v, ex, ⟨dx, e1, e2⟩, T, hno, l, q⟩ := hh
  subst ex
  obtain rfl : u = Value.ref a := rx
  obtain ⟨t0, ha⟩ := exo_at I1.hok e1
  obtain ⟨mA, hns, hr⟩ := exd_at I1.hok e2
  obtain ⟨od, ho, hl⟩ := lookIn_ns hns
  obtain ⟨u, hu, ru⟩ := RelO.some_of (v := v) (o := mA n) (by rw [← l]; exact hr n)
  have J : PySem.W.InstAt s1.heap a _ C (some od) := ⟨ha, rfl, rfl, ho⟩
  exact HandSPX.exc_get I1.kIn J T.ga T.gg T.exC (PySem.W.findObj_own T.hdC hno rfl (by rw [hl, hu])) (handed_of ru) ⟨v, H1, I1.tok _, ru, q⟩
/-- raise e, e such an error without a dict -/
theorem pmk_exo {e : Expr} {te : TE} (hx : X.ex = []) (he : PE X e te) :
    PMk X e (fun σ H Q => te σ H fun x H1 => ∃ a C, x = .ref a ∧ H1 a = some (exo a C none) ∧ Fr0 X.H_0 a ∧ Raises X (.ref C) ∧ Q (.ref C) none (delH H1 a)) := by
  intro pins s σ H Q I h
  refine wpAny_mono (he.run pins s σ H _ I h) (fun u s1 hu => ?_) fun _ _ x => x
  obtain ⟨v, H1, I1, r1, a, C, rfl, ha, h0, hr, q⟩ := hu
  cases r1
  obtain ⟨t0, ho⟩ := exo_at I1.hok ha
  obtain ⟨G, gs, ga, J⟩ := I1.untrack ha h0 hx
  exact ⟨a, _, _, { s1 with heap := G }, delH H1 a, .ref C, none, rfl, J, gs, ga, ho, ⟨rfl, rfl⟩, rfl, rfl, delH_same, rfl, I1.bare, hr, q⟩
end
/-- C(e, ..), C's own __init__ keeping sp, as a value -/
theorem pe_ovx {X : Cx} {CX : CXT} {x : Str} {C fI : Addr} {k : Nat} {fd : FuncData} {ps : List Str} {sp : Sp} {e : Expr} {es : List Expr} {ta : TA} {p pos : Pos} (T : OexC X.K C) (iC : PySem.W.findIn X.K (.ref C) "__init__" = some (some (.ref fI))) (tI : PySem.W.typeIn X.K (.ref fI) = some (.type "function"))
    (F1 : FnOk X.prog X.w X.K X.mg X.base CX k fI fd ps sp) (hr : Room (k + 1) X.A) (hb : Binds X.K fd ps []) (hx : Passes CX X (fun _ _ _ => False)) (hg : Gl X x) (hm : X.mg x = some (.ref C)) (ha : PA X (e :: es) ta)
    (hdb : (x == ("__debug__" : Str)) = false := by decide) (he : starEach (e :: es) X.env = (false, eval e X.env) :: starEach es X.env := by rfl) (hpl : (backTo pos (starEach es X.env)).any (·.1) = false := by rfl) :
    PE X (.Call (.Name x p) (e :: es) [] pos) (fun σ H Q => ta σ H fun vs H1 => vs.length ≤ 1000 ∧ ∀ a, H1 a = none → sp (.ref a :: vs) (upd H1 a (exo a C none)) (fun v H2 => v = .non ∧ Q (.ref a) H2) (fun _ _ _ => False)) := by
  refine ⟨fun pins s σ H Q I h => ?_⟩
  obtain ⟨nm, q, N, bs, bm, sn, sub, ab, col, dd, k0, k1, k2, k3, k5, hC, hbm⟩ := T.cls
  refine wpAny_Call_Name_kw (ld_glob I hg hm ?_ hdb)
  refine PySem.W.callWith_K (h₀ := X.base) I.ok.mod.kin T.kC (thn (ha.run pos pins s σ H _ I h) fun us s1 ⟨vs, H1, I1, r1, hz, q1⟩ => ⟨I1.kIn, ?_⟩) he hpl
  show wpAny _ _ (call (.ref C) us) _ _ _
  obtain ⟨hp, g, dr, tk, os⟩ := s1
  have hn : H1 (hp.objs.size + 1) = none := I1.hok.fresh (Nat.le_succ _)
  have hq := q1 (hp.objs.size + 1) hn
  have hget : ((hp.push (PySem.W.kdv_tup us)).push (PySem.HandSPX.excO C hp.objs.size)).get? (hp.objs.size + 1) = some (PySem.HandSPX.excO C hp.objs.size) := by heap_get
  have I2 : Inv X pins σ (upd H1 (hp.objs.size + 1) (exo (hp.objs.size + 1) C none)) ⟨(hp.push (PySem.W.kdv_tup us)).push (PySem.HandSPX.excO C hp.objs.size), g, dr, tk, os⟩ :=
    I1.laid (t' := tk) (o := exo (hp.objs.size + 1) C none) (fun b o e => Heap.get?_push_of_some _ (Heap.get?_push_of_some _ e)) (Nat.le_succ _) (exo_ok hget)
  have r2 : Vals (V.ref (hp.objs.size + 1) :: vs) (Value.ref (hp.objs.size + 1) :: us) := .cons rfl r1
  have hl : (Value.ref (hp.objs.size + 1) :: us).length = ps.length := by
    have e := r2.length
    rw [F1.len _ _ _ _ hq] at e
    exact e.symm
  have hus : us.length ≤ sizeLine := by
    rw [← Paired.length r1, sizeLine_eq]
    omega
  have hbt := hb ⟨(hp.push (PySem.W.kdv_tup us)).push (PySem.HandSPX.excO C hp.objs.size), g, dr, tk, os⟩ (Value.ref (hp.objs.size + 1) :: us) I2.kIn (by rw [List.append_nil]; exact hl)
  rw [List.append_nil] at hbt
  refine wpAny_call (PySem.HandSPX.call_own F.excBase_ValueError (fun Y => PySem.HandSPX.refsVE_contains Y bm hbm) (I1.kIn _ _ hC) (PySem.W.looks_findIn I1.kIn iC) (fun self => PySem.W.bind_fn I1.kIn self tI) hus
    (codeAny_mono (F1.run _ X.stack _ _ ⟨Value.ref (hp.objs.size + 1) :: us, []⟩ (Value.ref (hp.objs.size + 1) :: us) _ _ (fun _ _ _ => False) (hr.make C us []) (I2.env0.make C us []) hbt r2 hq) fun r s' hq' => ?_))
  cases r with
  | error er => exact hx pins σ _ _ er s' I2 hq'
  | ok fl =>
    cases fl with
    | ret u =>
      obtain ⟨v, H', I3, rv, ev, q3⟩ := I2.after hq'
      subst ev
      exact ⟨rv, ⟨V.ref (hp.objs.size + 1), H', I3, rfl, q3⟩⟩
    | next => exact False.elim hq'
    | brk => exact False.elim hq'
    | cont => exact False.elim hq'
end L2

set_option maxRecDepth 100000
set_option maxHeartbeats 4000000
namespace W1
open PySem PySem.Spec PyProof.Rows L2
theorem Le.ext {H H' : Hp} {a : Addr} {φ : Heap → Prop} (e : Le H H') (h : H a = some (.ext φ)) : H' a = some (.ext φ) := by
  rcases e a _ h with h1 | ⟨_, _, _, _, _, _, _, _, _, z, _⟩
  · exact h1
  · cases z
theorem Le.err {H H' : Hp} {a C : Addr} {fs : Option (List (Str × V))} (e : Le H H') (h : ErrAt H a C fs) : ErrAt H' a C fs := by
  cases fs with
  | none => exact e.ext h
  | some l =>
    obtain ⟨dx, h1, h2⟩ := h
    exact ⟨dx, e.ext h1, e.ext h2⟩
/-- an __init__ that keeps its argument -/
def spFld (K : PySem.W.Frag) (f : Str) : Sp := fun vs H Q _ => ∃ a C v, vs = [.ref a, v] ∧ H a = some (exo a C none) ∧ OexC K C ∧ PySem.W.findIn K (.ref C) f = some none ∧ ∀ dx, H dx = none → dx ≠ a → Q .non (upd (upd H dx (exd dx [(f, v)])) a (exo a C (some dx)))
inductive Errs (H : Hp) : List D → List Addr → Prop
  | nil : Errs H [] []
  | cons {a C : Addr} {fs : Option (List (Str × V))} {ds : List D} {Cl : List Addr} : ErrAt H a C fs → Errs H ds Cl → Errs H (.obj (.ref a) :: ds) (C :: Cl)
theorem Errs.le {H H' : Hp} (e : Le H H') : ∀ {ds : List D} {Cl : List Addr}, Errs H ds Cl → Errs H' ds Cl
  | _, _, .nil => .nil
  | _, _, .cons h r => .cons (e.err h) (Errs.le e r)
theorem Errs.app {H : Hp} : ∀ {ds es : List D} {Cl Dl : List Addr}, Errs H ds Cl → Errs H es Dl → Errs H (ds ++ es) (Cl ++ Dl)
  | _, _, _, _, .nil, s => s
  | _, _, _, _, .cons h r, s => .cons h (Errs.app r s)
theorem Errs.len {H : Hp} : ∀ {ds : List D} {Cl : List Addr}, Errs H ds Cl → ds.length = Cl.length
  | _, _, .nil => rfl
  | _, _, .cons _ r => by rw [List.length_cons, List.length_cons, Errs.len r]
theorem Errs.at {H : Hp} : ∀ {ds : List D} {Cl : List Addr} {i : Nat} {d : D}, Errs H ds Cl → ds[i]? = some d → ∃ a C fs, d = .obj (.ref a) ∧ Cl[i]? = some C ∧ ErrAt H a C fs
  | _, _, _, _, .nil, h => by simp at h
  | _, _, 0, _, .cons h _, e => by
    simp at e
    exact ⟨_, _, _, e.symm, rfl, h⟩
  | _, _, i + 1, d, .cons _ r, e => by
    obtain ⟨a, C, fs, h1, h2, h3⟩ := Errs.at (i := i) (d := d) r (by simpa using e)
    exact ⟨a, C, fs, h1, by simpa using h2, h3⟩
theorem Errs.nh {K : PySem.W.Frag} {H H' : Hp} {ds : List D} {Cl : List Addr} {xs : List V} (h : Errs H ds Cl) (r : Rps K H' xs ds) : NotH xs := notH_of fun v hv i e => by
  obtain ⟨d, h1, h2⟩ := r.at' hv
  obtain ⟨a, C, fs, rfl, _⟩ := h.at h1
  rw [rp_obj h2] at e
  cases e
section
variable {K : PySem.W.Frag} {σ : L2.St} {H : Hp} {ta tb te : TE} {C : Addr} {f : Str} {d0 : D} {Cl Dl : List Addr} {D1 : Ends} {tu tz : TS}
abbrev ErrP (C : Addr) : Pd := fun d H => ∃ a fs, d = .obj (.ref a) ∧ ErrAt H a C fs
/-- C() -/
theorem ep_mk0 : EP K (fun _ H Q => ∀ a, H a = none → Q (.ref a) (upd H a (exo a C none))) σ H (ErrP C) := fun H1 e Q q a na => q _ (.obj (.ref a)) _ (Le.new na) ⟨a, none, rfl, upd_same⟩ (.obj _)
abbrev tMkF (K : PySem.W.Frag) (C : Addr) (f : Str) (A : TA) : TE := fun σ H Q => A σ H fun vs H1 => vs.length ≤ 1000 ∧ ∀ a, H1 a = none → spFld K f (.ref a :: vs) (upd H1 a (exo a C none)) (fun v H2 => v = .non ∧ Q (.ref a) H2) (fun _ _ _ => False)
/-- C(e), and what it holds -/
theorem ep_mkF (T : OexC K C) (hno : PySem.W.findIn K (.ref C) f = some none) (h : ED K te σ H d0) : EP K (tMkF K C f (tCons te tNil)) σ H (fun d H => ∃ a v, d = .obj (.ref a) ∧ ErrAt H a C (some [(f, v)]) ∧ Rp K H v d0) := fun H1 e Q q => ea_cons h ea_nil H1 e _ fun vs es H2 e2 p r => by
  have p' : es = [d0] := p
  subst p'
  obtain ⟨v, rfl, r1⟩ := rps1 r
  refine ⟨by show 1 ≤ 1000; decide, fun a na => ⟨a, C, v, rfl, upd_same, T, hno, fun dx hdx hne => ⟨rfl, ?_⟩⟩⟩
  have hd : H2 dx = none := by
    rw [upd_ne hne] at hdx
    exact hdx
  have l2 : Le H2 (upd (upd (upd H2 a (exo a C none)) dx (exd dx [(f, v)])) a (exo a C (some dx))) := (((Le.refl H2).mut na).mut hd).mut na
  exact q _ (.obj (.ref a)) _ (e2.trans l2) ⟨a, v, rfl, ⟨dx, upd_same, by rw [upd_ne hne, upd_same]⟩, r1.le l2⟩ (.obj _)
theorem ep_mkE (T : OexC K C) (hno : PySem.W.findIn K (.ref C) f = some none) (h : ED K te σ H d0) : EP K (tMkF K C f (tCons te tNil)) σ H (ErrP C) := (ep_mkF T hno h).weak fun d H2 _ ⟨a, v, e1, e2, _⟩ => ⟨a, _, e1, e2⟩
/-- C(e).f -/
theorem ed_mkG (T : OexC K C) (X : XfC K C) (hno : PySem.W.findIn K (.ref C) f = some none) (h : ED K te σ H d0) : ED K (tXv K (tMkF K C f (tCons te tNil)) f) σ H d0 := by
  intro H1 e Q q
  unfold tXv
  refine ep_mkF T hno h H1 e _ fun v d H2 e2 p r => ?_
  obtain ⟨a, u, rfl, he, ru⟩ := p
  have ev := rp_obj r
  subst ev
  exact ⟨a, C, _, u, rfl, he, X, hno, by simp, q _ _ H2 e2 rfl ru⟩
/-- isinstance(e, c) -/
theorem ed_isX {c : V} {cv : Value} {b : Bool} {a : Addr} {fs : Option (List (Str × V))} (h : ED K te σ H (.obj (.ref a))) (he : ErrAt H a C fs) (T : ExcC K C) (hc : ∀ u, RelV c u → u = cv) (hk : PySem.W.kitOne K (.ref C) cv = some b) : ED K (tCB (rIsX K) (tCons te (tCons (tC c) tNil))) σ H (.bl b) := fun H1 e Q q => h H1 e _ fun v d H2 e2 p r => by
  have p' : d = .obj (.ref a) := p
  subst p'
  exact ⟨a, C, fs, c, cv, b, by rw [rp_obj r], (e.trans e2).err he, T, hc, hk, q _ _ H2 e2 rfl (.bl _)⟩
theorem ep_isX {c : V} {cv : Value} {b : Bool} (h : EP K te σ H (ErrP C)) (T : ExcC K C) (hc : ∀ u, RelV c u → u = cv) (hk : PySem.W.kitOne K (.ref C) cv = some b) : ED K (tCB (rIsX K) (tCons te (tCons (tC c) tNil))) σ H (.bl b) := fun H1 e Q q => h H1 e _ fun v d H2 e2 p r => by
  obtain ⟨a, fs, rfl, he⟩ := p
  exact ⟨a, C, fs, c, cv, b, by rw [rp_obj r], he, T, hc, hk, q _ _ H2 e2 rfl (.bl _)⟩
theorem ea_errs {A : TA} (h : EP K te σ H (ErrP C)) (hr : EA K A σ H (fun ds H => Errs H ds Cl)) : EA K (tCons te A) σ H (fun ds H => Errs H ds (C :: Cl)) := EA_weak (ep_cons h hr) fun ds H2 p => by
  obtain ⟨d, r, H1, rfl, e, ⟨a, fs, rfl, he⟩, hr⟩ := p
  exact .cons (e.err he) hr
theorem ea_errs0 : EA K tNil σ H (fun ds H => Errs H ds []) := EA_weak ea_nil fun ds H2 p => by
  have p' : ds = [] := p
  subst p'
  exact .nil
abbrev ErrsP (Cl : List Addr) : Pd := fun d H => ∃ ds, d = .lst ds ∧ Errs H ds Cl
theorem ep_errs {A : TA} (h : EA K A σ H (fun ds H => Errs H ds Cl)) (hl : Cl.length ≤ 100000) : EP K (tLst A) σ H (ErrsP Cl) := ep_lst h (fun ds H2 p => by rw [p.len]; exact hl) (fun ds H2 xs p r => p.nh r) fun ds H2 p H3 e => ⟨ds, rfl, p.le e⟩
theorem ep_errsCat (h : EP K ta σ H (ErrsP Cl)) (h2 : EP K tb σ H (ErrsP Dl)) (hl : Cl.length + Dl.length ≤ 100000) : EP K (tOp rCat ta tb) σ H (ErrsP (Cl ++ Dl)) :=
  ep_op h h2 fun x y d1 d2 H1 H2 _ e12 p1 p2 r1 r2 Q q => by
    obtain ⟨ds, rfl, q1⟩ := p1
    obtain ⟨es, rfl, q2⟩ := p2
    obtain ⟨a, xs, rfl, s, nh, rr⟩ := rp_lst r1
    obtain ⟨b, ys, rfl, s2, nh2, rr2⟩ := rp_lst r2
    refine ⟨a, b, xs, ys, rfl, rfl, s, s2, by rw [rr.len, rr2.len, q1.len, q2.len]; exact Evl.sz_of hl, fun p np => ?_⟩
    have E := ((q1.le e12).app q2).le (Le.new (o := .lst (xs ++ ys)) np)
    have rf := (rr.app rr2).le (Le.new (o := .lst (xs ++ ys)) np)
    exact q _ (.lst (ds ++ es)) _ (Le.new np) ⟨_, rfl, E⟩ (.lst upd_same (E.nh rf) rf)
/-- for i, x in enumerate(a list), where all that is tracked stays -/
theorem s_forEL {A : TA} {j l : Nat} {ds : List D} (h : EDA K A σ H [.lst ds])
    (k : ∀ H1, Le H H1 → ∃ Pv : Nat → L2.St → Hp → Prop, Pv 0 σ H1 ∧ (∀ i σ' H', i ≤ ds.length → Pv i σ' H' → Le H1 H') ∧
      (∀ (i : Nat) d v σ' H' H2, ds[i]? = some d → Pv i σ' H' → Le H' H2 → Rp K H2 v d → tu (bodyEnds D1 (Pv (i + 1))) ((σ'.set j (some (.int (i : Int)))).set l (some v)) H2) ∧ ∀ σ' H', Pv ds.length σ' H' → D1.nx σ' H') :
    tFor (iEnum K A) (gTup K 2 (gCons (gName j) (gCons (gName l) gNil))) tu D1 σ H := h H (Le.refl _) _ fun vs es H1 e p r => by
  have p' : es = [.lst ds] := p
  subst p'
  cases r with
  | cons r1 r =>
    cases r
    obtain ⟨a, xs, rfl, s, nh, rr⟩ := rp_lst r1
    obtain ⟨Pv, h0, hle, hs, hd⟩ := k H1 e
    refine ⟨a, xs, rfl, SqL.of s, for_it (walk_enum (xs := xs)) Pv h0 (fun i σ' H' hi q => SqL.of ((hle i σ' H' (by rw [← rr.len]; exact hi) q).lst s nh)) ?_ (fun σ' H' q => hd σ' H' (by rw [← rr.len]; exact q))⟩
    rintro i x σ' H' H2 hi q ⟨T, x1, x2, rfl, nT, rfl, f1, f2⟩
    have ex : x1 = .int (i : Nat) := (Option.some.inj f1).symm
    subst ex
    obtain ⟨d, h1, h2⟩ := rr.at' f2
    have e2 : Le H' (upd H' T (.tup [.int (i : Nat), x2])) := Le.new nT
    exact ⟨T, _, rfl, Evl.st_of upd_same, rfl, _, _, rfl, _, _, rfl, rfl, hs i d x2 σ' _ _ h1 q e2 ((h2.le (hle i σ' _ (by rw [← rr.len]; omega) q)).le e2)⟩
theorem q_forEL {A : TA} {j l : Nat} {ds : List D} (h : EDA K A σ H [.lst ds])
    (k : ∀ H1, Le H H1 → ∃ Pv : Nat → L2.St → Hp → Prop, Pv 0 σ H1 ∧ (∀ i σ' H', i ≤ ds.length → Pv i σ' H' → Le H1 H') ∧
      (∀ (i : Nat) d v σ' H' H2, ds[i]? = some d → Pv i σ' H' → Le H' H2 → Rp K H2 v d → tu (bodyEnds { D1 with nx := tz D1 } (Pv (i + 1))) ((σ'.set j (some (.int (i : Int)))).set l (some v)) H2) ∧ ∀ σ' H', Pv ds.length σ' H' → tz D1 σ' H') :
    tSeq (tFor (iEnum K A) (gTup K 2 (gCons (gName j) (gCons (gName l) gNil))) tu) tz D1 σ H := s_forEL (D1 := { D1 with nx := tz D1 }) h k
end
end W1

set_option maxRecDepth 100000
set_option maxHeartbeats 4000000
namespace W1
open PySem PySem.Spec PyProof.Rows L2 RZ
abbrev s_BadWeb___init__ : Stmt := inClass (topS 4) 0
abbrev N_BadWeb___init__ : List Str := ["self", "part"]
theorem sc_BadWeb___init__ : FnScope N_BadWeb___init__ ["self", "part"] (defScope s_BadWeb___init__) := ⟨rfl, rfl, rfl, by decide +kernel, rfl, by decide +kernel, by decide +kernel⟩
section
variable {P : Program} {w : World} {K : PySem.W.Frag} {mg : Str → Option Value} {base : Heap}
theorem ok_BadWeb {f : Addr} {fd : FuncData} (F : Fun K "__init__" "BadWeb.__init__" s_BadWeb___init__ f fd) : FnOk P w K mg base CX0 1 f fd ["self", "part"] (spFld K "part") := by
  refine F.ok sc_BadWeb___init__ (fun vs H Q E h => ?_) (fun cdv A outer s H vs Q E hr h => ?_)
  · obtain ⟨a, C, v, rfl, _⟩ := h
    rfl
  obtain ⟨a, C, v, rfl, ha, T, hno, k⟩ := h
  refine ⟨_, pss_one (ps_ost (pv 0) (pv 1)), ?_⟩
  exact ⟨_, rfl, _, rfl, a, C, rfl, T, hno, .inl ⟨ha, fun dx hdx hne => k dx hdx hne⟩⟩
end
end W1

set_option maxRecDepth 100000
set_option maxHeartbeats 4000000
/-! == and != by an own __eq__, whatever stands on the right -/
namespace PySem.W
open PySem.Builtin PyProof.Rows
section
variable {prog : Program} {w : World} {A : Around} {E : Value → Shared → Prop} {s : Shared} {K : Frag} {x C L f : Addr} {h₀ : Heap} {m : Str → Option Value} {ox : Obj} {od : Option Obj} {name : Str} {b tb : Value}
theorem ifBound_KB {M : Model} {args : List Value} {i : String} {Q : Option Value → Shared → Prop} (X : K.In s.heap) (I : InstAt s.heap x ox C od) (hs : findIn K (.ref C) name = some (some (.builtin i))) (hb : ∀ self, bindSpecial (.builtin i) self = pure (.builtin i, [self]))
    (h : wpAny M A (call (.builtin i) (.ref x :: args)) (fun v => Q (some v)) E s) : wpAny M A (callSpecialIfBound? (.ref x) name args) Q E s := by
  simp only [callSpecialIfBound?, bindSpecialIfBound?]
  refine wpAny_holding (wpAny_bind (wpAny_bind (wpAny_bind (I.type.here ((looks_findIn X hs).here ?_)))))
  refine wpAny_bind (wpAny_askSetting (wpAny_ite ?_))
  have fin : wpAny M A (call (.builtin i) ([.ref x] ++ args) >>= fun v => pure (some v)) Q E s := wpAny_bind (wpAny_mono h (fun v s' h' => wpAny_pure h') fun _ _ h' => h')
  rw [hb]
  split
  · exact wpAny_bind (wpAny_pure (wpAny_pure fin))
  · exact wpAny_tryCatch (wpAny_bind (wpAny_pure (wpAny_pure fin)))
theorem ne_entry_K {Q : Fin → Shared → Prop} (X : K.In s.heap) (I : InstAt s.heap x ox C od) (hu : A.units < cLine) (hs : findIn K (.ref C) "__eq__" = some (some (.ref f))) (hf : isFn K (.ref f) = true)
    (hcall : wpAny (model prog w) A (call (.ref f) [.ref x, b]) (fun v s' => ∃ r, v = .bool r ∧ Q (.done (.ret (.bool (!r)))) s') E s) :
    wpAny (model prog w) A (Builtin.«object.__ne__» ⟨[.ref x, b], []⟩) Q E s := by
  obtain ⟨hh, g, d, t, os⟩ := s
  unfold Builtin.«object.__ne__»
  repeat (first
    | with_reducible refine wpAny_cRoomFor hu ?_
    | (refine wpAny_bind (m := callSpecialIfBound? (.ref x) (Str.ofString "__eq__") [b])
        (ifBound_K X I hs hf (wpAny_mono hcall (fun r s' hr => by
          obtain ⟨b, rfl, hq⟩ := hr
          repeat (first | exact hq | exact wpAny_pure hq | exact wpAny_truthy_bool hq | (refine wpAny_bind (m := truthy (.bool _)) (wpAny_truthy_bool ?_)) | wp_step)) fun _ _ e => e)))
    | wp_step)
theorem ne_K {Q : Value → Shared → Prop} (hu : A.units + 1 < cLine) (F : Fr h₀ L s.heap m) (X₀ : K.In h₀) (I : InstAt s.heap x ox C od) (hb : Looks (model prog w) s.heap (typeOf b) tb) (hn : notFirst K C tb = true)
    (hne : findIn K (.ref C) "__ne__" = some (some (.builtin "object.__ne__"))) (hob : subIn K (.ref C) (.type "object") = some true)
    (hs : findIn K (.ref C) "__eq__" = some (some (.ref f))) (hf : isFn K (.ref f) = true)
    (h : wpAny (model prog w) A.in1 (call (.ref f) [.ref x, b]) (fun v s' => ∃ r, v = .bool r ∧ Q (.bool (!r)) s') E s) : wpAny (model prog w) A (richCompare .NotEq (.ref x) b) Q E s := by
  have X := X₀.keeps F.keep
  have one : wpAny (model prog w) A (tryCompare (.ref x) "__ne__" b) (fun r s' => ∃ v, r = some v ∧ Q v s') E s := by
    unfold tryCompare
    refine wpAny_bind (ifBound_KB X I hne PySem.F.cmp_object.ne.bind (wpAny_call (codeAny_call_builtin PySem.F.cmp_object.ne.plain PySem.F.cmpEntry_ne
      (check_slot PySem.F.cmpKind_ne PySem.F.cmpSplit_ne (I.type.andThen (looks_subIn X hob)) (PySem.F.cmpArgs_ne _ _) (ne_entry_K (A := A.in1) X I hu hs hf (wpAny_mono h (fun v s' hv => ?_) fun _ _ e => e))))))
    obtain ⟨r, rfl, hq⟩ := hv
    exact ⟨r, rfl, wpAny_pure ⟨_, rfl, hq⟩⟩
  unfold richCompare
  simp only [oneThing_ref]
  refine wpAny_holding (wpAny_bind (wpAny_cRoomFor (Nat.lt_of_succ_lt hu) ?_))
  rw [cmpInfo_NotEq]
  dsimp only
  refine wpAny_bind (I.type.here (wpAny_bind (hb.here ?_)))
  split
  · rename_i q
    have e : subIn K tb (.ref C) = some false := by
      rcases Bool.or_eq_true_iff.mp hn with e | e
      · rw [beq_iff_eq.mp e] at q; simp at q
      · exact beq_iff_eq.mp e
    refine wpAny_bind ((looks_subIn X e).here ?_)
    simp only [Bool.false_eq_true, if_false]
    refine wpAny_bind (wpAny_mono one (fun r s' z => ?_) fun _ _ e => e)
    obtain ⟨v, rfl, hq⟩ := z
    exact wpAny_pure hq
  · refine wpAny_bind (wpAny_pure ?_)
    simp only [Bool.false_eq_true, if_false]
    refine wpAny_bind (wpAny_mono one (fun r s' z => ?_) fun _ _ e => e)
    obtain ⟨v, rfl, hq⟩ := z
    exact wpAny_pure hq
end
end PySem.W
namespace L2
open PySem PySem.Spec PyProof.Rows
structure OwnC (K : PySem.W.Frag) (C f : Addr) : Prop where
  eq : PySem.W.findIn K (.ref C) "__eq__" = some (some (.ref f))
  fn : PySem.W.isFn K (.ref f) = true
  ne : PySem.W.findIn K (.ref C) "__ne__" = some (some (.builtin "object.__ne__"))
  ob : PySem.W.subIn K (.ref C) (.type "object") = some true
/-- x == y, x != y by the __eq__ of x's class, keeping sp -/
def rOwn (K : PySem.W.Frag) (neg : Bool) (C : Addr) (sp : Sp) : R2 := fun x y H Q => ∃ a dx fs ty, x = .ref a ∧ H a = some (.ins C dx fs) ∧ TyX K H y ty ∧ PySem.W.notFirst K C ty = true ∧ sp [x, y] H (fun v H' => ∃ b, v = .bl b ∧ Q (.bl (if neg then !b else b)) H') E0
section
variable {X : Cx} {C f : Addr} {fd : FuncData} {ps : List Str} {k : Nat} {sp : Sp}
theorem own_call (O : OwnC X.K C f) (F : FnOk X.prog X.w X.K X.mg X.base CX0 k f fd ps sp) (hb : Binds X.K fd ps []) {A : Around} (hr : Room k A) (hfr : A.frames = X.A.frames) {pins : List (Addr × Obj)} {s : Shared} {σ : St} {H : Hp} {x y : V} {u v : Value} {Q : VK} (I : Inv X pins σ H s) (rx : RelV x u) (ry : RelV y v) (hsp : sp [x, y] H Q E0) :
    wpAny (model X.prog X.w) A (call (.ref f) [u, v]) (fun w s' => ∃ z H', Inv X pins σ H' s' ∧ RelV z w ∧ Q z H') X.xe s := by
  have e0 : Env0 X.prog X.w X.K X.mg X.base A X.stack s H := by
    have e := I.env0
    exact ⟨by rw [hfr]; exact e.frames, e.mod, e.bs, e.bsz, e.funs, e.frf, e.hok, e.bare⟩
  have hl := F.len _ _ _ _ hsp
  have r2 : Vals [x, y] [u, v] := .cons rx (.cons ry .nil)
  refine wpAny_call (codeAny_mono (F.run A X.stack s H ⟨[u, v], []⟩ [u, v] [x, y] _ E0 hr e0 (by
    have := hb s [u, v] I.kIn (by simpa using hl)
    simpa using this) r2 hsp) fun r s' hq => ?_)
  cases r with
  | error e => exact pass0 pins σ H s e s' I hq
  | ok fl =>
    cases fl with
    | ret w =>
      obtain ⟨z, H', I', rz, q⟩ := I.after hq
      exact ⟨z, H', I', rz, q⟩
    | next => exact False.elim hq
    | brk => exact False.elim hq
    | cont => exact False.elim hq
theorem op_ownEq (O : OwnC X.K C f) (F : FnOk X.prog X.w X.K X.mg X.base CX0 k f fd ps sp) (hb : Binds X.K fd ps []) (hr : Room k X.A) : OpR X (compareOp .Eq) (rOwn X.K false C sp) := by
  intro pins s σ H x y u v Q I rx ry h
  obtain ⟨a, dx, fs, ty, rfl, ha, t, hn, hsp⟩ := h
  cases rx
  obtain ⟨mA, J, _⟩ := ins_get I.hok ha
  obtain ⟨od, J, _⟩ := J.look
  obtain ⟨m, hF⟩ := I.fr
  obtain ⟨P, kx, hP, _⟩ := kit_of I ry t
  show wpAny (model X.prog X.w) X.A (richCompare .Eq (.ref a) v) (EP X pins σ Q) X.xe s
  refine PySem.W.cmp_K (op := .Eq) (tb := ty) hr.units0 hF I.ok.mod.kin J (kx.ty _ _ I.kIn hP) hn O.eq O.fn (wpAny_mono (own_call (x := .ref a) O F hb hr rfl I rfl ry hsp) (fun w s' q => ?_) fun _ _ x => x)
  obtain ⟨z, H', I', rz, b, ez, q⟩ := q
  subst ez
  cases rz
  exact ⟨.bl b, H', I', rfl, q⟩
theorem op_ownNe (O : OwnC X.K C f) (F : FnOk X.prog X.w X.K X.mg X.base CX0 k f fd ps sp) (hb : Binds X.K fd ps []) (hr : Room (k + 1) X.A) : OpR X (compareOp .NotEq) (rOwn X.K true C sp) := by
  intro pins s σ H x y u v Q I rx ry h
  obtain ⟨a, dx, fs, ty, rfl, ha, t, hn, hsp⟩ := h
  cases rx
  obtain ⟨mA, J, _⟩ := ins_get I.hok ha
  obtain ⟨od, J, _⟩ := J.look
  obtain ⟨m, hF⟩ := I.fr
  obtain ⟨P, kx, hP, _⟩ := kit_of I ry t
  show wpAny (model X.prog X.w) X.A (richCompare .NotEq (.ref a) v) (EP X pins σ Q) X.xe s
  refine PySem.W.ne_K (tb := ty) ?_ hF I.ok.mod.kin J (kx.ty _ _ I.kIn hP) hn O.ne O.ob O.eq O.fn (wpAny_mono (own_call (x := .ref a) O F hb hr.in1 rfl I rfl ry hsp) (fun w s' q => ?_) fun _ _ x => x)
  · have := hr.in1.units0
    exact this
  · obtain ⟨z, H', I', rz, b, ez, q⟩ := q
    subst ez
    cases rz
    exact ⟨b, rfl, .bl (!b), H', I', rfl, q⟩
end
end L2

set_option maxRecDepth 100000
set_option maxHeartbeats 4000000
/-! defs that may raise, told in data; webs judged -/
namespace W1
open PySem PyProof.Rows L2
local macro_rules | `(tactic| walk_at "rp") => `(tactic| first | assumption | exact Rp.int _ | exact Rp.bl _ | exact Rp.str _ | exact Rp.non | exact Rp.obj _ | (refine Rp.le (by assumption) ?_; walk_at "rp"))
local macro_rules | `(tactic| walk_at "ed") => `(tactic| first
  | exact ed_int | exact ed_str | exact ed_bl | exact ed_non
  | (refine ed_var rfl ?_; walk_at "rp")
  | (refine ed_ixT (ds := [_, _]) ?_ ed_int (by decide) rfl; walk_at "ed")
  | (refine ed_I0 ?_ ?_ <;> walk_at "ed")
  | (refine ed_B0 ?_ ?_ <;> walk_at "ed")
  | (refine ed_eqS ?_ ?_ rfl rfl rfl <;> walk_at "ed")
  | assumption)
local macro_rules | `(tactic| walk_at "ea") => `(tactic| first | exact ea_nil | (refine ea_cons ?_ ?_; walk_at "ed"; walk_at "ea"))

abbrev s_check_memories : Stmt := topS 15
abbrev N_check_memories : List Str := ["memories", "memory"]
theorem sc_check_memories : FnScope N_check_memories ["memories"] (defScope s_check_memories) := ⟨rfl, rfl, rfl, by decide +kernel, rfl, by decide +kernel, by decide +kernel⟩
abbrev s_is_tie : Stmt := topS 17
abbrev N_is_tie : List Str := ["many", "thing", "room"]
theorem sc_is_tie : FnScope N_is_tie ["many", "thing"] (defScope s_is_tie) := ⟨rfl, rfl, rfl, by decide +kernel, rfl, by decide +kernel, by decide +kernel⟩
abbrev s_check_ties : Stmt := topS 16
abbrev N_check_ties : List Str := ["many", "ties", "at", "tie"]
theorem sc_check_ties : FnScope N_check_ties ["many", "ties"] (defScope s_check_ties) := ⟨rfl, rfl, rfl, by decide +kernel, rfl, by decide +kernel, by decide +kernel⟩
inductive Out where
  | ret (P : Pd)
  | err (C : Addr) (f : Option (Str × D))
/-- what E must take -/
def Lets (K : PySem.W.Frag) (E : XK) (H : Hp) (C : Addr) : Option (Str × D) → Prop
  | none => ∀ H2, Le H H2 → E (.ref C) none H2
  | some (f, d) => ∀ dd v H2, Le H H2 → H2 dd = some (.xd [(f, v)]) → Rp K H2 v d → E (.ref C) (some dd) H2
theorem Lets.le {K : PySem.W.Frag} {E : XK} {H H1 : Hp} {C : Addr} {f : Option (Str × D)} (e : Le H H1) (l : Lets K E H C f) : Lets K E H1 C f := by
  cases f with
  | none => exact fun H2 e2 => l H2 (e.trans e2)
  | some p => exact fun dd v H2 e2 h r => l dd v H2 (e.trans e2) h r
def spX (K : PySem.W.Frag) (R : List D → Hp → Out → Prop) : Sp := fun vs H Q E => ∃ ds o, Rps K H vs ds ∧ R ds H o ∧ (∀ P, o = .ret P → ∀ v d H2, Le H H2 → P d H2 → Rp K H2 v d → Q v H2) ∧ (∀ C f, o = .err C f → Lets K E H C f)
section
variable {K : PySem.W.Frag} {σ : L2.St} {H : Hp} {A : TA} {te : TE} {P : Pd} {E : XK} {ds : List D} {R : List D → Hp → Out → Prop}
theorem ep_callX (h : EDA K A σ H ds) (hr : ∀ H2, Le H H2 → R ds H2 (.ret P)) : EP K (tCall (spX K R) [] E A) σ H P := fun H1 e Q q => h H1 e _ fun vs ds' H2 e2 p r => by
  have p' : ds' = ds := p
  subst p'
  refine ⟨ds', _, by rw [List.append_nil]; exact r, hr H2 (e.trans e2), fun P0 e0 v d H3 e3 p3 r3 => ?_, fun C f e0 => Out.noConfusion e0⟩
  cases e0
  exact q v d H3 (e2.trans e3) p3 r3
theorem er_callX {C : Addr} {f : Option (Str × D)} (h : EDA K A σ H ds) (hr : ∀ H2, Le H H2 → R ds H2 (.err C f)) (l : Lets K E H C f) (Q : VK) : tCall (spX K R) [] E A σ H Q := h H (Le.refl _) _ fun vs ds' H2 e2 p r => by
  have p' : ds' = ds := p
  subst p'
  refine ⟨ds', _, by rw [List.append_nil]; exact r, hr H2 e2, fun P0 e0 => Out.noConfusion e0, fun C' f' e0 => ?_⟩
  cases e0
  exact l.le e2
end
structure FC (P : Program) (w : World) (K : PySem.W.Frag) (mg : Str → Option Value) (base : Heap) (x f : Str) (C : Addr) : Prop where
  mgC : mg x = some (.ref C)
  ox : OexC K C
  xf : XfC K C
  no : PySem.W.findIn K (.ref C) f = some none
  ex : ∃ fi fd, PySem.W.findIn K (.ref C) "__init__" = some (some (.ref fi)) ∧ PySem.W.typeIn K (.ref fi) = some (.type "function") ∧ FnOk P w K mg base CX0 1 fi fd ["self", f] (spFld K f) ∧ Binds K fd ["self", f] []
section
variable {X : Cx} {x f : Str} {C : Addr} {p pos : Pos} {e : Expr} {te : TE} {K : PySem.W.Frag}
theorem pmk_fc (c : FC X.prog X.w X.K X.mg X.base x f C) (hr : Room 2 X.A) (ha : PE X e te) (hg : Gl X x := by rfl) (hdb : (x == ("__debug__" : Str)) = false := by decide) (he : starEach [e] X.env = (false, eval e X.env) :: starEach [] X.env := by rfl) (h : X.K = K := by rfl) :
    PMk X (.Call (.Name x p) [e] [] pos) (tMkO C (spFld K f) [] (tCons te tNil)) := by
  subst h
  obtain ⟨fi, fd, h1, h2, F, b⟩ := c.ex
  exact pmk_oex c.ox h1 h2 F hr b .nil pass0 hg c.mgC (pa_cons ha pa_nil (hs := he)) hdb he (by rfl)
end
section
variable {K : PySem.W.Frag} {σ : L2.St} {H : Hp} {te : TE} {C : Addr} {f : Str} {d0 : D} {W : XK}
theorem mkO_lets (T : OexC K C) (hno : PySem.W.findIn K (.ref C) f = some none) (h : ED K te σ H d0) (k : ∀ dd v H2, Le H H2 → H2 dd = some (.xd [(f, v)]) → Rp K H2 v d0 → W (.ref C) (some dd) H2) : tMkO C (spFld K f) [] (tCons te tNil) σ H W := ea_cons h ea_nil H (Le.refl _) _ fun vs es H2 e2 p r => by
  have p' : es = [d0] := p
  subst p'
  obtain ⟨v, rfl, r1⟩ := rps1 r
  refine ⟨by show 1 ≤ 1000; decide, fun a na => ⟨a, C, v, rfl, upd_same, T, hno, fun dx hdx hne => ⟨rfl, dx, [(f, v)], upd_same, ?_, ?_, ?_⟩⟩⟩
  · rw [upd_ne hne, upd_same]
  · rw [upd_ne hne] at hdx
    exact hdx
  · have hd : H2 dx = none := by
      rw [upd_ne hne] at hdx
      exact hdx
    have l2 : Le H2 (upd (del (upd (upd (upd H2 a (exo a C none)) dx (exd dx [(f, v)])) a (exo a C (some dx))) a) dx (.xd [(f, v)])) := Le.ex fun b o hb => by
      have n1 : b ≠ dx := ne_of_none hb hd
      have n2 : b ≠ a := ne_of_none hb na
      rw [upd_ne n1]
      unfold del
      rw [if_neg n2, upd_ne n2, upd_ne n1, upd_ne n2]
      exact hb
    exact k dx v _ (e2.trans l2) upd_same (r1.le l2)
end
/-- a def that may raise -/
def DefX (P : Program) (w : World) (K : PySem.W.Frag) (mg : Str → Option Value) (base : Heap) (k : Nat) (x : Str) (ps : List Str) (sp : Sp) : Prop :=
  ∃ f fd, mg x = some (.ref f) ∧ PySem.W.keepIn K (.ref f) = true ∧ Binds K fd ps [] ∧ FnOk P w K mg base (L2.CX P w) k f fd ps sp
section
variable {P : Program} {w : World} {K : PySem.W.Frag} {mg : Str → Option Value} {base : Heap}
theorem defX {x : Str} {st : Stmt} {N ps : List Str} {k : Nat} {R : List D → Hp → Out → Prop} (g : GDef K mg x st ps) (S : FnScope N ps (defScope st)) (hl : ∀ ds H o, R ds H o → ds.length = ps.length)
    (body : ∀ (cdv : Value) (A : Around) (outer : List Env) (s : Shared) (f : Addr) (H : Hp) (vs : List V) (ds : List D) (o : Out) (Q : VK) (E : XK), Room k (A.deeper (envOfC x (defScope st) s.heap.objs.size f cdv)) → Rps K H vs ds → R ds H o →
      (∀ P, o = .ret P → ∀ v d H2, Le H H2 → P d H2 → Rp K H2 v d → Q v H2) → (∀ C f, o = .err C f → Lets K E H C f) →
      ∃ t, PSs (cxOf (L2.CX P w) P w K mg base N x (defScope st) f cdv A outer s H E) (defBody st) t ∧ t { nx := fun _ H' => Q .non H', rt := Q } (start N vs) H) : DefX P w K mg base (k + 1) x ps (spX K R) := by
  obtain ⟨f, fd, hm, F, hb⟩ := g
  refine ⟨f, fd, hm, F.kp, hb, F.okX S (fun vs H Q E h => ?_) fun cdv A outer s H vs Q E hr h => ?_⟩
  · obtain ⟨ds, o, r, h, _⟩ := h
    rw [r.len]
    exact hl ds H o h
  · obtain ⟨ds, o, r, h, q, l⟩ := h
    exact body cdv A outer s f H vs ds o Q E hr r h q l
end
section
variable {X : Cx} {k : Nat} {x : Str} {ps : List Str} {sp : Sp} {p pos : Pos} {e : Expr} {es : List Expr} {t : TA} {E : XK}
theorem pe_defX (G : DefX X.prog X.w X.K X.mg X.base k x ps sp) (hr : Room k X.A) (hx : Passes (L2.CX X.prog X.w) X E) (ha : PA X (e :: es) t) (hg : Gl X x := by rfl)
    (hdb : (x == ("__debug__" : Str)) = false := by decide) (he : starEach (e :: es) X.env = (false, eval e X.env) :: starEach es X.env := by rfl) (hpl : (backTo pos (starEach es X.env)).any (·.1) = false := by rfl) :
    PE X (.Call (.Name x p) (e :: es) [] pos) (tCall sp [] E t) := by
  obtain ⟨f, fd, hm, hk, hb, F⟩ := G
  exact pe_call F hr hg hm hk hb .nil hx ha hdb he hpl
theorem passF {X : Cx} : Passes (L2.CX X.prog X.w) X (fun _ _ _ => False) := fun pins σ H s e s' I c => by
  obtain ⟨a, B, H', cls, d, _, _, _, _, _, _, _, h⟩ := c
  exact h.elim
end
/-! ### judging -/
def memB : D → Bool
  | .tup xs => btw 1 60 (.int (xs.length : Int)) && xs.all (btw 0 30)
  | _ => false
def ltI : D → D → Bool
  | .int i, .int j => decide (i < j)
  | _, _ => false
def tieB (n : Int) : D → Bool
  | .tup [a, b] => btw 0 (n - 1) a && (btw 0 (n - 1) b && ltI a b)
  | _ => false
def leB (p q : Int × Int) : Bool := if p.1 = q.1 then decide (p.2 ≤ q.2) else decide (p.1 ≤ q.1)
def leT : D → D → Bool
  | .tup [.int a, .int b], .tup [.int c, .int d] => leB (a, b) (c, d)
  | _, _ => false
def okAt (n : Int) (ts : List D) (i : Nat) : Bool := tieB n (ts.getD i .non) && !(decide (0 < i) && leT (ts.getD i .non) (ts.getD (i - 1) .non))
def firstBad (n : Int) (ts : List D) : Option Nat := (List.range ts.length).find? fun i => !okAt n ts i
def lenD : D → Int
  | .tup xs => (xs.length : Int)
  | _ => 0
def tiesPart (n : Int) : D → Option D
  | .tup ts => (firstBad n ts).map fun i => .int (i : Int)
  | _ => some (.str "ties")
def partD (dm dt : D) : Option D := if memB dm = true then tiesPart (lenD dm) dt else some (.str "memories")
theorem btw_int {l m : Int} {d : D} (h : btw l m d = true) : ∃ i, d = .int i ∧ l ≤ i ∧ i ≤ m := by
  cases d with
  | int i =>
    replace h : (decide (l ≤ i) && decide (i ≤ m)) = true := h
    rw [Bool.and_eq_true, decide_eq_true_iff, decide_eq_true_iff] at h
    exact ⟨i, rfl, h.1, h.2⟩
  | _ => cases h
theorem tie_ok {n : Int} {d : D} (h : tieB n d = true) : ∃ p : Int × Int, d = eP p ∧ 0 ≤ p.1 ∧ p.1 < p.2 ∧ p.2 ≤ n - 1 := by
  unfold tieB at h
  split at h
  · rename_i a b
    rw [Bool.and_eq_true, Bool.and_eq_true] at h
    obtain ⟨i, rfl, i0, i1⟩ := btw_int h.1
    obtain ⟨j, rfl, j0, j1⟩ := btw_int h.2.1
    exact ⟨(i, j), rfl, i0, of_decide_eq_true h.2.2, j1⟩
  · cases h
theorem find_some {f : Nat → Bool} : ∀ {n i : Nat}, i < n → (∀ j, j < i → f j = false) → f i = true → (List.range n).find? f = some i
  | 0, _, h, _, _ => absurd h (Nat.not_lt_zero _)
  | n + 1, i, h, h1, h2 => by
    rw [List.range_succ, List.find?_append]
    rcases Nat.lt_succ_iff_lt_or_eq.mp h with h3 | rfl
    · rw [find_some h3 h1 h2]
      rfl
    · have : (List.range i).find? f = none := List.find?_eq_none.mpr fun j hj => by
        rw [h1 j (List.mem_range.mp hj)]
        exact Bool.false_ne_true
      rw [this, List.find?_cons, h2]
      rfl
theorem find_none {f : Nat → Bool} {n : Nat} (h : ∀ j, j < n → f j = false) : (List.range n).find? f = none := List.find?_eq_none.mpr fun j hj => by
  rw [h j (List.mem_range.mp hj)]
  exact Bool.false_ne_true
theorem none_all {f : Nat → Bool} {n : Nat} (h : (List.range n).find? f = none) : ∀ j, j < n → f j = false := fun j hj => by
  have := List.find?_eq_none.mp h j (List.mem_range.mpr hj)
  cases hf : f j with
  | false => rfl
  | true => exact absurd hf this
theorem all_map {xs : List D} {g : D → Bool} : (((xs.filter fun _ => true).map g).all id) = xs.all g := by
  rw [List.filter_eq_self.mpr (fun _ _ => rfl), List.all_map]
  rfl
section
variable {K : PySem.W.Frag} {σ : L2.St} {H : Hp} {ta tb : TE}
theorem ed_leB {p q : Int × Int} (ha : ED K ta σ H (eP p)) (hb : ED K tb σ H (eP q)) : ED K (tOp (rLeT K) ta tb) σ H (.bl (leB p q)) :=
  ed_op ha hb fun x y H2 _ r1 r2 Q q' => by
    obtain ⟨a, xs, rfl, s, rr⟩ := rp_tup r1
    obtain ⟨b, ys, rfl, s2, rr2⟩ := rp_tup r2
    have e1 := ints_rps (ns := [p.1, p.2]) rr
    have e2 := ints_rps (ns := [q.1, q.2]) rr2
    subst e1 e2
    refine ⟨a, b, [p.1, p.2], [q.1, q.2], rfl, rfl, s, s2, ?_⟩
    have e : Ob.lexAt (fun j => decide ([p.1, p.2].getD j 0 = [q.1, q.2].getD j 0)) (fun j => decide ([p.1, p.2].getD j 0 ≤ [q.1, q.2].getD j 0)) (decide ([p.1, p.2].length ≤ [q.1, q.2].length)) 0 (min [p.1, p.2].length [q.1, q.2].length) = leB p q := by
      show (if decide (p.1 = q.1) = true then (if decide (p.2 = q.2) = true then true else decide (p.2 ≤ q.2)) else decide (p.1 ≤ q.1)) = leB p q
      unfold leB
      by_cases h1 : p.1 = q.1
      · rw [if_pos (decide_eq_true h1), if_pos h1]
        by_cases h2 : p.2 = q.2
        · rw [if_pos (decide_eq_true h2)]
          exact (decide_eq_true (by omega)).symm
        · rw [if_neg (by rw [decide_eq_false h2]; exact Bool.false_ne_true)]
      · rw [if_neg (by rw [decide_eq_false h1]; exact Bool.false_ne_true), if_neg h1]
    rw [e]
    exact q' _ _ H2 (Le.refl _) rfl (.bl _)
/-- [f(x) for x in a tuple of things], all of it -/
theorem ed_allT {xs : List D} {g : D → Bool} {te : TE} {j : Nat} {vs : List Nat} (h : ED K ta σ H (.tup xs)) (hz : xs.length ≤ 50000) (hw : ∀ x, wipe ((wipe σ vs).set j (some x)) vs = wipe σ vs)
    (he : ∀ b v H1, Le H H1 → b ∈ xs → Rp K H1 v b → ED K te ((wipe σ vs).set j (some v)) H1 (.bl (g b))) : ED K (tCB (rAll K) (tCons (tLc (iTup K ta) (gName j) tYes te vs) tNil)) σ H (.bl (xs.all g)) := by
  refine ed_eq (ed_all (bs := (xs.filter fun _ => true).map g) (ed_lcT enc_bl (encS := id) xs (fun _ => true) g (by rw [List.map_id]; exact h) hz hw (fun b v H2 e hb r => et_yes) fun b v H2 e hb r _ => he b v H2 e hb r)) ?_
  rw [all_map]
end
section
variable {P : Program} {w : World} {K : PySem.W.Frag} {mg : Str → Option Value} {base : Heap} {CB : Addr}
def R_cmem (CB : Addr) : List D → Hp → Out → Prop := fun ds H o => ∃ d, ds = [d] ∧ Th H d ∧ o = if memB d = true then .ret (is .non) else .err CB (some ("part", .str "memories"))
theorem ok_cmem (T : GTxt mg) (c_BadWeb : FC P w K mg base "BadWeb" "part" CB) (g : GDef K mg "check_memories" s_check_memories ["memories"]) (Gis_between : Def P w K mg base 2 "is_between" ["least", "most", "thing"] (spD K R_btw)) : DefX P w K mg base 3 "check_memories" ["memories"] (spX K (R_cmem CB)) := by
  refine defX g sc_check_memories (fun ds H o h => ?_) fun cdv A outer s f H vs ds o Q E hr r h q l => ?_
  · obtain ⟨d, rfl, _⟩ := h
    rfl
  obtain ⟨d, rfl, ht, ho⟩ := h
  obtain ⟨v1, rfl, r1⟩ := rps1 r
  refine ⟨_, (pss_cons (ps_if (PW.pt (pw_or (pt_not (pt_val (pe_callB (kc_isi (K := K)) (by rfl) T.n_isinstance boot_isinstance (pa_cons (pv 0) (pa_cons (pe_bltn (v := V.ty "tuple") (by rfl) T.n_tuple boot_tuple rfl) pa_nil))))) (pw_or1 (pt_not (pt_val (pe_def Gis_between (hr.mono (by decide)) (pa_cons pe_int (pa_cons (pe_gl T.g_rooms) (pa_cons (pe_callB (kc_len (K := K)) (by rfl) T.n_len boot_len (pa_cons (pv 0) pa_nil)) pa_nil)))))))))
      (pss_one (ps_raise rfl (takes_of rfl rfl rfl rfl) (pmk_fc c_BadWeb (hr.mono (by decide)) pe_str)))
      pss_nil)
    (pss_one (ps_if (pt_not (pt_val (pe_callB (kc_all (K := K) rfl) (by rfl) T.n_all boot_all (pa_cons (pe_lc (own := [("memory", 1)]) rfl sc_check_memories.nd (kpi_tup (K := K) (pv 0)) (blkOk_by (N := N_check_memories) (sc := defScope s_check_memories) (by decide +kernel)) (fun _ _ _ _ _ => (pg_name (i := 1) sc_check_memories.nd rfl (Or.inl rfl))) (fun _ _ _ _ _ => pts_nil) (fun _ _ _ _ _ => (pe_def Gis_between (hr.mono (by decide)) (pa_cons pe_int (pa_cons (pe_gl T.g_memory) (pa_cons (pv 1) pa_nil)))))) pa_nil))))
      (pss_one (ps_raise rfl (takes_of rfl rfl rfl rfl) (pmk_fc c_BadWeb (hr.mono (by decide)) pe_str)))
      pss_nil))), ?_⟩
  have bad : memB d = false → ∀ {σ : L2.St} {H1 : Hp} {D1 : Ends}, Le H H1 → (tMkO CB (spFld K "part") [] (tCons (tC (.str "memories")) tNil)) σ H1 (fun cls d H' => E cls d H') := fun hb σ H1 D1 e => by
    rw [hb, if_neg Bool.false_ne_true] at ho
    exact mkO_lets c_BadWeb.ox c_BadWeb.no ed_str fun dd v H2 e2 h r => l _ _ ho dd v H2 (e.trans e2) h r
  by_cases hd : tupB d = false
  · have hm : memB d = false := by cases d <;> first | rfl | cases hd
    refine q_whenB (b := true) (eb_eq (eb_or (a := true) (b := true) (eb_eq (eb_not (et_B (K := K) (ed_isTup (ed_var rfl r1) ht.tk))) (by rw [hd]; rfl)) fun h => nomatch h) rfl) (fun _ H1 e1 => bad hm (D1 := { nx := fun _ H' => Q .non H', rt := Q }) e1) fun h => nomatch h
  obtain ⟨xs, rfl⟩ : ∃ xs, d = .tup xs := by
    cases d with
    | tup xs => exact ⟨xs, rfl⟩
    | _ => exact absurd rfl hd
  obtain ⟨hz, hi⟩ := ht.items
  refine q_whenB (b := !btw 1 60 (.int (xs.length : Int))) (eb_eq (eb_or (a := false) (eb_eq (eb_not (et_B (K := K) (ed_isTup (ed_var rfl r1) ht.tk))) rfl) fun _ => eb_not (et_B (K := K) (ed_btw ed_int ed_int (ed_lenT (ed_var rfl r1)) rfl))) (Bool.false_or _)) (fun hb H1 e1 => ?_) fun hb H1 e1 => ?_
  · rw [Bool.not_eq_true'] at hb
    exact bad (by show (_ && _) = false; rw [hb]; rfl) (D1 := { nx := fun _ H' => Q .non H', rt := Q }) e1
  · rw [Bool.not_eq_false'] at hb
    refine s_ifB (b := !xs.all (btw 0 30)) (eb_not (et_B (K := K) (ed_allT (g := btw 0 30) (ed_var rfl (r1.le e1)) hz (fun _ => rfl) fun b v H2 e hb r => ed_btwK ed_int ed_int (ed_var rfl r) (((hi b hb).le (e1.trans e)).tk)))) (fun hb2 H2 e2 => ?_) fun hb2 H2 e2 => ?_
    · rw [Bool.not_eq_true'] at hb2
      exact bad (by show (_ && _) = false; rw [hb2, Bool.and_false]) (D1 := { nx := fun _ H' => Q .non H', rt := Q }) (e1.trans e2)
    · rw [Bool.not_eq_false'] at hb2
      have hm : memB (.tup xs) = true := by show (_ && _) = true; rw [hb, hb2]; rfl
      rw [if_pos hm] at ho
      exact q _ ho .non .non H2 (e1.trans e2) rfl .non
def R_istie : List D → Hp → Pd → Prop := fun ds H P => ∃ n d, ds = [.int n, d] ∧ Th H d ∧ P = is (.bl (tieB n d))
theorem ok_istie (T : Txt mg) (g : GDef K mg "is_tie" s_is_tie ["many", "thing"]) (Gis_between : Def P w K mg base 2 "is_between" ["least", "most", "thing"] (spD K R_btw)) : Def P w K mg base 3 "is_tie" ["many", "thing"] (spD K R_istie) := by
  refine defD g sc_is_tie (fun ds H Pd h => ?_) fun cdv A outer s f H vs ds Pd Q E hr r h q => ?_
  · obtain ⟨n, d, rfl, _⟩ := h
    rfl
  obtain ⟨n, d, rfl, ht, rfl⟩ := h
  obtain ⟨v1, v2, rfl, r1, r2⟩ := rps2 r
  refine ⟨_, (pss_cons (ps_if (PW.pt (pw_or (pt_not (pt_val (pe_callB (kc_isi (K := K)) (by rfl) T.n_isinstance boot_isinstance (pa_cons (pv 1) (pa_cons (pe_bltn (v := V.ty "tuple") (by rfl) T.n_tuple boot_tuple rfl) pa_nil))))) (pw_or1 (pt_cmpR op_ne (pe_callB (kc_len (K := K)) (by rfl) T.n_len boot_len (pa_cons (pv 1) pa_nil)) pe_int (nomark _)))))
      (pss_one (ps_ret pe_bl))
      pss_nil)
    (pss_cons (ps_if (pt_not (pt_val (pe_callB (kc_all (K := K) rfl) (by rfl) T.n_all boot_all (pa_cons (pe_lc (own := [("room", 2)]) rfl sc_is_tie.nd (kpi_tup (K := K) (pv 1)) (blkOk_by (N := N_is_tie) (sc := defScope s_is_tie) (by decide +kernel)) (fun _ _ _ _ _ => (pg_name (i := 2) sc_is_tie.nd rfl (Or.inl rfl))) (fun _ _ _ _ _ => pts_nil) (fun _ _ _ _ _ => (pe_def Gis_between (hr.mono (by decide)) (pa_cons pe_int (pa_cons (pe_op op_sub (pv 0) pe_int) (pa_cons (pv 2) pa_nil)))))) pa_nil))))
      (pss_one (ps_ret pe_bl))
      pss_nil)
    (pss_one (ps_ret (pe_cmpR op_lt (pe_ix (kix_tup (K := K)) (pv 1) pe_int (fun _ _ => rfl)) (pe_ix (kix_tup (K := K)) (pv 1) pe_int (fun _ _ => rfl)) (nomark _)))))), ?_⟩
  have no : tieB n d = false → ∀ v H3, Le H H3 → Rp K H3 v (.bl false) → Q v H3 := fun hn v H3 e3 r => q v _ H3 e3 (by show D.bl false = D.bl _; rw [hn]) r
  by_cases hd : tupB d = false
  · refine q_whenB (b := true) (eb_eq (eb_or (a := true) (b := true) (eb_eq (eb_not (et_B (K := K) (ed_isTup (ed_var rfl r2) ht.tk))) (by rw [hd]; rfl)) fun h => nomatch h) rfl) (fun _ H1 e1 => ?_) fun h => nomatch h
    exact s_retD ed_bl fun v H2 e2 r => no (by cases d <;> first | rfl | cases hd) v H2 (e1.trans e2) r
  obtain ⟨xs, rfl⟩ : ∃ xs, d = .tup xs := by
    cases d with
    | tup xs => exact ⟨xs, rfl⟩
    | _ => exact absurd rfl hd
  obtain ⟨hz, hi⟩ := ht.items
  refine q_whenB (b := !decide ((xs.length : Int) = 2)) (eb_eq (eb_or (a := false) (eb_eq (eb_not (et_B (K := K) (ed_isTup (ed_var rfl r2) ht.tk))) rfl) fun _ => eb_eq (et_test (K := K) (ed_neS (d1 := .int (xs.length : Int)) (d2 := .int 2) (ed_lenT (ed_var rfl r2)) ed_int rfl rfl rfl)) (by rw [vs_int])) (Bool.false_or _)) (fun hb H1 e1 => ?_) fun hb H1 e1 => ?_
  · rw [Bool.not_eq_true'] at hb
    have hb := of_decide_eq_false hb
    refine s_retD ed_bl fun v H2 e2 r => no ?_ v H2 (e1.trans e2) r
    match xs, hb with
    | [], _ => rfl
    | [_], _ => rfl
    | [_, _], h => exact absurd rfl h
    | _ :: _ :: _ :: _, _ => rfl
  · rw [Bool.not_eq_false'] at hb
    have hb := of_decide_eq_true hb
    obtain ⟨a, b, rfl⟩ : ∃ a b, xs = [a, b] := by
      match xs, hb with
      | [a, b], _ => exact ⟨a, b, rfl⟩
      | [], h => cases h
      | [_], h => cases h
      | _ :: _ :: _ :: _, h =>
        simp only [List.length_cons] at h
        omega
    refine q_whenB (b := !([a, b].all (btw 0 (n - 1)))) (eb_not (et_B (K := K) (ed_allT (g := btw 0 (n - 1)) (ed_var rfl (r2.le e1)) hz (fun _ => rfl) fun x v H2 e hx r => ed_btwK ed_int (ed_I0 (f := fun i j => i - j) (ed_var rfl (r1.le (e1.trans e))) ed_int) (ed_var rfl r) (((hi x hx).le (e1.trans e)).tk)))) (fun hb2 H2 e2 => ?_) fun hb2 H2 e2 => ?_
    · rw [Bool.not_eq_true'] at hb2
      refine s_retD ed_bl fun v H3 e3 r => no ?_ v H3 ((e1.trans e2).trans e3) r
      replace hb2 : (btw 0 (n - 1) a && (btw 0 (n - 1) b && true)) = false := hb2
      show (btw 0 (n - 1) a && (btw 0 (n - 1) b && ltI a b)) = false
      cases h1 : btw 0 (n - 1) a with
      | false => rfl
      | true =>
        rw [h1] at hb2
        cases h2 : btw 0 (n - 1) b with
        | false => rfl
        | true =>
          rw [h2] at hb2
          cases hb2
    · rw [Bool.not_eq_false'] at hb2
      replace hb2 : (btw 0 (n - 1) a && (btw 0 (n - 1) b && true)) = true := hb2
      rw [Bool.and_eq_true, Bool.and_eq_true] at hb2
      obtain ⟨h1, h2, _⟩ := hb2
      obtain ⟨i, rfl, _⟩ := btw_int h1
      obtain ⟨j, rfl, _⟩ := btw_int h2
      have r2' := r2.le (e1.trans e2)
      refine s_retD (ed_B0 (f := fun i j => decide (i < j)) (i := i) (j := j) (ed_ixT (ds := [_, _]) (ed_var rfl r2') ed_int (by decide) rfl) (ed_ixT (ds := [_, _]) (ed_var rfl r2') ed_int (by decide) rfl)) fun v H3 e3 r => q v _ H3 ((e1.trans e2).trans e3) ?_ r
      show D.bl _ = D.bl (btw 0 (n - 1) (.int i) && (btw 0 (n - 1) (.int j) && ltI (.int i) (.int j)))
      rw [h1, h2]
      rfl
def R_cties (CB : Addr) : List D → Hp → Out → Prop := fun ds H o => ∃ n d, ds = [.int n, d] ∧ Th H d ∧ o = match tiesPart n d with | none => .ret (is .non) | some p => .err CB (some ("part", p))
theorem ok_cties (T : GTxt mg) (c_BadWeb : FC P w K mg base "BadWeb" "part" CB) (g : GDef K mg "check_ties" s_check_ties ["many", "ties"]) (Gis_tie : Def P w K mg base 3 "is_tie" ["many", "thing"] (spD K R_istie)) : DefX P w K mg base 4 "check_ties" ["many", "ties"] (spX K (R_cties CB)) := by
  refine defX g sc_check_ties (fun ds H o h => ?_) fun cdv A outer s f H vs ds o Q E hr r h q l => ?_
  · obtain ⟨n, d, rfl, _⟩ := h
    rfl
  obtain ⟨n, d, rfl, ht, ho⟩ := h
  obtain ⟨v1, v2, rfl, r1, r2⟩ := rps2 r
  refine ⟨_, (pss_cons (ps_if (pt_not (pt_val (pe_callB (kc_isi (K := K)) (by rfl) T.n_isinstance boot_isinstance (pa_cons (pv 1) (pa_cons (pe_bltn (v := V.ty "tuple") (by rfl) T.n_tuple boot_tuple rfl) pa_nil)))))
      (pss_one (ps_raise rfl (takes_of rfl rfl rfl rfl) (pmk_fc c_BadWeb (hr.mono (by decide)) pe_str)))
      pss_nil)
    (pss_one (ps_for (passes_of rfl) rfl (kpi_enumT (K := K) (by rfl) T.n_enumerate (pa_cons (pv 1) pa_nil)) (kpg_tup (K := K) (n := 2) rfl (pgs_cons (pg_name (i := 2) sc_check_ties.nd rfl (Or.inl rfl)) (pgs_cons (pg_name (i := 3) sc_check_ties.nd rfl (Or.inl rfl)) pgs_nil)))
      (pss_cons (ps_if (pt_not (pt_val (pe_def Gis_tie (hr.mono (by decide)) (pa_cons (pv 0) (pa_cons (pv 3) pa_nil)))))
      (pss_one (ps_raise rfl (takes_of rfl rfl rfl rfl) (pmk_fc c_BadWeb (hr.mono (by decide)) (pv 2))))
      pss_nil)
    (pss_one (ps_if (PW.pt (pw_and (pt_cmpR op_gt (pv 2) pe_int (nomark _)) (pw_and1 (pt_cmpR (kop_leT (K := K) hr.units0) (pv 3) (pe_ix (kix_tup (K := K)) (pv 1) (pe_op op_sub (pv 2) pe_int) (fun _ _ => rfl)) (nomark _)))))
      (pss_one (ps_raise rfl (takes_of rfl rfl rfl rfl) (pmk_fc c_BadWeb (hr.mono (by decide)) (pv 2))))
      pss_nil)))))), ?_⟩
  have bad : ∀ {p : D} {te : TE} {σ : L2.St} {H1 : Hp}, tiesPart n d = some p → Le H H1 → ED K te σ H1 p → (tMkO CB (spFld K "part") [] (tCons te tNil)) σ H1 (fun cls d H' => E cls d H') := fun {p te σ H1} hp e h => by
    rw [hp] at ho
    exact mkO_lets c_BadWeb.ox c_BadWeb.no h fun dd v H2 e2 h r => l _ _ ho dd v H2 (e.trans e2) h r
  by_cases hd : tupB d = false
  · refine q_whenB (b := true) (eb_eq (eb_not (et_B (K := K) (ed_isTup (ed_var rfl r2) ht.tk))) (by rw [hd]; rfl)) (fun _ H1 e1 => bad (by cases d <;> first | rfl | cases hd) e1 ed_str) fun h => nomatch h
  obtain ⟨ts, rfl⟩ : ∃ ts, d = .tup ts := by
    cases d with
    | tup ts => exact ⟨ts, rfl⟩
    | _ => exact absurd rfl hd
  obtain ⟨hz, hi⟩ := ht.items
  refine q_no (b := false) (eb_eq (eb_not (et_B (K := K) (ed_isTup (ed_var rfl r2) ht.tk))) rfl) rfl fun H1 e1 => ?_
  refine s_forE (K := K) (ds := ts) (ea_cons (ed_var rfl (r2.le e1)) ea_nil) (fun d hd => (hi d hd).noL) fun H2 e2 => ?_
  refine ⟨fun i σ H' => ∃ y1 y2, σ = [some v1, some v2, y1, y2] ∧ Le H2 H' ∧ ∀ j, j < i → okAt n ts j = true, ⟨none, none, rfl, Le.refl _, fun j h => absurd h (Nat.not_lt_zero _)⟩, fun i σ H' _ ⟨_, _, _, e, _⟩ => e.t, ?_, ?_⟩
  · rintro i d v σ' H' H3 hd ⟨y1, y2, rfl, e, hok⟩ e3 rv
    have hil : i < ts.length := (List.getElem?_eq_some_iff.mp hd).1
    have gi : ts.getD i .non = d := by rw [List.getD_eq_getElem?_getD, hd]; rfl
    have e03 := ((e1.trans e2).trans e).trans e3
    have td : Th H3 d := (hi d (List.mem_of_getElem? hd)).le e03
    refine ⟨rfl, ?_⟩
    have bad2 : okAt n ts i = false → tiesPart n (.tup ts) = some (.int (i : Int)) := fun hb => by
      unfold tiesPart firstBad
      dsimp only
      rw [find_some hil (fun j hj => by rw [hok j hj]; rfl) (by rw [hb]; rfl)]
      rfl
    refine q_whenB (b := !tieB n d) (eb_not (et_B (K := K) (ed_call (ea_cons (ed_var rfl (r1.le e03)) (ea_cons (ed_var rfl rv) ea_nil)) fun H4 e4 => ⟨n, d, rfl, td.le e4, rfl⟩))) (fun hb H4 e4 => ?_) fun hb H4 e4 => ?_
    · rw [Bool.not_eq_true'] at hb
      exact bad (bad2 (by unfold okAt; rw [gi, hb]; rfl)) (e03.trans e4) (ed_var rfl (.int (i : Int)))
    · rw [Bool.not_eq_false'] at hb
      obtain ⟨p, rfl, p0, p1, p2⟩ := tie_ok hb
      refine s_ifB (b := decide (0 < i) && leT (ts.getD i .non) (ts.getD (i - 1) .non)) (eb_and (a := decide (0 < i)) (eb_eq (et_test (K := K) (ed_B0 (f := fun i j => decide (j < i)) (i := (i : Int)) (j := 0) (ed_var rfl (.int (i : Int))) ed_int)) (by rw [decide_eq_decide]; omega)) fun h0 => ?_) (fun hb2 H5 e5 => ?_) fun hb2 H5 e5 => ?_
      · have h0 := of_decide_eq_true h0
        obtain ⟨d0, hd0⟩ : ∃ d0, ts[i - 1]? = some d0 := ⟨ts[i - 1], List.getElem?_eq_getElem (by omega)⟩
        have g0 : ts.getD (i - 1) .non = d0 := by rw [List.getD_eq_getElem?_getD, hd0]; rfl
        have ok0 := hok (i - 1) (by omega)
        unfold okAt at ok0
        rw [Bool.and_eq_true, g0] at ok0
        obtain ⟨p', rfl, _⟩ := tie_ok ok0.1
        rw [gi, g0]
        refine et_test (K := K) (ed_eq (ed_leB (p := p) (q := p') (ed_var rfl (rv.le e4)) (ed_ixT (ds := ts) (ed_var rfl (r2.le (e03.trans e4))) (ed_I0 (f := fun i j => i - j) (ed_var rfl (.int (i : Int))) ed_int) (by omega) ?_)) rfl)
        have en : ((i : Int) - 1).toNat = i - 1 := by omega
        rw [en]
        exact hd0
      · exact bad (bad2 (by unfold okAt; rw [hb2]; exact Bool.and_false _)) ((e03.trans e4).trans e5) (ed_var rfl (.int (i : Int)))
      · refine ⟨_, _, rfl, ((e.trans e3).trans e4).trans e5, fun j hj => ?_⟩
        rcases Nat.lt_succ_iff_lt_or_eq.mp hj with h | rfl
        · exact hok j h
        · unfold okAt
          rw [hb2, gi, hb]
          rfl
  · rintro σ' H' ⟨y1, y2, rfl, e, hok⟩
    have hn : tiesPart n (.tup ts) = none := by
      unfold tiesPart firstBad
      dsimp only
      rw [find_none fun j hj => by rw [hok j hj]; rfl]
      rfl
    rw [hn] at ho
    exact q _ ho .non .non H' ((e1.trans e2).trans e) rfl .non
end
end W1

set_option maxRecDepth 100000
set_option maxHeartbeats 4000000
namespace W1
open PySem PyProof.Rows L2
local macro_rules | `(tactic| walk_at "rp") => `(tactic| first | assumption | exact Rp.int _ | exact Rp.bl _ | exact Rp.str _ | exact Rp.non | exact Rp.obj _ | (refine Rp.le (by assumption) ?_; walk_at "rp"))
local macro_rules | `(tactic| walk_at "ed") => `(tactic| first
  | exact ed_int | exact ed_str | exact ed_bl | exact ed_non
  | (refine ed_var rfl ?_; walk_at "rp")
  | (refine ed_ixT (ds := [_, _]) ?_ ed_int (by decide) rfl; walk_at "ed")
  | (refine ed_I0 ?_ ?_ <;> walk_at "ed")
  | (refine ed_B0 ?_ ?_ <;> walk_at "ed")
  | (refine ed_eqS ?_ ?_ rfl rfl rfl <;> walk_at "ed")
  | assumption)
local macro_rules | `(tactic| walk_at "ea") => `(tactic| first | exact ea_nil | (refine ea_cons ?_ ?_; walk_at "ed"; walk_at "ea"))

abbrev s_Web___init__ : Stmt := inClass (topS 14) 0
abbrev N_Web___init__ : List Str := ["self", "memories", "ties"]
theorem sc_Web___init__ : FnScope N_Web___init__ ["self", "memories", "ties"] (defScope s_Web___init__) := ⟨rfl, rfl, rfl, by decide +kernel, rfl, by decide +kernel, by decide +kernel⟩
abbrev s__law_made : Stmt := topS 55
abbrev N__law_made : List Str := ["_law_parts_here"]
theorem sc__law_made : FnScope N__law_made ["_law_parts_here"] (defScope s__law_made) := ⟨rfl, rfl, rfl, by decide +kernel, rfl, by decide +kernel, by decide +kernel⟩
abbrev s_is_room : Stmt := topS 19
abbrev N_is_room : List Str := ["web", "thing"]
theorem sc_is_room : FnScope N_is_room ["web", "thing"] (defScope s_is_room) := ⟨rfl, rfl, rfl, by decide +kernel, rfl, by decide +kernel, by decide +kernel⟩
abbrev s_check_room : Stmt := topS 20
abbrev N_check_room : List Str := ["web", "room"]
theorem sc_check_room : FnScope N_check_room ["web", "room"] (defScope s_check_room) := ⟨rfl, rfl, rfl, by decide +kernel, rfl, by decide +kernel, by decide +kernel⟩
abbrev s_tied : Stmt := topS 21
abbrev N_tied : List Str := ["web", "room"]
theorem sc_tied : FnScope N_tied ["web", "room"] (defScope s_tied) := ⟨rfl, rfl, rfl, by decide +kernel, rfl, by decide +kernel, by decide +kernel⟩
theorem map_inj2 {α β : Type} {f : α → β} (h : ∀ a b, f a = f b → a = b) : ∀ {xs ys : List α}, xs.map f = ys.map f → xs = ys
  | [], [], _ => rfl
  | [], y :: ys, e => by
    rw [List.map_cons] at e
    cases e
  | x :: xs, [], e => by
    rw [List.map_cons] at e
    cases e
  | x :: xs, y :: ys, e => by
    rw [List.map_cons, List.map_cons] at e
    injection e with e1 e2
    rw [h _ _ e1, map_inj2 h e2]
/-! ### parts judged -/
theorem ints_of {l m : Int} : ∀ {xs : List D}, xs.all (btw l m) = true → ∃ ms : List Int, xs = ms.map .int ∧ ∀ z ∈ ms, l ≤ z ∧ z ≤ m
  | [], _ => ⟨[], rfl, fun z h => nomatch h⟩
  | x :: xs, h => by
    rw [List.all_cons, Bool.and_eq_true] at h
    obtain ⟨i, rfl, h1, h2⟩ := btw_int h.1
    obtain ⟨ms, rfl, h3⟩ := ints_of h.2
    refine ⟨i :: ms, rfl, fun z hz => ?_⟩
    rcases List.mem_cons.mp hz with rfl | hz
    · exact ⟨h1, h2⟩
    · exact h3 z hz
theorem ties_of {n : Int} : ∀ {xs : List D}, (∀ d ∈ xs, tieB n d = true) → ∃ ties : List (Int × Int), xs = ties.map eP ∧ ∀ p ∈ ties, 0 ≤ p.1 ∧ p.1 < p.2 ∧ p.2 ≤ n - 1
  | [], _ => ⟨[], rfl, fun z h => nomatch h⟩
  | x :: xs, h => by
    obtain ⟨p, rfl, h1⟩ := tie_ok (h x (List.mem_cons_self ..))
    obtain ⟨ties, rfl, h3⟩ := ties_of fun d hd => h d (List.mem_cons_of_mem _ hd)
    refine ⟨p :: ties, rfl, fun z hz => ?_⟩
    rcases List.mem_cons.mp hz with rfl | hz
    · exact h1
    · exact h3 z hz
theorem ltP_trans {p q r : Int × Int} (a : ltP p q) (b : ltP q r) : ltP p r := by
  unfold ltP at *
  omega
theorem leB_lt {p q : Int × Int} (h : leB p q = false) : ltP q p := by
  unfold leB at h
  split at h
  · have := of_decide_eq_false h
    exact .inr ⟨by omega, by omega⟩
  · have := of_decide_eq_false h
    exact .inl (by omega)
theorem lt_leB {p q : Int × Int} (h : ltP q p) : leB p q = false := by
  unfold leB
  split
  · refine decide_eq_false ?_
    unfold ltP at h
    omega
  · refine decide_eq_false ?_
    unfold ltP at h
    omega
theorem chain_up {l : List (Int × Int)} (h : ∀ (i : Nat) p q, l[i]? = some p → l[i + 1]? = some q → ltP p q) : ∀ (k i : Nat) p q, l[i]? = some p → l[i + k + 1]? = some q → ltP p q
  | 0, i, p, q, h1, h2 => h i p q h1 h2
  | k + 1, i, p, q, h1, h2 => by
    have hl := (List.getElem?_eq_some_iff.mp h2).1
    obtain ⟨r, hr⟩ : ∃ r, l[i + k + 1]? = some r := ⟨l[i + k + 1], List.getElem?_eq_getElem (by omega)⟩
    exact ltP_trans (chain_up h k i p r h1 hr) (h (i + k + 1) r q hr h2)
theorem sub_sorted : ∀ (b a : List (Int × Int)), a.Pairwise ltP → b.Pairwise ltP → (∀ x ∈ a, x ∈ b) → a.Sublist b
  | [], a, _, _, h => by
    cases a with
    | nil => exact .slnil
    | cons x a => exact absurd (h x (List.mem_cons_self ..)) (fun h => nomatch h)
  | y :: b, [], _, _, _ => List.nil_sublist _
  | y :: b, x :: a, ha, hb, h => by
    obtain ⟨a1, a2⟩ := List.pairwise_cons.mp ha
    obtain ⟨b1, b2⟩ := List.pairwise_cons.mp hb
    by_cases e : x = y
    · subst e
      refine (sub_sorted b a a2 b2 fun z hz => ?_).cons₂ x
      rcases List.mem_cons.mp (h z (List.mem_cons_of_mem _ hz)) with rfl | h1
      · have := a1 z hz
        unfold ltP at this
        omega
      · exact h1
    · have hx : x ∈ b := by
        rcases List.mem_cons.mp (h x (List.mem_cons_self ..)) with h1 | h1
        · exact absurd h1 e
        · exact h1
      have yx := b1 x hx
      refine (sub_sorted b (x :: a) ha b2 fun z hz => ?_).cons y
      rcases List.mem_cons.mp (h z hz) with rfl | h1
      · rcases List.mem_cons.mp hz with h2 | h2
        · exact absurd h2.symm e
        · have := a1 z h2
          unfold ltP at this yx
          omega
      · exact h1
theorem parts_of {ms : List Int} {ties : List (Int × Int)} (h1 : 1 ≤ ms.length) (h2 : ms.length ≤ 60) (h3 : ∀ m ∈ ms, 0 ≤ m ∧ m ≤ 30) (h4 : ∀ p ∈ ties, 0 ≤ p.1 ∧ p.1 < p.2 ∧ p.2 ≤ (ms.length : Int) - 1) (h5 : ties.Pairwise ltP) : PartsOk ms ties :=
  ⟨h1, h2, h3, sub_sorted _ _ h5 (pairs_up ms.length ms.length) fun p hp => mem_pairsL.mpr (by have := h4 p hp; omega)⟩
theorem part_good {dm dt : D} (h : partD dm dt = none) : ∃ ms ties, dm = .tup (List.map D.int ms) ∧ dt = .tup (List.map eP ties) ∧ PartsOk ms ties := by
  unfold partD at h
  split at h
  · rename_i hm
    cases dm with
    | tup xs =>
      replace hm : (btw 1 60 (.int (xs.length : Int)) && xs.all (btw 0 30)) = true := hm
      rw [Bool.and_eq_true] at hm
      obtain ⟨ms, rfl, h3⟩ := ints_of hm.2
      obtain ⟨i, e, h1, h2⟩ := btw_int hm.1
      injection e with e
      rw [List.length_map] at e
      subst e
      cases dt with
      | tup ts =>
        unfold tiesPart at h
        dsimp only at h
        have hb : firstBad (lenD (.tup (ms.map .int))) ts = none := by
          cases hf : firstBad (lenD (.tup (ms.map .int))) ts with
          | none => rfl
          | some i =>
            rw [hf] at h
            cases h
        have hn : lenD (.tup (ms.map .int)) = (ms.length : Int) := by
          show ((ms.map D.int).length : Int) = _
          rw [List.length_map]
        rw [hn] at hb
        have all := none_all hb
        have ok : ∀ j, j < ts.length → okAt (ms.length : Int) ts j = true := fun j hj => by
          have := all j hj
          rw [Bool.not_eq_false'] at this
          exact this
        obtain ⟨ties, rfl, h4⟩ := ties_of (n := (ms.length : Int)) (xs := ts) fun d hd => by
          obtain ⟨j, hj⟩ := List.mem_iff_getElem?.mp hd
          have := ok j (List.getElem?_eq_some_iff.mp hj).1
          unfold okAt at this
          rw [Bool.and_eq_true, List.getD_eq_getElem?_getD, hj] at this
          exact this.1
        have up : ties.Pairwise ltP := by
          have ch := chain_up (l := ties) fun i p q hp hq => by
            have hl := (List.getElem?_eq_some_iff.mp hq).1
            have := ok (i + 1) (by rw [List.length_map]; exact hl)
            unfold okAt at this
            rw [Bool.and_eq_true, Bool.not_eq_true', decide_eq_true (Nat.succ_pos i), Bool.true_and, Nat.add_sub_cancel, List.getD_eq_getElem?_getD, List.getD_eq_getElem?_getD, map_get hp, map_get hq] at this
            exact leB_lt this.2
          rw [List.pairwise_iff_getElem]
          intro i j hi hj hij
          refine ch (j - i - 1) i _ _ (List.getElem?_eq_getElem hi) ?_
          rw [show i + (j - i - 1) + 1 = j by omega]
          exact List.getElem?_eq_getElem hj
        exact ⟨ms, ties, rfl, rfl, parts_of (by omega) (by omega) h3 h4 up⟩
      | _ => cases h
    | _ => cases hm
  · cases h
theorem mem_good {ms : List Int} (h1 : 1 ≤ ms.length) (h2 : ms.length ≤ 60) (h3 : ∀ m ∈ ms, 0 ≤ m ∧ m ≤ 30) : memB (.tup (ms.map .int)) = true := by
  show (btw 1 60 (.int ((ms.map D.int).length : Int)) && (ms.map D.int).all (btw 0 30)) = true
  rw [List.length_map, Bool.and_eq_true]
  refine ⟨?_, ?_⟩
  · show (decide _ && decide _) = true
    rw [decide_eq_true (by omega), decide_eq_true (by omega)]
    rfl
  · rw [List.all_eq_true]
    intro d hd
    obtain ⟨z, hz, rfl⟩ := List.mem_map.mp hd
    have := h3 z hz
    show (decide _ && decide _) = true
    rw [decide_eq_true (by omega), decide_eq_true (by omega)]
    rfl
theorem part_none {ms : List Int} {ties : List (Int × Int)} (ok : PartsOk ms ties) : partD (.tup (ms.map .int)) (.tup (ties.map eP)) = none := by
  unfold partD
  rw [if_pos (mem_good ok.some ok.few ok.mem)]
  have hn : lenD (.tup (ms.map .int)) = (ms.length : Int) := by
    show ((ms.map D.int).length : Int) = _
    rw [List.length_map]
  rw [hn]
  unfold tiesPart firstBad
  dsimp only
  rw [find_none fun j hj => ?_]
  · rfl
  rw [Bool.not_eq_false']
  rw [List.length_map] at hj
  have hp : ties[j]? = some ties[j] := List.getElem?_eq_getElem hj
  obtain ⟨t0, t1, t2⟩ := ok.tie (List.mem_of_getElem? hp)
  unfold okAt
  rw [List.getD_eq_getElem?_getD, map_get hp, Bool.and_eq_true]
  refine ⟨?_, ?_⟩
  · show (btw 0 ((ms.length : Int) - 1) (.int ties[j].1) && (btw 0 ((ms.length : Int) - 1) (.int ties[j].2) && decide (ties[j].1 < ties[j].2))) = true
    show ((decide _ && decide _) && ((decide _ && decide _) && decide _)) = true
    rw [decide_eq_true (by omega), decide_eq_true (by omega), decide_eq_true (by omega), decide_eq_true (by omega), decide_eq_true t1]
    rfl
  · cases j with
    | zero => rfl
    | succ i =>
      have hq : ties[i]? = some ties[i] := List.getElem?_eq_getElem (by omega)
      rw [Nat.add_sub_cancel, List.getD_eq_getElem?_getD, map_get hq]
      show (!(decide (0 < i + 1) && leB (ties[i + 1].1, ties[i + 1].2) (ties[i].1, ties[i].2))) = true
      have := List.pairwise_iff_getElem.mp ok.up i (i + 1) (by omega) hj (by omega)
      rw [lt_leB (p := (ties[i + 1].1, ties[i + 1].2)) (q := (ties[i].1, ties[i].2)) this, Bool.and_false]
      rfl
theorem th_ints {H : Hp} {ns : List Int} (h : ns.length ≤ 50000) : Th H (.tup (ns.map .int)) := .tup (by rw [List.length_map]; exact h) fun d hd => by
  obtain ⟨z, _, rfl⟩ := List.mem_map.mp hd
  exact .sc rfl
theorem th_P {H : Hp} (p : Int × Int) : Th H (eP p) := .tup (by show 2 ≤ 50000; decide) fun d hd => by
  simp only [List.mem_cons, List.not_mem_nil, or_false] at hd
  rcases hd with rfl | rfl <;> exact .sc rfl
theorem th_ties {H : Hp} {ties : List (Int × Int)} (h : ties.length ≤ 50000) : Th H (.tup (ties.map eP)) := .tup (by rw [List.length_map]; exact h) fun d hd => by
  obtain ⟨p, _, rfl⟩ := List.mem_map.mp hd
  exact th_P p
section
variable {K : PySem.W.Frag} {H H' : Hp}
/-- what no data names may change: an instance -/
theorem sqt_ins {a l C dx : Addr} {fs : List (Str × V)} {xs : List V} {o : HO} (hl : H l = some (.ins C dx fs)) (h : SqT K H a xs) : SqT K (upd H l o) a xs :=
  sqt_upd (fun ys e => by rw [hl] at e; cases e) (fun ob u e => by rw [hl] at e; cases e) h
mutual
theorem Rp.ins {l C dx : Addr} {fs : List (Str × V)} {o : HO} (hl : H l = some (.ins C dx fs)) {v : V} {d : D} : Rp K H v d → Rp K (L2.upd H l o) v d
  | .non => .non
  | .bl b => .bl b
  | .int i => .int i
  | .str x => .str x
  | .obj v => .obj v
  | .tup h r => .tup (sqt_ins hl h) (Rps.ins hl r)
  | .lst (a := a) h n r => .lst (by
      have ne : a ≠ l := fun e => by
        rw [e, hl] at h
        cases h
      rw [upd_ne ne]
      exact h) n (Rps.ins hl r)
theorem Rps.ins {l C dx : Addr} {fs : List (Str × V)} {o : HO} (hl : H l = some (.ins C dx fs)) {vs : List V} {ds : List D} : Rps K H vs ds → Rps K (L2.upd H l o) vs ds
  | .nil => .nil
  | .cons h r => .cons (Rp.ins hl h) (Rps.ins hl r)
end
end
structure WebAt (K : PySem.W.Frag) (C : Addr) (H : Hp) (a : Addr) (ms : List Int) (ties : List (Int × Int)) : Prop where
  ob : ∃ dx m t n, H a = some (.ins C dx (webFs m t n)) ∧ Rp K H m (.tup (ms.map .int)) ∧ Rp K H t (.tup (ties.map eP)) ∧ Rp K H n (nearD ms ties)
theorem WebAt.le {K : PySem.W.Frag} {C a : Addr} {H H' : Hp} {ms : List Int} {ties : List (Int × Int)} (e : Le H H') (x : WebAt K C H a ms ties) : WebAt K C H' a ms ties := by
  obtain ⟨dx, m, t, n, h, h1, h2, h3⟩ := x
  exact ⟨dx, m, t, n, e.ins h, h1.le e, h2.le e, h3.le e⟩
section
variable {K : PySem.W.Frag} {σ : L2.St} {H H' : Hp} {C a : Addr} {ms : List Int} {ties : List (Int × Int)} {te : TE}
theorem ed_mem (T : WTxt K C) (x : WebAt K C H a ms ties) (h : ED K te σ H (.obj (.ref a))) : ED K (tFld K te "memories") σ H (.tup (ms.map .int)) := fun H1 e Q q => h H1 e _ fun v d H2 e2 p r => by
  have p' : d = .obj (.ref a) := p
  subst p'
  have ev := rp_obj r
  subst ev
  obtain ⟨dx, m, t, n, h, h1, h2, h3⟩ := x.le (e.trans e2)
  exact ⟨a, C, dx, _, _, rfl, h, T.cl, T.nM, web_m m t n, q _ _ H2 e2 rfl h1⟩
theorem ed_near (T : WTxt K C) (x : WebAt K C H a ms ties) (h : ED K te σ H (.obj (.ref a))) : ED K (tFld K te "near") σ H (nearD ms ties) := fun H1 e Q q => h H1 e _ fun v d H2 e2 p r => by
  have p' : d = .obj (.ref a) := p
  subst p'
  have ev := rp_obj r
  subst ev
  obtain ⟨dx, m, t, n, h, h1, h2, h3⟩ := x.le (e.trans e2)
  exact ⟨a, C, dx, _, _, rfl, h, T.cl, T.nN, web_n m t n, q _ _ H2 e2 rfl h3⟩

theorem ed_ties (T : WTxt K C) (x : WebAt K C H a ms ties) (h : ED K te σ H (.obj (.ref a))) : ED K (tFld K te "ties") σ H (.tup (ties.map eP)) := fun H1 e Q q => h H1 e _ fun v d H2 e2 p r => by
  have p' : d = .obj (.ref a) := p
  subst p'
  have ev := rp_obj r
  subst ev
  obtain ⟨dx, m, t, n, h, h1, h2, h3⟩ := x.le (e.trans e2)
  exact ⟨a, C, dx, _, _, rfl, h, T.cl, T.nT, web_t m t n, q _ _ H2 e2 rfl h2⟩
def spWebX (K : PySem.W.Frag) (C CB : Addr) : Sp := fun vs H Q E => ∃ a dx v1 v2 dm dt, vs = [.ref a, v1, v2] ∧ H a = some (.ins C dx []) ∧ Rp K H v1 dm ∧ Rp K H v2 dt ∧ Th H dm ∧ Th H dt ∧
  (∀ ms ties, dm = .tup (List.map D.int ms) → dt = .tup (List.map eP ties) → PartsOk ms ties → ∀ H', (∀ H0, Le H0 H → H0 a = none → Le H0 H') → WebAt K C H' a ms ties → Q .non H') ∧
  (∀ p, partD dm dt = some p → Lets K E H CB (some ("part", p)))
end
section
variable {X : Cx} {E : XK}
theorem passUp {P : Program} {w : World} {K : PySem.W.Frag} {mg : Str → Option Value} {base : Heap} {N : List Str} {x : Str} {sc : Scope} {f : Addr} {cdv : Value} {A : Around} {outer : List Env} {s : Shared} {H : Hp} :
    Passes (L2.CX P w) (cxOf (L2.CX P w) P w K mg base N x sc f cdv A outer s H E) E := passes_call (takes_of rfl rfl rfl rfl) (fun _ _ _ _ h => h)
end
section
variable {P : Program} {w : World} {K : PySem.W.Frag} {mg : Str → Option Value} {base : Heap} {C CB : Addr}
theorem ok_web {f : Addr} {fd : FuncData} (T : GTxt mg) (W : WTxt K C) (F : Fun K "__init__" "Web.__init__" s_Web___init__ f fd) (Gcheck_memories : DefX P w K mg base 3 "check_memories" ["memories"] (spX K (R_cmem CB)))
    (Gcheck_ties : DefX P w K mg base 4 "check_ties" ["many", "ties"] (spX K (R_cties CB))) (Gnear_lots : Def P w K mg base 1 "near_lots" ["many", "ties"] (spD K R_nlots)) : FnOk P w K mg base (L2.CX P w) 5 f fd ["self", "memories", "ties"] (spWebX K C CB) := by
  refine F.okX sc_Web___init__ (fun vs H Q E h => ?_) (fun cdv A outer s H vs Q E hr h => ?_)
  · obtain ⟨a, dx, v1, v2, dm, dt, rfl, _⟩ := h
    rfl
  obtain ⟨a, dx, v1, v2, dm, dt, rfl, ha, r1, r2, t1, t2, q, l⟩ := h
  refine ⟨_, (pss_cons (ps_expr (pe_defX Gcheck_memories (hr.mono (by decide)) passUp (pa_cons (pv 1) pa_nil)))
    (pss_cons (ps_expr (pe_defX Gcheck_ties (hr.mono (by decide)) passUp (pa_cons (pe_callB (kc_len (K := K)) (by rfl) T.n_len boot_len (pa_cons (pv 1) pa_nil)) (pa_cons (pv 2) pa_nil))))
    (pss_cons (ps_fld (pv 0) (pv 1) rfl)
    (pss_cons (ps_fld (pv 0) (pv 2) rfl)
    (pss_one (ps_fld (pv 0) (pe_def Gnear_lots (hr.mono (by decide)) (pa_cons (pe_callB (kc_len (K := K)) (by rfl) T.n_len boot_len (pa_cons (pv 1) pa_nil)) (pa_cons (pv 2) pa_nil))) rfl)))))), ?_⟩
  by_cases hm : memB dm = false
  · refine er_callX (K := K) (ea_cons (ed_var rfl r1) ea_nil) (fun H2 e2 => ⟨dm, rfl, t1.le e2, by rw [hm]; rfl⟩) (l _ ?_) _
    unfold partD
    rw [hm]
    rfl
  rw [Bool.not_eq_false] at hm
  refine q_drop (K := K) (P := is .non) (ep_callX (ea_cons (ed_var rfl r1) ea_nil) fun H1 e1 => ⟨dm, rfl, t1.le e1, by rw [if_pos hm]⟩) fun H1 e1 => ?_
  obtain ⟨xs, rfl⟩ : ∃ xs, dm = .tup xs := by
    cases dm with
    | tup xs => exact ⟨xs, rfl⟩
    | _ => cases hm
  have hlen : ∀ {H1 : Hp} {σ : L2.St}, Rp K H1 v1 (.tup xs) → σ[1]? = some (some v1) → ED K (tCB (fun xs H Q => ∃ p ys, xs = [.ref p] ∧ (SqL K H p ys ∨ SqT K H p ys) ∧ Q (.int ys.length) H) (tCons (tVar 1) tNil)) σ H1 (.int (xs.length : Int)) := fun r h0 => ed_lenT (ed_var h0 r)
  have hp : partD (.tup xs) dt = tiesPart (xs.length : Int) dt := by
    unfold partD
    rw [if_pos hm]
    rfl
  cases ht : tiesPart (xs.length : Int) dt with
  | some p =>
    exact er_callX (K := K) (ea_cons (hlen (r1.le e1) rfl) (ea_cons (ed_var rfl (r2.le e1)) ea_nil)) (fun H2 e2 => ⟨_, dt, rfl, t2.le (e1.trans e2), by rw [ht]⟩) ((l p (by rw [hp, ht])).le e1) _
  | none =>
  obtain ⟨ms, ties, em, rfl, ok⟩ := part_good (dm := .tup xs) (dt := dt) (by rw [hp, ht])
  injection em with em
  subst em
  rw [List.length_map] at hlen
  refine q_drop (K := K) (P := is .non) (ep_callX (ea_cons (hlen (r1.le e1) rfl) (ea_cons (ed_var rfl (r2.le e1)) ea_nil)) fun H2 e2 => ⟨_, .tup (List.map eP ties), rfl, t2.le (e1.trans e2), by rw [List.length_map] at ht; rw [ht]⟩) fun H2 e2 => ?_
  have a2 := (e1.trans e2).ins ha
  refine ⟨_, rfl, _, rfl, a, C, dx, [], rfl, a2, W.cl, W.nM, (by show 0 < 1000; decide), ?_⟩
  refine ⟨_, rfl, _, rfl, a, C, dx, _, rfl, upd_same, W.cl, W.nT, (by show 1 < 1000; decide), ?_⟩
  have r1' := ((r1.le (e1.trans e2)).ins a2 (o := .ins C dx (putF "memories" v1 []))).ins upd_same (o := .ins C dx (putF "ties" v2 (putF "memories" v1 [])))
  have r2' := ((r2.le (e1.trans e2)).ins a2 (o := .ins C dx (putF "memories" v1 []))).ins upd_same (o := .ins C dx (putF "ties" v2 (putF "memories" v1 [])))
  refine ed_call (K := K) (P := is (nearD ms ties)) (ea_cons (hlen r1' rfl) (ea_cons (ed_var rfl r2') ea_nil)) (fun H3 _ => ⟨ms, ties, rfl, ok, rfl⟩) _ (Le.refl _) _ fun v d H3 e3 p r3 => ?_
  have p' : d = nearD ms ties := p
  subst p'
  have a3 := e3.ins upd_same
  refine ⟨_, rfl, a, C, dx, _, rfl, a3, W.cl, W.nN, ?_, ?_⟩
  · show (putF "ties" v2 (putF "memories" v1 [])).length < 1000
    show ((if ("memories" : Str) = "ties" then [(("memories" : Str), v2)] else (("memories" : Str), v1) :: putF "ties" v2 []) : List (Str × V)).length < 1000
    rw [if_neg mt_]
    show 2 < 1000
    decide
  · refine q ms ties rfl rfl ok _ (fun H0 e0 h0 => ?_) ⟨dx, v1, v2, v, upd_same, (r1'.le e3).ins a3, (r2'.le e3).ins a3, r3.ins a3⟩
    exact ((((e0.trans (e1.trans e2)).mut h0).mut h0).trans e3).mut h0
structure WMk (P : Program) (w : World) (K : PySem.W.Frag) (mg : Str → Option Value) (base : Heap) (C CB : Addr) : Prop where
  mgC : mg "Web" = some (.ref C)
  ex : ∃ f fd, Mk K C f ∧ FnOk P w K mg base (L2.CX P w) 5 f fd ["self", "memories", "ties"] (spWebX K C CB) ∧ Binds K fd ["self", "memories", "ties"] []
section
variable {X : Cx} {E : XK} {e : Expr} {es : List Expr} {t : TA} {p pos : Pos}
theorem pe_mkW (M : WMk X.prog X.w X.K X.mg X.base C CB) (hr : Room 6 X.A) (hx : Passes (L2.CX X.prog X.w) X E) (ha : PA X (e :: es) t) (hg : Gl X "Web" := by rfl)
    (he : starEach (e :: es) X.env = (false, eval e X.env) :: starEach es X.env := by rfl) (hpl : (backTo pos (starEach es X.env)).any (·.1) = false := by rfl) (h : X.K = K := by rfl) :
    PE X (.Call (.Name "Web" p) (e :: es) [] pos) (tMake C (spWebX K C CB) [] E t) := by
  subst h
  obtain ⟨fi, fdi, mk, F, hb⟩ := M.ex
  exact pe_make mk F hr hg M.mgC hb .nil hx ha (by decide) he hpl
end
section
variable {σ : L2.St} {H : Hp} {A : TA} {E : XK} {ms : List Int} {ties : List (Int × Int)} {dm dt : D}
theorem ep_mkW (hA : EDA K A σ H [.tup (List.map D.int ms), .tup (List.map eP ties)]) (ok : PartsOk ms ties) : EP K (tMake C (spWebX K C CB) [] E A) σ H (fun d H => ∃ a, d = .obj (.ref a) ∧ WebAt K C H a ms ties) := fun H1 e Q q => hA H1 e _ fun vs es H2 e2 p rr => by
  have p' : es = [.tup (ms.map .int), .tup (ties.map eP)] := p
  subst p'
  obtain ⟨w1, w2, rfl, q1, q2⟩ := rps2 rr
  intro x dx hx hdx hne
  have l1 : Le H2 (upd (upd H2 dx (.own x)) x (.ins C dx [])) := (Le.new hdx).mut hx
  refine ⟨x, dx, w1, w2, _, _, rfl, upd_same, q1.le l1, q2.le l1, th_ints (by have := ok.few; omega), th_ties (by have := ok.len; omega), fun ms' ties' e1 e2' ok' H3 k W => ⟨rfl, ?_⟩, fun p hp => ?_⟩
  · injection e1 with e1
    injection e2' with e2'
    have g1 : ms = ms' := map_inj2 (fun a b h => by injection h) e1
    have g2 : ties = ties' := map_inj2 (fun a b h => by
      injection h with h
      injection h with h1 h2
      injection h1 with h1
      injection h2 with h2 _
      injection h2 with h2
      exact Prod.ext h1 h2) e2'
    subst g1 g2
    exact q _ (.obj (.ref x)) H3 (e2.trans (k _ l1 hx)) ⟨x, rfl, W⟩ (.obj _)
  · rw [part_none ok] at hp
    cases hp
theorem er_mkW {p : D} (hA : EDA K A σ H [dm, dt]) (t1 : Th H dm) (t2 : Th H dt) (hp : partD dm dt = some p) (l : Lets K E H CB (some ("part", p))) (Q : VK) : tMake C (spWebX K C CB) [] E A σ H Q := hA H (Le.refl _) _ fun vs es H2 e2 p0 rr => by
  have p' : es = [dm, dt] := p0
  subst p'
  obtain ⟨w1, w2, rfl, q1, q2⟩ := rps2 rr
  intro x dx hx hdx hne
  have l1 : Le H2 (upd (upd H2 dx (.own x)) x (.ins C dx [])) := (Le.new hdx).mut hx
  refine ⟨x, dx, w1, w2, _, _, rfl, upd_same, q1.le l1, q2.le l1, t1.le (e2.trans l1), t2.le (e2.trans l1), fun ms' ties' e1 e2' ok' H3 k W => ?_, fun p1 hp1 => ?_⟩
  · subst e1 e2'
    rw [part_none ok'] at hp
    cases hp
  · rw [hp] at hp1
    cases hp1
    exact l.le (e2.trans l1)
end
def R_made (K : PySem.W.Frag) (C : Addr) : List D → Hp → Pd → Prop := fun ds _ P => ∃ ms ties, ds = [eW ms ties] ∧ PartsOk ms ties ∧ P = fun d H => ∃ a, d = .obj (.ref a) ∧ WebAt K C H a ms ties
theorem ok_made (M : WMk P w K mg base C CB) (g : GDef K mg "_law_made" s__law_made ["_law_parts_here"]) : Def P w K mg base 7 "_law_made" ["_law_parts_here"] (spD K (R_made K C)) := by
  refine defD g sc__law_made (fun ds H Pd h => ?_) fun cdv A outer s f H vs ds Pd Q E hr r h q => ?_
  · obtain ⟨ms, ties, rfl, _⟩ := h
    rfl
  obtain ⟨ms, ties, rfl, ok, rfl⟩ := h
  obtain ⟨v1, rfl, r1⟩ := rps1 r
  refine ⟨_, (pss_one (ps_ret (pe_mkW (K := K) M (hr.mono (by decide)) passF (pa_cons (pe_ix (kix_tup (K := K)) (pv 0) pe_int (fun _ _ => rfl)) (pa_cons (pe_ix (kix_tup (K := K)) (pv 0) pe_int (fun _ _ => rfl)) pa_nil))))), ?_⟩
  exact s_ret (K := K) (ep_mkW (ea_cons (ed_ixT (ds := [_, _]) (ed_var rfl r1) ed_int (by decide) rfl) (ea_cons (ed_ixT (ds := [_, _]) (ed_var rfl r1) ed_int (by decide) rfl) ea_nil)) ok) fun v d H1 e1 p r => q v d H1 e1 p r
def R_isroom (K : PySem.W.Frag) (C : Addr) : List D → Hp → Pd → Prop := fun ds H P => ∃ a ms ties d, ds = [.obj (.ref a), d] ∧ WebAt K C H a ms ties ∧ Tk H d ∧ P = is (.bl (btw 0 ((ms.length : Int) - 1) d))
theorem ok_isroom (T : GTxt mg) (W : WTxt K C) (g : GDef K mg "is_room" s_is_room ["web", "thing"]) (Gis_between : Def P w K mg base 2 "is_between" ["least", "most", "thing"] (spD K R_btw)) : Def P w K mg base 3 "is_room" ["web", "thing"] (spD K (R_isroom K C)) := by
  refine defD g sc_is_room (fun ds H Pd h => ?_) fun cdv A outer s f H vs ds Pd Q E hr r h q => ?_
  · obtain ⟨a, ms, ties, d, rfl, _⟩ := h
    rfl
  obtain ⟨a, ms, ties, d, rfl, x, hk, rfl⟩ := h
  obtain ⟨v1, v2, rfl, r1, r2⟩ := rps2 r
  refine ⟨_, (pss_one (ps_ret (pe_def Gis_between (hr.mono (by decide)) (pa_cons pe_int (pa_cons (pe_op op_sub (pe_callB (kc_len (K := K)) (by rfl) T.n_len boot_len (pa_cons (kpe_fld (K := K) (pv 0) rfl) pa_nil)) pe_int) (pa_cons (pv 1) pa_nil)))))), ?_⟩
  refine s_retD (ed_eq (ed_btwK ed_int (ed_I0 (f := fun i j => i - j) (ed_lenT (ed_mem W x (ed_var rfl r1))) ed_int) (ed_var rfl r2) hk) ?_) fun v H1 e1 r => q v _ H1 e1 rfl r
  rw [List.length_map]
theorem btw_room {n r : Int} (h0 : 0 ≤ r) (h1 : r < n) : btw 0 (n - 1) (.int r) = true := by
  show (decide _ && decide _) = true
  rw [decide_eq_true h0, decide_eq_true (by omega)]
  rfl
def R_chroom (K : PySem.W.Frag) (C : Addr) : List D → Hp → Pd → Prop := fun ds H P => ∃ a ms ties r, ds = [.obj (.ref a), .int r] ∧ WebAt K C H a ms ties ∧ 0 ≤ r ∧ r < ms.length ∧ P = is .non
theorem ok_chroom (g : GDef K mg "check_room" s_check_room ["web", "room"]) (Gis_room : Def P w K mg base 3 "is_room" ["web", "thing"] (spD K (R_isroom K C))) : Def P w K mg base 4 "check_room" ["web", "room"] (spD K (R_chroom K C)) := by
  refine defD g sc_check_room (fun ds H Pd h => ?_) fun cdv A outer s f H vs ds Pd Q E hr r h q => ?_
  · obtain ⟨a, ms, ties, r, rfl, _⟩ := h
    rfl
  obtain ⟨a, ms, ties, rm, rfl, x, h0, h1, rfl⟩ := h
  obtain ⟨v1, v2, rfl, r1, r2⟩ := rps2 r
  refine ⟨_, (pss_one (ps_if (pt_not (pt_val (pe_def Gis_room (hr.mono (by decide)) (pa_cons (pv 0) (pa_cons (pv 1) pa_nil)))))
      (pss_one ps_never)
      pss_nil)), ?_⟩
  exact s_no (eb_not (et_B (K := K) (b := true) (ed_call (ea_cons (ed_var rfl r1) (ea_cons (ed_var rfl r2) ea_nil)) fun H1 e1 => ⟨a, ms, ties, .int rm, rfl, x.le e1, .inl rfl, by rw [btw_room h0 h1]⟩))) rfl fun H1 e1 => q _ .non H1 e1 rfl .non
def R_tied (K : PySem.W.Frag) (C : Addr) : List D → Hp → Pd → Prop := fun ds H P => ∃ a ms ties r, ds = [.obj (.ref a), .int r] ∧ WebAt K C H a ms ties ∧ 0 ≤ r ∧ r < ms.length ∧ P = is (.tup ((rawNear ties r).map .int))
theorem ok_tied (W : WTxt K C) (g : GDef K mg "tied" s_tied ["web", "room"]) (Gcheck_room : Def P w K mg base 4 "check_room" ["web", "room"] (spD K (R_chroom K C))) : Def P w K mg base 5 "tied" ["web", "room"] (spD K (R_tied K C)) := by
  refine defD g sc_tied (fun ds H Pd h => ?_) fun cdv A outer s f H vs ds Pd Q E hr r h q => ?_
  · obtain ⟨a, ms, ties, r, rfl, _⟩ := h
    rfl
  obtain ⟨a, ms, ties, rm, rfl, x, h0, h1, rfl⟩ := h
  obtain ⟨v1, v2, rfl, r1, r2⟩ := rps2 r
  refine ⟨_, (pss_cons (ps_expr (pe_def Gcheck_room (hr.mono (by decide)) (pa_cons (pv 0) (pa_cons (pv 1) pa_nil))))
    (pss_one (ps_ret (pe_ix (kix_tup (K := K)) (kpe_fld (K := K) (pv 0) rfl) (pv 1) (fun _ _ => rfl))))), ?_⟩
  refine q_drop (K := K) (P := is .non) (ed_call (ea_cons (ed_var rfl r1) (ea_cons (ed_var rfl r2) ea_nil)) fun H1 e1 => ⟨a, ms, ties, rm, rfl, x.le e1, h0, h1, rfl⟩) fun H1 e1 => ?_
  refine s_retD (d := .tup ((rawNear ties rm).map .int)) (ed_ixT (K := K) (ed_near W (x.le e1) (ed_var rfl (r1.le e1))) (ed_var rfl (r2.le e1)) h0 ?_) fun v H2 e2 r => q v _ H2 (e1.trans e2) rfl r
  rw [List.getElem?_map, List.getElem?_range (by omega)]
  have er : ((rm.toNat : Nat) : Int) = rm := by omega
  show some (D.tup ((rawNear ties ((rm.toNat : Nat) : Int)).map .int)) = _
  rw [er]
end
end W1

set_option maxRecDepth 100000
set_option maxHeartbeats 4000000
/-! the makers' ties, as mathematics -/
namespace W1
open PySem PyProof.Rows L2
theorem uniq_sorted {a b : List (Int × Int)} (ha : a.Pairwise W1.ltP) (hb : b.Pairwise W1.ltP) (h : ∀ x, x ∈ a ↔ x ∈ b) : a = b :=
  (sub_sorted b a ha hb fun x hx => (h x).mp hx).eq_of_length_le (sub_sorted a b hb ha fun x hx => (h x).mpr hx).length_le
theorem strict_of {l : List (Int × Int)} (hs : l.Pairwise fun p q => SrtO.lexB q p = false) (nd : l.Nodup) : l.Pairwise W1.ltP := by
  refine (List.Pairwise.and hs nd).imp fun {p q} h => ?_
  have h1 := SrtO.lexB_no.mp h.1
  have h2 : p ≠ q := h.2
  unfold W1.ltP
  by_cases e1 : p.1 = q.1
  · by_cases e2 : p.2 = q.2
    · exact absurd (Prod.ext e1 e2) h2
    · omega
  · omega
theorem up_nd {l : List (Int × Int)} (h : l.Pairwise W1.ltP) : l.Nodup := h.imp fun {p q} h e => by
  subst e
  unfold W1.ltP at h
  omega
/-- the ties in order -/
structure Srt (l L : List (Int × Int)) : Prop where
  perm : l.Perm L
  up : l.Pairwise fun p q => SrtO.lexB q p = false
theorem Srt.uniq {l L m : List (Int × Int)} (h : Srt l L) (nd : L.Nodup) (hm : m.Pairwise W1.ltP) (he : ∀ x, x ∈ m ↔ x ∈ L) : l = m :=
  uniq_sorted (strict_of h.up (h.perm.nodup_iff.mpr nd)) hm fun x => h.perm.mem_iff.trans (he x).symm
theorem Srt.strict {l L : List (Int × Int)} (h : Srt l L) (nd : L.Nodup) : l.Pairwise W1.ltP := strict_of h.up (h.perm.nodup_iff.mpr nd)
theorem Srt.same {l m L : List (Int × Int)} (h : Srt l L) (h2 : Srt m L) (nd : L.Nodup) : l = m := h.uniq nd (h2.strict nd) fun x => h2.perm.mem_iff
/-! rows -/
def rowL (n : Nat) : List (Int × Int) := (List.range (n - 1)).map fun i : Nat => ((i : Int), (i : Int) + 1)
theorem mem_rowL {n : Nat} {p : Int × Int} : p ∈ rowL n ↔ 0 ≤ p.1 ∧ p.2 = p.1 + 1 ∧ p.2 < n := by
  unfold rowL
  rw [List.mem_map]
  constructor
  · rintro ⟨i, hi, rfl⟩
    rw [List.mem_range] at hi
    dsimp only
    omega
  · rintro ⟨h1, h2, h3⟩
    refine ⟨p.1.toNat, List.mem_range.mpr (by omega), Prod.ext ?_ ?_⟩
    · dsimp only
      omega
    · dsimp only
      omega
theorem up_rowL (n : Nat) : (rowL n).Pairwise W1.ltP := by
  unfold rowL
  rw [List.pairwise_map]
  exact (List.pairwise_lt_range).imp fun {a b} h => .inl (by dsimp only; omega)
theorem len_rowL (n : Nat) : (rowL n).length = n - 1 := by
  unfold rowL
  rw [List.length_map, List.length_range]
/-! rings -/
def ringL (n : Nat) : List (Int × Int) := rowL n ++ [(0, (n : Int) - 1)]
theorem nd_ringL {n : Nat} (h : 3 ≤ n) : (ringL n).Nodup := by
  unfold ringL
  rw [List.nodup_append]
  refine ⟨up_nd (up_rowL n), by simp, fun a ha b hb e => ?_⟩
  rw [List.mem_singleton.mp hb] at e
  subst e
  have := mem_rowL.mp ha
  dsimp only at this
  omega
theorem mem_ringL {n : Nat} (h : 3 ≤ n) {p : Int × Int} (hp : p ∈ ringL n) : 0 ≤ p.1 ∧ p.1 < p.2 ∧ p.2 < n := by
  rcases List.mem_append.mp hp with h1 | h1
  · have := mem_rowL.mp h1
    omega
  · rw [List.mem_singleton.mp h1]
    dsimp only
    omega
/-! grids -/
def besL (w : Int) (N : Nat) : List (Int × Int) := ((List.range N).filter fun i : Nat => !decide ((((i : Nat) : Int) + 1).fmod w = 0)).map fun i : Nat => ((i : Int), (i : Int) + 1)
def belL (w : Int) (N : Nat) : List (Int × Int) := (List.range ((N : Int) - w).toNat).map fun i : Nat => ((i : Int), (i : Int) + w)
def gridB (w : Int) (p : Int × Int) : Bool := decide (p.2 - p.1 = w) || (decide (p.2 - p.1 = 1) && decide (0 < p.2.fmod w))
theorem mem_besL {w : Int} {N : Nat} {p : Int × Int} (hw : 1 ≤ w) (hN : (N : Int).fmod w = 0) : p ∈ besL w N ↔ 0 ≤ p.1 ∧ p.2 = p.1 + 1 ∧ p.2 < N ∧ p.2.fmod w ≠ 0 := by
  unfold besL
  rw [List.mem_map]
  constructor
  · rintro ⟨i, hi, rfl⟩
    rw [List.mem_filter, List.mem_range, Bool.not_eq_true', decide_eq_false_iff_not] at hi
    dsimp only
    refine ⟨by omega, rfl, ?_, hi.2⟩
    have : (i : Int) + 1 ≠ N := fun e => hi.2 (by rw [e]; exact hN)
    omega
  · rintro ⟨h1, h2, h3, h4⟩
    have e1 : ((p.1.toNat : Nat) : Int) = p.1 := by omega
    refine ⟨p.1.toNat, ?_, Prod.ext ?_ ?_⟩
    · rw [List.mem_filter, List.mem_range, Bool.not_eq_true', decide_eq_false_iff_not, e1, ← h2]
      exact ⟨by omega, h4⟩
    · dsimp only
      omega
    · dsimp only
      omega
theorem mem_belL {w : Int} {N : Nat} {p : Int × Int} (hw : 1 ≤ w) : p ∈ belL w N ↔ 0 ≤ p.1 ∧ p.2 = p.1 + w ∧ p.2 < N := by
  unfold belL
  rw [List.mem_map]
  constructor
  · rintro ⟨i, hi, rfl⟩
    rw [List.mem_range] at hi
    dsimp only
    omega
  · rintro ⟨h1, h2, h3⟩
    refine ⟨p.1.toNat, List.mem_range.mpr (by omega), Prod.ext ?_ ?_⟩
    · dsimp only
      omega
    · dsimp only
      omega
theorem up_besL (w : Int) (N : Nat) : (besL w N).Pairwise W1.ltP := by
  unfold besL
  rw [List.pairwise_map]
  exact ((List.pairwise_lt_range).filter _).imp fun {a b} h => .inl (by dsimp only; omega)
theorem up_belL (w : Int) (N : Nat) : (belL w N).Pairwise W1.ltP := by
  unfold belL
  rw [List.pairwise_map]
  exact (List.pairwise_lt_range).imp fun {a b} h => .inl (by dsimp only; omega)
theorem fmod_pos {a w : Int} (hw : 1 ≤ w) : 0 ≤ a.fmod w ∧ a.fmod w < w := by
  rw [Int.fmod_eq_emod_of_nonneg a (by omega)]
  exact ⟨Int.emod_nonneg _ (by omega), Int.emod_lt_of_pos _ (by omega)⟩
theorem nd_gridL {w : Int} {N : Nat} (hw : 1 ≤ w) (hN : (N : Int).fmod w = 0) : (besL w N ++ belL w N).Nodup := by
  rw [List.nodup_append]
  refine ⟨up_nd (up_besL w N), up_nd (up_belL w N), fun a ha b hb e => ?_⟩
  subst e
  obtain ⟨h1, h2, h3, h4⟩ := (mem_besL hw hN).mp ha
  obtain ⟨_, h5, _⟩ := (mem_belL hw).mp hb
  have ew : w = 1 := by omega
  subst ew
  have := fmod_pos (a := a.2) (w := 1) (by omega)
  omega
theorem grid_same {w : Int} {N : Nat} (hw : 1 ≤ w) (hN : (N : Int).fmod w = 0) (x : Int × Int) : x ∈ (pairsL N).filter (gridB w) ↔ x ∈ besL w N ++ belL w N := by
  rw [List.mem_filter, mem_pairsL, List.mem_append, mem_besL hw hN, mem_belL hw]
  unfold gridB
  rw [Bool.or_eq_true, Bool.and_eq_true, decide_eq_true_iff, decide_eq_true_iff, decide_eq_true_iff]
  have := fmod_pos (a := x.2) hw
  constructor
  · rintro ⟨⟨h1, h2, h3⟩, h4⟩
    rcases h4 with h4 | ⟨h4, h5⟩
    · exact .inr ⟨h1, by omega, h3⟩
    · exact .inl ⟨h1, by omega, h3, by omega⟩
  · rintro (⟨h1, h2, h3, h4⟩ | ⟨h1, h2, h3⟩)
    · exact ⟨⟨h1, by omega, h3⟩, .inr ⟨by omega, by omega⟩⟩
    · exact ⟨⟨h1, by omega, h3⟩, .inl (by omega)⟩
theorem up_filter {n : Nat} {f : Int × Int → Bool} : ((pairsL n).filter f).Pairwise W1.ltP := (pairs_up n n).filter f
theorem grid_eq {w : Int} {N : Nat} {l : List (Int × Int)} (hw : 1 ≤ w) (hN : (N : Int).fmod w = 0) (h : Srt l (besL w N ++ belL w N)) : l = (pairsL N).filter (gridB w) := h.uniq (nd_gridL hw hN) up_filter (grid_same hw hN)
/-! sides -/
def sidesF : Int → List Int → List Int
  | _, [] => []
  | k, s :: r => List.replicate s.toNat k ++ sidesF (k + 1) r
theorem sidesF_app : ∀ (k : Int) (a b : List Int), sidesF k (a ++ b) = sidesF k a ++ sidesF (k + (a.length : Int)) b
  | k, [], b => by
    show _ = [] ++ sidesF (k + ((0 : Nat) : Int)) b
    rw [List.nil_append, List.nil_append]
    congr 1
    omega
  | k, s :: a, b => by
    show List.replicate s.toNat k ++ sidesF (k + 1) (a ++ b) = (List.replicate s.toNat k ++ sidesF (k + 1) a) ++ sidesF (k + ((a.length + 1 : Nat) : Int)) b
    rw [sidesF_app (k + 1) a b, List.append_assoc]
    congr 3
    omega
theorem sidesF_len : ∀ (k : Int) (a : List Int), (∀ s ∈ a, 0 ≤ s) → ((sidesF k a).length : Int) = a.sum
  | k, [], _ => rfl
  | k, s :: a, h => by
    show (((List.replicate s.toNat k ++ sidesF (k + 1) a).length : Nat) : Int) = s + a.sum
    rw [List.length_append, List.length_replicate]
    have := sidesF_len (k + 1) a fun x hx => h x (List.mem_cons_of_mem _ hx)
    have := h s (List.mem_cons_self ..)
    omega
def sideB (S : List Int) (p : Int × Int) : Bool := !decide (S.getD p.1.toNat 0 = S.getD p.2.toNat 0)
def rowS (S : List Int) (i : Nat) : List (Int × Int) := ((List.range S.length).filter fun j : Nat => decide ((i : Int) < (j : Int)) && sideB S ((i : Int), (j : Int))).map fun j : Nat => ((i : Int), (j : Int))
def prodL (S : List Int) (n : Nat) : List (Int × Int) := (List.range n).flatMap (rowS S)
theorem mem_rowS {S : List Int} {i : Nat} {p : Int × Int} : p ∈ rowS S i ↔ p.1 = i ∧ p.1 < p.2 ∧ p.2 < S.length ∧ sideB S p = true := by
  unfold rowS
  rw [List.mem_map]
  constructor
  · rintro ⟨j, hj, rfl⟩
    rw [List.mem_filter, List.mem_range, Bool.and_eq_true, decide_eq_true_iff] at hj
    exact ⟨rfl, hj.2.1, by dsimp only; omega, hj.2.2⟩
  · rintro ⟨h1, h2, h3, h4⟩
    have e2 : ((p.2.toNat : Nat) : Int) = p.2 := by omega
    refine ⟨p.2.toNat, ?_, Prod.ext h1.symm e2⟩
    rw [List.mem_filter, List.mem_range, Bool.and_eq_true, decide_eq_true_iff, e2, ← h1]
    exact ⟨by omega, h2, h4⟩
theorem up_prodL (S : List Int) : ∀ n, (prodL S n).Pairwise W1.ltP
  | 0 => by
    unfold prodL
    simp
  | n + 1 => by
    unfold prodL
    rw [List.range_succ, List.flatMap_append, List.pairwise_append]
    refine ⟨up_prodL S n, ?_, fun a ha b hb => ?_⟩
    · rw [List.flatMap_cons, List.flatMap_nil, List.append_nil]
      unfold rowS
      rw [List.pairwise_map]
      exact ((List.pairwise_lt_range).filter _).imp fun {a b} h => .inr ⟨rfl, by dsimp only; omega⟩
    · rw [List.flatMap_cons, List.flatMap_nil, List.append_nil] at hb
      obtain ⟨i, hi, ha⟩ := List.mem_flatMap.mp ha
      have h1 := (mem_rowS.mp ha).1
      have h2 := (mem_rowS.mp hb).1
      have := List.mem_range.mp hi
      exact .inl (by omega)
theorem prod_eq (S : List Int) : prodL S S.length = (pairsL S.length).filter (sideB S) := uniq_sorted (up_prodL S _) up_filter fun x => by
  unfold prodL
  rw [List.mem_flatMap, List.mem_filter, mem_pairsL]
  constructor
  · rintro ⟨i, hi, hx⟩
    obtain ⟨h1, h2, h3, h4⟩ := mem_rowS.mp hx
    exact ⟨⟨by omega, h2, h3⟩, h4⟩
  · rintro ⟨⟨h1, h2, h3⟩, h4⟩
    exact ⟨x.1.toNat, List.mem_range.mpr (by omega), mem_rowS.mpr ⟨by omega, h2, h3, h4⟩⟩
theorem len_filter {n : Nat} {f : Int × Int → Bool} (h : n ≤ 60) : ((pairsL n).filter f).length ≤ 3600 := Nat.le_trans (List.length_filter_le _ _) (pairs_len (n := n) (i := n) (Nat.le_refl _) h)
/-! webs of one memory -/
theorem parts_rep {n : Nat} {m : Int} {ties : List (Int × Int)} (h1 : 1 ≤ n) (h2 : n ≤ 60) (m0 : 0 ≤ m) (m1 : m ≤ 30) (h4 : ∀ p ∈ ties, 0 ≤ p.1 ∧ p.1 < p.2 ∧ p.2 < n) (h5 : ties.Pairwise W1.ltP) : PartsOk (List.replicate n m) ties :=
  parts_of (by rw [List.length_replicate]; exact h1) (by rw [List.length_replicate]; exact h2) (fun z hz => by rw [List.eq_of_mem_replicate hz]; exact ⟨m0, m1⟩) (fun p hp => by rw [List.length_replicate]; have := h4 p hp; omega) h5
end W1

set_option maxRecDepth 100000
set_option maxHeartbeats 4000000
/-! ranges as values, walked; comprehensions of two clauses -/
namespace L2
open PySem PySem.Spec PyProof.Rows
section
variable {X : Cx} {tg : Expr}
theorem cr_range1 : CallR X (.type "range") (fun vs H Q => ∃ j, vs = [V.int j] ∧ ∀ p, H p = none → Q (.ref p) (upd H p (.rng 0 j))) := by
  intro pins s σ H vs us Q I r h
  obtain ⟨j, rfl, q⟩ := h
  cases r with
  | cons ri rr =>
    cases rr
    obtain ⟨t, rfl⟩ := ri
    refine call_range_1 ⟨.ref s.heap.objs.size, upd H s.heap.objs.size (.rng 0 j), I.laid (t' := s.toks + 1 + 1) (fun b o e => Heap.get?_push_of_some _ e) (Nat.le_refl _) ?_, rfl, q _ (I.hok.fresh (Nat.le_refl _))⟩
    exact ⟨_, _, _, Heap.get?_push_size _ rfl⟩
def iRngV (tl : TE) : TI := fun σ H R => tl σ H fun x H1 => ∃ (a : Addr) (lo hi : Int), x = .ref a ∧ H1 a = some (.rng lo hi) ∧ (-(2 ^ 62) ≤ lo ∧ lo < 2 ^ 62 ∧ -(2 ^ 62) ≤ hi ∧ hi < 2 ^ 62) ∧ R (Itr lo (hi - lo).toNat) H1
theorem pi_rngV {l : Expr} {tl : TE} (hl : PE X l tl) : PI X tg l (iRngV tl) := by
  refine ⟨fun pins s σ H R I h => ?_⟩
  refine thn (hl.run pins s σ H _ I h) fun w s1 ⟨x, H1, I1, r1, q1⟩ => ?_
  obtain ⟨a, lo, hi, e, ha, ⟨h1, h2, h3, h4⟩, q⟩ := q1
  subst e
  cases r1
  obtain ⟨t, u, v, ho⟩ := I1.hok a _ ha
  refine wpAny_pyIter_range (t := t) (u := u) (v := v) ho (small_one h1 h2 h3 h4) ?_
  refine ⟨s1.heap.objs.size, [s1.heap.objs.size], _, _, H1, rfl, I1.kept (t' := s1.toks) fun b o e => Heap.get?_push_of_some _ e, turn_range _ lo (hi - lo).toNat, ?_, fun b hb => ?_, q⟩
  · have e1 : lo + ((0 : Nat) : Int) * 1 = lo := by simp
    have e2 : (((hi - lo).toNat : Nat) : Int) - ((0 : Nat) : Int) = Builtin.Range.rangeSize lo hi 1 := by rw [rangeSize_one]; split <;> omega
    show IsRangeIter _ _ (lo + ((0 : Nat) : Int) * 1) ((((hi - lo).toNat : Nat) : Int) - ((0 : Nat) : Int)) 1
    rw [e1, e2]
    exact Heap.get?_push_size _ rfl
  · have e : b = s1.heap.objs.size := by simpa using hb
    subst e
    exact I1.fpOk (Nat.le_refl _) (I1.hok.fresh (Nat.le_refl _))
end
section
variable {X : Cx}
/-- sum of a tuple of ints -/
def rSumT (K : PySem.W.Frag) : List V → Hp → VK → Prop := fun vs H Q => ∃ (a : Addr) (ns : List Int), vs = [V.ref a] ∧ SqT K H a (ns.map V.int) ∧ Q (.int ns.sum) H
theorem cr_sumT (hc : X.calm = true) : CallR X (.builtin "sum") (rSumT X.K) := by
  intro pins s σ H vs us Q I r h
  obtain ⟨a, ns, rfl, hs, q⟩ := h
  obtain ⟨its, rv, ht, hz⟩ := I.tuple hs
  rw [Vals.ref1 r]
  have hi : IntsAre its ns := rv.ints
  obtain ⟨xs, e⟩ := hi.allInts.items
  have hn : numsOf (intItems xs).toList = ns := by rw [← e]; exact hi.numsOf
  rw [nums_intItems] at hn
  have hl : s.heap.IsTuple a its.toArray := ht
  rw [e] at hl
  refine PySem.W.ktm_sumG (I.ok.hd hc) hl fun h' tk t' hk => ?_
  have q' : EP X pins σ Q (.int ns.sum t') { s with heap := h', toks := tk } := ⟨.int _, H, I.kept hk, ⟨_, rfl⟩, q⟩
  rw [preSum_eq, List.take_of_length_le (by simp), hn]
  exact q'
/-- sorted, of pairs of ints -/
def rSortedPT (K : PySem.W.Frag) : List V → Hp → VK → Prop := fun vs H Q => ∃ (a : Addr) (xs : List V) (k : V → Int × Int), vs = [V.ref a] ∧ SqL K H a xs ∧ (∀ x ∈ xs, ∃ t, x = V.ref t ∧ SqT K H t [.int (k x).1, .int (k x).2]) ∧
  ∀ ys p, SrtO.Srtd (L2.ltP k) ys → SrtO.Stb (L2.ltP k) ys xs → H p = none → Q (.ref p) (upd H p (.lst ys))
theorem cr_sortedPT : CallR X (.builtin "sorted") (rSortedPT X.K) := by
  intro pins s σ H vs us Q I r h
  obtain ⟨a, xs, k, rfl, hs, hx, q⟩ := h
  obtain ⟨its, rv, hl, hz⟩ := I.list hs
  obtain ⟨u, rfl, ru⟩ := vals1 r
  obtain rfl : u = Value.ref a := ru
  obtain ⟨e1, e2⟩ := refs_back rv fun x m => by
    obtain ⟨t, e, _⟩ := hx x m
    exact ⟨t, e⟩
  refine SrtO.sorted_pairsO (k := fun u => k (backV u)) hl.isList (by rw [← rv.length]; exact hz) (fun v hv => ?_) fun h' d out h1 h2 kp hd hn => ?_
  · obtain ⟨t, rfl⟩ := e2 v hv
    have hm : V.ref t ∈ xs := by rw [e1]; exact List.mem_map.mpr ⟨_, hv, rfl⟩
    obtain ⟨t', e, ht⟩ := hx _ hm
    cases e
    obtain ⟨its2, r2, ⟨o, ho, hc, n, hd⟩, _⟩ := I.tuple ht
    obtain ⟨u1, u2, rfl, ri, rj⟩ := vals2 r2
    obtain ⟨t1, rfl⟩ := ri
    obtain ⟨t2, rfl⟩ := rj
    exact ⟨t, o, t1, t2, n, rfl, ho, hc, hd⟩
  · have h3 : ∀ u ∈ out, ∃ a, u = Value.ref a := fun u hu => e2 u (h2.perm.mem_iff.mp hu)
    obtain ⟨n, hn⟩ := hn
    have hb : SrtO.Stb (L2.ltP k) (out.map backV) xs := by
      rw [e1]
      exact SrtO.Stb.map (ltP_swo k) backV h2
    refine ⟨.ref d, upd H d (.lst (out.map backV)), I.laid (t' := s.toks) kp hd ⟨?_, out, n, vals_back h3, hn⟩, rfl, q _ d (SrtO.srtd_map h1) hb (I.hok.fresh hd)⟩
    rw [hb.len]
    exact hz
end
/-! two clauses -/
section
variable {J J1 : It} {n n1 : Nat} {G G1 : Hp → Prop} {Y Y1 : Nat → Hp → V → Hp → Prop}
/-- what is to be reached from within the second clause's walk -/
def Lc2In (J1 : It) (g1 : TG) (tt1 : TT) (te : TE) (vs1 : List Nat) (D : Addr) (σ2 : St) (Nx : Hp → Prop) : Hp → Prop := fun H4 => ∃ W1 : Nat → Nat → Hp → Prop, (∃ m, W1 0 m H4) ∧ ∀ j k H, W1 j k H →
      (J1.stop j H ∧ Nx H) ∨ (J1.go j H ∧ ∃ Nx1 : Hp → Prop, (∀ H', Nx1 H' → ∃ k', k' < k ∧ W1 (j + 1) k' H') ∧ ∀ x H', J1.yld j H x H' → g1 x (wipe σ2 vs1) H' fun σ3 H5 => wipe σ3 vs1 = wipe σ2 vs1 ∧ tt1 σ3 H5 fun b H6 =>
        if b = true then te σ3 H6 fun y H7 => ∃ acc, H7 D = some (.lst acc) ∧ acc.length < sizeLine ∧ Nx1 (upd H7 D (.lst (acc ++ [y]))) else Nx1 H6)
theorem lc2_in (w : Walk J1 n1 G1 Y1) {g1 : TG} {tt1 : TT} {te : TE} {vs1 : List Nat} {σ2 : St} {H4 : Hp} {D : Addr} {Nx : Hp → Prop} (Pv : Nat → Hp → Prop) (h0 : Pv 0 H4) (hG : ∀ i H, i ≤ n1 → Pv i H → G1 H)
    (hs : ∀ i x H H', i < n1 → Pv i H → Y1 i H x H' → g1 x (wipe σ2 vs1) H' fun σ3 H5 => wipe σ3 vs1 = wipe σ2 vs1 ∧ tt1 σ3 H5 fun b H6 =>
      if b = true then te σ3 H6 fun y H7 => ∃ acc, H7 D = some (.lst acc) ∧ acc.length < sizeLine ∧ Pv (i + 1) (upd H7 D (.lst (acc ++ [y]))) else Pv (i + 1) H6) (hd : ∀ H, Pv n1 H → Nx H) : Lc2In J1 g1 tt1 te vs1 D σ2 Nx H4 := by
  refine ⟨fun i m H => m = n1 - i ∧ i ≤ n1 ∧ Pv i H, ⟨n1, by simp, Nat.zero_le _, h0⟩, ?_⟩
  rintro i m H ⟨rfl, hi, p⟩
  have q := hG i H hi p
  by_cases hlt : i < n1
  · refine .inr ⟨w.goes i H hlt q, Pv (i + 1), fun H' p' => ⟨n1 - (i + 1), by omega, rfl, hlt, p'⟩, fun x H' y => hs i x H H' hlt p (w.yields i H x H' hlt q y)⟩
  · have e : i = n1 := by omega
    subst e
    exact .inl ⟨w.stops H q, hd H p⟩
theorem lc2_it (w : Walk J n G Y) {g : TG} {tt : TT} {wi1 : TI} {g1 : TG} {tt1 : TT} {te : TE} {vs vs1 : List Nat} {σ : St} {H1 : Hp} {D : Addr} {Qd : Hp → Prop} (Pv : Nat → Hp → Prop) (h0 : Pv 0 (upd H1 D (.lst []))) (hG : ∀ i H, i ≤ n → Pv i H → G H)
    (hs : ∀ i x H H', i < n → Pv i H → Y i H x H' → g x (wipe σ vs) H' fun σ2 H2 => wipe σ2 vs = wipe σ vs ∧ tt σ2 H2 fun b H3 =>
      if b = true then wi1 σ2 H3 fun J1 H4 => Lc2In J1 g1 tt1 te vs1 D σ2 (Pv (i + 1)) H4 else Pv (i + 1) H3) (hd : ∀ H, Pv n H → Qd H) :
    ∃ W : Nat → Nat → Hp → Prop, (∃ m, W 0 m (upd H1 D (.lst []))) ∧ ∀ i m H, W i m H →
  (J.stop i H ∧ Qd H) ∨ (J.go i H ∧ ∃ Nx : Hp → Prop, (∀ H', Nx H' → ∃ m', m' < m ∧ W (i + 1) m' H') ∧ ∀ x H', J.yld i H x H' → g x (wipe σ vs) H' fun σ2 H2 => wipe σ2 vs = wipe σ vs ∧ tt σ2 H2 fun b H3 =>
    if b = true then wi1 σ2 H3 fun J1 H4 => Lc2In J1 g1 tt1 te vs1 D σ2 Nx H4 else Nx H3) := by
  refine ⟨fun i m H => m = n - i ∧ i ≤ n ∧ Pv i H, ⟨n, by simp, Nat.zero_le _, h0⟩, ?_⟩
  rintro i m H ⟨rfl, hi, p⟩
  have q := hG i H hi p
  by_cases hlt : i < n
  · exact .inr ⟨w.goes i H hlt q, Pv (i + 1), fun H' p' => ⟨n - (i + 1), by omega, rfl, hlt, p'⟩, fun x H' y => hs i x H H' hlt p (w.yields i H x H' hlt q y)⟩
  · have e : i = n := by omega
    subst e
    exact .inl ⟨w.stops H q, hd H p⟩
end
end L2

set_option maxRecDepth 100000
set_option maxHeartbeats 4000000
/-! webs compared; a program without statements -/
namespace W1
open PySem PyProof.Rows L2
local macro_rules | `(tactic| walk_at "rp") => `(tactic| first | assumption | exact Rp.int _ | exact Rp.bl _ | exact Rp.str _ | exact Rp.non | exact Rp.obj _ | (refine Rp.le (by assumption) ?_; walk_at "rp"))
local macro_rules | `(tactic| walk_at "ed") => `(tactic| first
  | exact ed_int | exact ed_str | exact ed_bl | exact ed_non
  | (refine ed_var rfl ?_; walk_at "rp")
  | (refine ed_ixT (ds := [_, _]) ?_ ed_int (by decide) rfl; walk_at "ed")
  | (refine ed_I0 ?_ ?_ <;> walk_at "ed")
  | (refine ed_B0 ?_ ?_ <;> walk_at "ed")
  | (refine ed_eqS ?_ ?_ rfl rfl rfl <;> walk_at "ed")
  | assumption)
local macro_rules | `(tactic| walk_at "ea") => `(tactic| first | exact ea_nil | (refine ea_cons ?_ ?_; walk_at "ed"; walk_at "ea"))

abbrev s_Web___eq__ : Stmt := inClass (topS 14) 1
abbrev N_Web___eq__ : List Str := ["self", "other"]
theorem sc_Web___eq__ : FnScope N_Web___eq__ ["self", "other"] (defScope s_Web___eq__) := ⟨rfl, rfl, rfl, by decide +kernel, rfl, by decide +kernel, by decide +kernel⟩
abbrev s_check_block : Stmt := topS 40
abbrev N_check_block : List Str := ["block", "place"]
theorem sc_check_block : FnScope N_check_block ["block"] (defScope s_check_block) := ⟨rfl, rfl, rfl, by decide +kernel, rfl, by decide +kernel, by decide +kernel⟩
abbrev s_first_wrong : Stmt := topS 41
abbrev N_first_wrong : List Str := ["block", "depth", "at", "statement", "way", "inner", "place"]
theorem sc_first_wrong : FnScope N_first_wrong ["block", "depth"] (defScope s_first_wrong) := ⟨rfl, rfl, rfl, by decide +kernel, rfl, by decide +kernel, by decide +kernel⟩
abbrev s_count_statements : Stmt := topS 42
abbrev N_count_statements : List Str := ["block", "part", "_", "inner"]
theorem sc_count_statements : FnScope N_count_statements ["block"] (defScope s_count_statements) := ⟨rfl, rfl, rfl, by decide +kernel, rfl, by decide +kernel, by decide +kernel⟩
abbrev s_Program___init__ : Stmt := inClass (topS 39) 0
abbrev N_Program___init__ : List Str := ["self", "block"]
theorem sc_Program___init__ : FnScope N_Program___init__ ["self", "block"] (defScope s_Program___init__) := ⟨rfl, rfl, rfl, by decide +kernel, rfl, by decide +kernel, by decide +kernel⟩
abbrev s_Program___eq__ : Stmt := inClass (topS 39) 1
abbrev N_Program___eq__ : List Str := ["self", "other"]
theorem sc_Program___eq__ : FnScope N_Program___eq__ ["self", "other"] (defScope s_Program___eq__) := ⟨rfl, rfl, rfl, by decide +kernel, rfl, by decide +kernel, by decide +kernel⟩
structure KTxt (mg : Str → Option Value) : Prop extends GTxt mg where
  n_zip : mg "zip" = none
  n_str : mg "str" = none
  n_sum : mg "sum" = none
  n_ValueError : mg "ValueError" = none
  g_sides : ∃ u, mg "MOST_SIDES" = some u ∧ RelV (.int 8) u
  g_stats : ∃ u, mg "MOST_STATEMENTS" = some u ∧ RelV (.int 60) u
section
variable {X : Cx} {x : Str} {C : Addr} {pos : Pos} {e : Expr} {tg : Expr}
theorem pe_gx (hm : X.mg x = some (.ref C)) (hg : Gl X x) (hdb : (x == ("__debug__" : Str)) = false := by decide) : PE X (.Name x pos) (tC (.ref C)) := pe_gl ⟨_, hm, rfl⟩ hg hdb
theorem pe_never : PE X e (fun _ _ _ => False) := ⟨fun _ _ _ _ _ _ h => h.elim⟩
theorem pi_never : PI X tg e (fun _ _ _ => False) := ⟨fun _ _ _ _ _ _ h => h.elim⟩
theorem pg_never : PG X tg (fun _ _ _ _ => False) := ⟨fun _ _ _ _ _ _ _ _ _ h => h.elim⟩
end
/-! ### as plain data -/
def pyI (ns : List Int) : PyData := .tuple (ns.map .int)
def pyP (p : Int × Int) : PyData := .tuple [.int p.1, .int p.2]
def pyT (ts : List (Int × Int)) : PyData := .tuple (ts.map pyP)
def pyW (ms : List Int) (ts : List (Int × Int)) : PyData := .tuple [pyI ms, pyT ts]
theorem canAll {α : Type} {f : α → PyData} : ∀ (l : List α), (∀ x ∈ l, (f x).canLay0 = true) → PyData.canLayAll0 (l.map f) = true
  | [], _ => rfl
  | x :: l, h => by
    rw [List.map_cons]
    show ((f x).canLay0 && PyData.canLayAll0 (l.map f)) = true
    rw [h x (List.mem_cons_self ..), canAll l fun y hy => h y (List.mem_cons_of_mem _ hy)]
    rfl
theorem depAll {α : Type} {f : α → PyData} {m : Nat} : ∀ (l : List α), (∀ x ∈ l, (f x).depth ≤ m) → PyData.depthAll (l.map f) ≤ m
  | [], _ => Nat.zero_le _
  | x :: l, h => by
    rw [List.map_cons]
    show max (f x).depth (PyData.depthAll (l.map f)) ≤ m
    exact Nat.max_le.mpr ⟨h x (List.mem_cons_self ..), depAll l fun y hy => h y (List.mem_cons_of_mem _ hy)⟩
theorem can_I (ns : List Int) : (pyI ns).canLay0 = true := canAll ns fun x _ => rfl
theorem can_T (ts : List (Int × Int)) : (pyT ts).canLay0 = true := canAll ts fun x _ => rfl
theorem dep_I (ns : List Int) : (pyI ns).depth ≤ 1 := by
  show PyData.depthAll (ns.map .int) + 1 ≤ 1
  have := depAll (f := PyData.int) (m := 0) ns fun x _ => Nat.le_refl _
  omega
theorem dep_T (ts : List (Int × Int)) : (pyT ts).depth ≤ 2 := by
  show PyData.depthAll (ts.map pyP) + 1 ≤ 2
  have := depAll (f := pyP) (m := 1) ts fun x _ => Nat.le_refl _
  omega
theorem can_W (ms : List Int) (ts : List (Int × Int)) : (pyW ms ts).canLay0 = true := by
  show ((pyI ms).canLay0 && ((pyT ts).canLay0 && true)) = true
  rw [can_I, can_T]
  rfl
theorem shp {d : PyData} (h : d.canLay0 = true) (h2 : d.depth ≤ 64) : SeqAt.shaped d = true := by
  unfold SeqAt.shaped
  rw [h, Bool.true_and]
  exact decide_eq_true h2
theorem shp_I (ns : List Int) : SeqAt.shaped (pyI ns) = true := shp (can_I ns) (Nat.le_trans (dep_I ns) (by decide))
theorem shp_T (ts : List (Int × Int)) : SeqAt.shaped (pyT ts) = true := shp (can_T ts) (Nat.le_trans (dep_T ts) (by decide))
theorem shp_W (ms : List Int) (ts : List (Int × Int)) : SeqAt.shaped (pyW ms ts) = true := shp (can_W ms ts) (by
  show max (pyI ms).depth (max (pyT ts).depth 0) + 1 ≤ 64
  have := dep_I ms
  have := dep_T ts
  omega)
/-- are two webs equal -/
def eqW (ms : List Int) (ts : List (Int × Int)) (ms2 : List Int) (ts2 : List (Int × Int)) : Bool := PyData.eqv (pyI ms) (pyI ms2) && PyData.eqv (pyT ts) (pyT ts2)
theorem eqW_refl (ms : List Int) (ts : List (Int × Int)) : eqW ms ts ms ts = true := by
  unfold eqW
  rw [SeqAt.eqv_refl _ (can_I ms), SeqAt.eqv_refl _ (can_T ts)]
  rfl
theorem eqW_py (ms : List Int) (ts : List (Int × Int)) (ms2 : List Int) (ts2 : List (Int × Int)) : PyData.eqv (pyW ms ts) (pyW ms2 ts2) = eqW ms ts ms2 ts2 := by
  unfold pyW eqW
  rw [PyData.eqv, PyData.eqvAll, PyData.eqvAll, PyData.eqvAll, Bool.and_true]
section
variable {K : PySem.W.Frag} {H : Hp}
theorem dp_ints : ∀ {ns : List Int} {vs : List V}, Rps K H vs (ns.map D.int) → L2.DpAll K H vs (ns.map PyData.int)
  | [], _, h => by
    cases h
    exact .nil
  | n :: ns, _, h => by
    cases h with
    | cons a r =>
      cases a
      exact .cons (.int n) (dp_ints r)
theorem dp_I {v : V} {ns : List Int} (r : Rp K H v (.tup (ns.map .int))) : L2.Dp K H v (pyI ns) := by
  obtain ⟨a, xs, rfl, s, rr⟩ := rp_tup r
  exact .tup s (dp_ints rr)
theorem dp_P {v : V} {p : Int × Int} (r : Rp K H v (eP p)) : L2.Dp K H v (pyP p) := by
  obtain ⟨a, xs, rfl, s, rr⟩ := rp_tup r
  exact .tup s (dp_ints (ns := [p.1, p.2]) rr)
theorem dp_Ps : ∀ {ts : List (Int × Int)} {vs : List V}, Rps K H vs (ts.map eP) → L2.DpAll K H vs (ts.map pyP)
  | [], _, h => by
    cases h
    exact .nil
  | n :: ns, _, h => by
    cases h with
    | cons a r => exact .cons (dp_P a) (dp_Ps r)
theorem dp_T {v : V} {ts : List (Int × Int)} (r : Rp K H v (.tup (ts.map eP))) : L2.Dp K H v (pyT ts) := by
  obtain ⟨a, xs, rfl, s, rr⟩ := rp_tup r
  exact .tup s (dp_Ps rr)
theorem dp_W {v : V} {ms : List Int} {ts : List (Int × Int)} (r : Rp K H v (eW ms ts)) : L2.Dp K H v (pyW ms ts) := by
  obtain ⟨a, xs, rfl, s, rr⟩ := rp_tup r
  obtain ⟨w1, w2, rfl, q1, q2⟩ := rps2 rr
  exact .tup s (.cons (dp_I q1) (.cons (dp_T q2) .nil))
theorem ed_eqI {σ : L2.St} {ta tb : TE} {a b : List Int} (h1 : ED K ta σ H (.tup (a.map .int))) (h2 : ED K tb σ H (.tup (b.map .int))) : ED K (tOp (rEqD K) ta tb) σ H (.bl (PyData.eqv (pyI a) (pyI b))) := ed_op h1 h2 fun x y H2 _ r1 r2 Q q => ⟨pyI a, pyI b, dp_I r1, dp_I r2, shp_I a, shp_I b, q _ _ H2 (Le.refl _) rfl (.bl _)⟩
theorem ed_eqT {σ : L2.St} {ta tb : TE} {a b : List (Int × Int)} (h1 : ED K ta σ H (.tup (a.map eP))) (h2 : ED K tb σ H (.tup (b.map eP))) : ED K (tOp (rEqD K) ta tb) σ H (.bl (PyData.eqv (pyT a) (pyT b))) := ed_op h1 h2 fun x y H2 _ r1 r2 Q q => ⟨pyT a, pyT b, dp_T r1, dp_T r2, shp_T a, shp_T b, q _ _ H2 (Le.refl _) rfl (.bl _)⟩
theorem ed_eqWW {σ : L2.St} {ta tb : TE} {a c : List Int} {b d : List (Int × Int)} (h1 : ED K ta σ H (eW a b)) (h2 : ED K tb σ H (eW c d)) : ED K (tOp (rEqD K) ta tb) σ H (.bl (eqW a b c d)) := ed_op h1 h2 fun x y H2 _ r1 r2 Q q => ⟨pyW a b, pyW c d, dp_W r1, dp_W r2, shp_W a b, shp_W c d, by rw [eqW_py]; exact q _ _ H2 (Le.refl _) rfl (.bl _)⟩
end
/-! ### the class's own == -/
structure OwnT (K : PySem.W.Frag) (C : Addr) : Prop where
  cl : Cls K C
  ha : PySem.W.findIn K (.ref C) "__class__" = some (some (.builtin "object.__class__"))
  hn : PySem.W.specialIn K (.builtin "object.__class__") "__get__" = some (some (.builtin "getset_descriptor.__get__"))
  tk : PySem.W.takesIn K (.builtin "object.__class__") = some true
  me : PySem.W.kitOne K (.ref C) (.ref C) = some true
  mo : PySem.W.mroIn K C (.type "object") = some true
theorem OwnT.ty {K : PySem.W.Frag} {H : Hp} {C a dx : Addr} {fs : List (Str × V)} (o : OwnT K C) (h : H a = some (.ins C dx fs)) : TyX K H (.ref a) (.ref C) := .base (.ins h o.cl o.ha o.hn o.tk o.mo)
def spEqW (K : PySem.W.Frag) (C : Addr) : Sp := fun vs H Q _ => ∃ a ms ties y, vs = [.ref a, y] ∧ WebAt K C H a ms ties ∧
  ((∃ b ms2 ties2, y = .ref b ∧ WebAt K C H b ms2 ties2 ∧ ∀ H', Le H H' → Q (.bl (eqW ms ties ms2 ties2)) H') ∨ (∃ t, TyX K H y t ∧ PySem.W.kitOne K t (.ref C) = some false ∧ ∀ H', Le H H' → Q (.bl false) H'))
def spEqP (K : PySem.W.Frag) (C : Addr) : Sp := fun vs H Q _ => ∃ a y t, vs = [.ref a, y] ∧ TyX K H y t ∧ PySem.W.kitOne K t (.ref C) = some false ∧ ∀ H', Le H H' → Q (.bl false) H'
section
variable {P : Program} {w : World} {K : PySem.W.Frag} {mg : Str → Option Value} {base : Heap} {C CP : Addr}
theorem ok_webEq {f : Addr} {fd : FuncData} (T : GTxt mg) (W : WTxt K C) (O : OwnT K C) (hmW : mg "Web" = some (.ref C)) (F : Fun K "__eq__" "Web.__eq__" s_Web___eq__ f fd) : FnOk P w K mg base CX0 2 f fd ["self", "other"] (spEqW K C) := by
  refine F.ok sc_Web___eq__ (fun vs H Q E h => ?_) (fun cdv A outer s H vs Q E hr h => ?_)
  · obtain ⟨a, ms, ties, y, rfl, _⟩ := h
    rfl
  obtain ⟨a, ms, ties, y, rfl, x, h⟩ := h
  refine ⟨_, (pss_one (ps_ret (pe_and (pe_callB (kc_isi (K := K)) (by rfl) T.n_isinstance boot_isinstance (pa_cons (pv 1) (pa_cons (pe_gx hmW (by rfl)) pa_nil))) (pe_and (pe_cmpR (kop_eqD (K := K) hr.units) (kpe_fld (K := K) (pv 0) rfl) (kpe_fld (K := K) (pv 1) rfl) (nomark _)) (pe_one (pe_cmpR (kop_eqD (K := K) hr.units) (kpe_fld (K := K) (pv 0) rfl) (kpe_fld (K := K) (pv 1) rfl) (nomark _))))))), ?_⟩
  rcases h with ⟨b, ms2, ties2, rfl, x2, q⟩ | ⟨t, ht, hk, q⟩
  · obtain ⟨dx2, m2, t2, n2, hb, _⟩ := id x2
    refine ⟨.ref b, rfl, .ref b, .ref C, .ref C, .ref C, true, rfl, .own C, O.ty hb, O.me, true, rfl, ?_⟩
    rw [if_pos rfl]
    have ra : Rp K H (.ref a) (.obj (.ref a)) := .obj _
    have rb : Rp K H (.ref b) (.obj (.ref b)) := .obj _
    exact ed_andV (K := K) (a := PyData.eqv (pyI ms) (pyI ms2)) (b := PyData.eqv (pyT ties) (pyT ties2)) (ed_eqI (ed_mem W x (ed_var rfl ra)) (ed_mem W x2 (ed_var rfl rb))) (fun _ => ed_eqT (ed_ties W x (ed_var rfl ra)) (ed_ties W x2 (ed_var rfl rb))) H (Le.refl _) _ fun v d H1 e1 p r => by
      have p' : d = .bl (eqW ms ties ms2 ties2) := p
      subst p'
      rw [rp_bl r]
      exact q H1 e1
  · refine ⟨y, rfl, y, .ref C, t, .ref C, false, rfl, .own C, ht, hk, false, rfl, ?_⟩
    rw [if_neg Bool.false_ne_true]
    exact q H (Le.refl _)
theorem ok_progEq {f : Addr} {fd : FuncData} (T : GTxt mg) (hmP : mg "Program" = some (.ref CP)) (F : Fun K "__eq__" "Program.__eq__" s_Program___eq__ f fd) : FnOk P w K mg base CX0 2 f fd ["self", "other"] (spEqP K CP) := by
  refine F.ok sc_Program___eq__ (fun vs H Q E h => ?_) (fun cdv A outer s H vs Q E hr h => ?_)
  · obtain ⟨a, y, t, rfl, _⟩ := h
    rfl
  obtain ⟨a, y, t, rfl, ht, hk, q⟩ := h
  refine ⟨_, (pss_one (ps_ret (pe_and (pe_callB (kc_isi (K := K)) (by rfl) T.n_isinstance boot_isinstance (pa_cons (pv 1) (pa_cons (pe_gx hmP (by rfl)) pa_nil))) (pe_one (pe_cmpR op_eq (kpe_fld (K := K) (pv 0) rfl) (kpe_fld (K := K) (pv 1) rfl) (nomark _)))))), ?_⟩
  refine ⟨y, rfl, y, .ref CP, t, .ref CP, false, rfl, .own CP, ht, hk, false, rfl, ?_⟩
  rw [if_neg Bool.false_ne_true]
  exact q H (Le.refl _)
end
/-! ### a program without statements -/
section
variable {P : Program} {w : World} {K : PySem.W.Frag} {mg : Str → Option Value} {base : Heap} {C CP : Addr}
def R_fw : List D → Hp → Pd → Prop := fun ds H P => ds = [.tup [], .int 1] ∧ P = is .non
theorem ok_fw (T : GTxt mg) (g : GDef K mg "first_wrong" s_first_wrong ["block", "depth"]) : Def P w K mg base 1 "first_wrong" ["block", "depth"] (spD K R_fw) := by
  refine defD g sc_first_wrong (fun ds H Pd h => ?_) fun cdv A outer s f H vs ds Pd Q E hr r h q => ?_
  · obtain ⟨rfl, _⟩ := h
    rfl
  obtain ⟨rfl, rfl⟩ := h
  obtain ⟨v1, v2, rfl, r1, r2⟩ := rps2 r
  refine ⟨_, (pss_cons (ps_for PassesOwn.never rfl (kpi_enumT (K := K) (by rfl) T.n_enumerate (pa_cons (pv 0) pa_nil)) (kpg_tup (K := K) (n := 2) rfl (pgs_cons (pg_name (i := 2) sc_first_wrong.nd rfl (Or.inl rfl)) (pgs_cons (pg_name (i := 3) sc_first_wrong.nd rfl (Or.inl rfl)) pgs_nil)))
      pss_never)
    (pss_one (ps_ret pe_non))), ?_⟩
  refine s_forE (K := K) (ds := []) (ea_cons (ed_var rfl r1) ea_nil) (fun d hd => nomatch hd) fun H1 e1 => ?_
  refine ⟨fun i σ H' => σ = L2.start N_first_wrong [v1, v2] ∧ Le H1 H', ⟨rfl, Le.refl _⟩, fun i σ H' _ ⟨_, e⟩ => e.t, fun i d v σ' H' H3 hd => by simp at hd, ?_⟩
  rintro σ' H' ⟨rfl, e⟩
  show tRet (tC V.non) { nx := fun x H' => Q .non H', rt := Q } (L2.start N_first_wrong [v1, v2]) H'
  refine s_retD (K := K) ed_non fun v H2 e2 r => ?_
  exact q v _ H2 ((e1.trans e).trans e2) rfl r
def R_cs : List D → Hp → Pd → Prop := fun ds H P => ds = [.tup []] ∧ P = is (.int 0)
theorem ok_cs (T : KTxt mg) (g : GDef K mg "count_statements" s_count_statements ["block"]) : Def P w K mg base 1 "count_statements" ["block"] (spD K R_cs) := by
  refine defD g sc_count_statements (fun ds H Pd h => ?_) fun cdv A outer s f H vs ds Pd Q E hr r h q => ?_
  · obtain ⟨rfl, _⟩ := h
    rfl
  obtain ⟨rfl, rfl⟩ := h
  obtain ⟨v1, rfl, r1⟩ := rps1 r
  refine ⟨_, (pss_one (ps_ret (pe_op op_add (pe_callB (kc_len (K := K)) (by rfl) T.n_len boot_len (pa_cons (pv 0) pa_nil)) (pe_callB (cr_sum rfl) (by rfl) T.n_sum boot_sum (pa_cons (pe_lc2 (own := [("part", 1), ("_", 2), ("inner", 3)]) (vs1 := [2, 3]) (wi1 := fun _ _ _ => False) (g := fun _ _ _ _ => False) (g1 := fun _ _ _ _ => False) (te := fun _ _ _ => False) rfl sc_count_statements.nd (kpi_tup (K := K) (pv 0)) (blkOk_by (N := N_count_statements) (sc := defScope s_count_statements) (by decide +kernel)) (by decide) (fun _ _ _ _ _ => pg_never) (fun _ _ _ _ _ => pts_nil) (fun _ _ _ _ _ => pi_never) (fun _ _ _ _ _ => pg_never) (fun _ _ _ _ _ => pts_nil) (fun _ _ _ _ _ => pe_never)) pa_nil))))), ?_⟩
  unfold tRet tOp
  refine ed_lenT (K := K) (ds := []) (σ := L2.start N_count_statements [v1]) (ed_var rfl r1) H (Le.refl _) _ fun x d H1 e1 p rx => ?_
  have p' : d = .int 0 := p
  subst p'
  have ex := rp_int rx
  subst ex
  obtain ⟨a, xs, rfl, s, rr⟩ := rp_tup (r1.le e1)
  cases rr
  refine ⟨.ref a, rfl, a, rfl, ⟨[], s⟩, fun D hD => lc2_it (wi1 := fun _ _ _ => False) (g := fun _ _ _ _ => False) (g1 := fun _ _ _ _ => False) (tt := tYes) (tt1 := tYes) (te := fun _ _ _ => False) (vs := [1, 2, 3]) (vs1 := [2, 3]) (σ := L2.start N_count_statements [.ref a]) (walk_tup (xs := [])) (fun i H' => H1 D = none ∧ H' = upd H1 D (.lst [])) ⟨hD, rfl⟩ (fun i H' _ h => ?_) (fun i x H' H'' hi => by simp at hi) fun H' h => ?_⟩
  · rw [h.2]
    exact (Le.new hD).sqt s
  · obtain ⟨_, rfl⟩ := h
    exact ⟨D, [], rfl, SqL.of upd_same, 0, 0, rfl, rfl, q _ (.int 0) _ (e1.trans (Le.new hD)) rfl (.int _)⟩
def R_cb : List D → Hp → Pd → Prop := fun ds H P => ds = [.tup []] ∧ P = is .non
theorem ok_cb (T : KTxt mg) (g : GDef K mg "check_block" s_check_block ["block"]) (Gfirst_wrong : Def P w K mg base 1 "first_wrong" ["block", "depth"] (spD K R_fw)) (Gcount_statements : Def P w K mg base 1 "count_statements" ["block"] (spD K R_cs)) : Def P w K mg base 3 "check_block" ["block"] (spD K R_cb) := by
  refine defD g sc_check_block (fun ds H Pd h => ?_) fun cdv A outer s f H vs ds Pd Q E hr r h q => ?_
  · obtain ⟨rfl, _⟩ := h
    rfl
  obtain ⟨rfl, rfl⟩ := h
  obtain ⟨v1, rfl, r1⟩ := rps1 r
  refine ⟨_, (pss_cons (ps_if (pt_not (pt_val (pe_callB (kc_isi (K := K)) (by rfl) T.n_isinstance boot_isinstance (pa_cons (pv 0) (pa_cons (pe_bltn (v := V.ty "tuple") (by rfl) T.n_tuple boot_tuple rfl) pa_nil)))))
      (pss_one ps_never)
      pss_nil)
    (pss_cons (ps_set (i := 1) sc_check_block.nd rfl (Or.inl rfl) (pe_def Gfirst_wrong (hr.mono (by decide)) (pa_cons (pv 0) (pa_cons pe_int pa_nil))))
    (pss_cons (ps_if (pt_cmpR op_notN (pv 1) pe_non (nomark _))
      (pss_one ps_never)
      pss_nil)
    (pss_one (ps_if (pt_cmpR op_gt (pe_def Gcount_statements (hr.mono (by decide)) (pa_cons (pv 0) pa_nil)) (pe_gl T.g_stats) (nomark _))
      (pss_one ps_never)
      pss_nil))))), ?_⟩
  refine q_no (b := false) (eb_eq (eb_not (et_B (K := K) (ed_isTup (ed_var rfl r1) (.inl rfl)))) rfl) rfl fun H1 e1 => ?_
  refine q_asgD (K := K) (d := .non) (ed_call (ea_cons (ed_var rfl (r1.le e1)) (ea_cons ed_int ea_nil)) fun H2 _ => ⟨rfl, rfl⟩) fun v2 H2 e2 r2 => ?_
  refine q_no (b := false) (eb_eq (et_test (K := K) (ed_notN (ed_var rfl r2) (fun _ e => nomatch e))) rfl) rfl fun H3 e3 => ?_
  refine s_no (b := false) (eb_eq (et_test (K := K) (ed_B0 (f := fun i j => decide (j < i)) (i := 0) (j := 60) (ed_call (ea_cons (ed_var rfl (r1.le ((e1.trans e2).trans e3))) ea_nil) fun H4 _ => ⟨rfl, rfl⟩) (fun H1 _ Q q => q _ _ H1 (Le.refl _) rfl (.int 60)))) rfl) rfl fun H4 e4 => ?_
  exact q _ .non H4 (((e1.trans e2).trans e3).trans e4) rfl .non
def spProg (K : PySem.W.Frag) (CP : Addr) : Sp := fun vs H Q _ => ∃ a dx v1, vs = [.ref a, v1] ∧ H a = some (.ins CP dx []) ∧ Rp K H v1 (.tup []) ∧
  ∀ H' fs, (∀ H0, Le H0 H → H0 a = none → Le H0 H') → H' a = some (.ins CP dx fs) → Q .non H'
theorem ok_prog {f : Addr} {fd : FuncData} (T : GTxt mg) (cl : Cls K CP) (nB : NoAttr K CP "block") (F : Fun K "__init__" "Program.__init__" s_Program___init__ f fd) (Gcheck_block : Def P w K mg base 3 "check_block" ["block"] (spD K R_cb)) : FnOk P w K mg base CX0 4 f fd ["self", "block"] (spProg K CP) := by
  refine F.ok sc_Program___init__ (fun vs H Q E h => ?_) (fun cdv A outer s H vs Q E hr h => ?_)
  · obtain ⟨a, dx, v1, rfl, _⟩ := h
    rfl
  obtain ⟨a, dx, v1, rfl, ha, r1, q⟩ := h
  refine ⟨_, (pss_cons (ps_expr (pe_def Gcheck_block (hr.mono (by decide)) (pa_cons (pv 1) pa_nil)))
    (pss_one (ps_fld (pv 0) (pv 1) rfl))), ?_⟩
  refine q_drop (K := K) (P := is .non) (ed_call (ea_cons (ed_var rfl r1) ea_nil) fun H1 _ => ⟨rfl, rfl⟩) fun H1 e1 => ?_
  exact ⟨_, rfl, _, rfl, a, CP, dx, [], rfl, e1.ins ha, cl, nB, (by show 0 < 1000; decide), q _ _ (fun H0 e0 h0 => (e0.trans e1).mut h0) upd_same⟩
structure PMkP (P : Program) (w : World) (K : PySem.W.Frag) (mg : Str → Option Value) (base : Heap) (CP : Addr) : Prop where
  mgC : mg "Program" = some (.ref CP)
  ex : ∃ f fd, Mk K CP f ∧ FnOk P w K mg base CX0 4 f fd ["self", "block"] (spProg K CP) ∧ Binds K fd ["self", "block"] []
section
variable {X : Cx} {e : Expr} {es : List Expr} {t : TA} {p pos : Pos}
theorem pe_mkP (M : PMkP X.prog X.w X.K X.mg X.base CP) (hr : Room 5 X.A) (ha : PA X (e :: es) t) (hg : Gl X "Program" := by rfl)
    (he : starEach (e :: es) X.env = (false, eval e X.env) :: starEach es X.env := by rfl) (hpl : (backTo pos (starEach es X.env)).any (·.1) = false := by rfl) (h : X.K = K := by rfl) :
    PE X (.Call (.Name "Program" p) (e :: es) [] pos) (tMake CP (spProg K CP) [] E0 t) := by
  subst h
  obtain ⟨fi, fdi, mk, F, hb⟩ := M.ex
  exact pe_make mk F hr hg M.mgC hb .nil pass0 ha (by decide) he hpl
end
theorem ep_mkP {σ : L2.St} {H : Hp} {A : TA} {E : XK} (hA : EDA K A σ H [.tup []]) : EP K (tMake CP (spProg K CP) [] E A) σ H (fun d H => ∃ a dx fs, d = .obj (.ref a) ∧ H a = some (.ins CP dx fs)) := fun H1 e Q q => hA H1 e _ fun vs es H2 e2 p rr => by
  have p' : es = [.tup []] := p
  subst p'
  obtain ⟨w1, rfl, q1⟩ := rps1 rr
  intro x dx hx hdx hne
  have l1 : Le H2 (upd (upd H2 dx (.own x)) x (.ins CP dx [])) := (Le.new hdx).mut hx
  exact ⟨x, dx, w1, rfl, upd_same, q1.le l1, fun H3 fs k h3 => ⟨rfl, q _ (.obj (.ref x)) H3 (e2.trans (k _ l1 hx)) ⟨x, dx, fs, rfl, h3⟩ (.obj _)⟩⟩
end
end W1

set_option maxRecDepth 100000
set_option maxHeartbeats 4000000
/-! making in a try; isinstance of the error that a suite holds, with or without a dict -/
namespace L2
open PySem PySem.Spec PyProof.Rows
section
variable {X : Cx} {CX : CXT} {k : Nat} {f C : Addr} {fd : FuncData} {ps : List Str} {sp : Sp} {E : St → XK} {x : Str} {p pos : Pos} {e : Expr} {es : List Expr} {t : TA}
theorem run_makeS {pins : List (Addr × Obj)} {σ : St} {H : Hp} {s : Shared} {Q : VK} {us : List Value} {vs : List V} (M : Mk X.K C f) (F : FnOk X.prog X.w X.K X.mg X.base CX k f fd ps sp) (hr : Room (k + 1) X.A) (hb : Binds X.K fd ps [])
    (hx : PassesAt CX X σ (E σ)) (I : Inv X pins σ H s) (r : Vals vs us)
    (h : ∀ x dx, H x = none → H dx = none → dx ≠ x → sp (.ref x :: (vs ++ [])) (upd (upd H dx (.own x)) x (.ins C dx [])) (fun v H2 => v = .non ∧ Q (.ref x) H2) (E σ)) :
    wpAny (model X.prog X.w) X.A (call (.ref C) us) (EP X pins σ Q) X.xe s := by
  have hq := h (s.heap.objs.size + 1) s.heap.objs.size (I.hok.fresh (Nat.le_succ _)) (I.hok.fresh (Nat.le_refl _)) (Nat.ne_of_lt (Nat.lt_succ_self _))
  have I2 := Inv.made (C := C) I
  have r2 : Vals (V.ref (s.heap.objs.size + 1) :: (vs ++ [])) (Value.ref (s.heap.objs.size + 1) :: (us ++ [])) := .cons rfl (r.append .nil)
  have hl : (Value.ref (s.heap.objs.size + 1) :: us ++ []).length = ps.length := by
    have e := r2.length
    rw [F.len _ _ _ _ hq] at e
    exact e.symm
  refine wpAny_call (make_map (f := f) I.kIn M.makes M.init (beq_iff_eq.mp M.fn) (codeAny_mono (F.run _ X.stack _ _ ⟨Value.ref (s.heap.objs.size + 1) :: us, []⟩ (Value.ref (s.heap.objs.size + 1) :: (us ++ [])) _ _ (E σ) (hr.make C us [])
    (I2.env0.make C us []) (by have := hb _ (Value.ref (s.heap.objs.size + 1) :: us) I2.kIn hl; simpa using this) r2 hq) fun r s' hq' => ?_))
  cases r with
  | error e => exact hx pins _ _ e s' I2 hq'
  | ok fl =>
    cases fl with
    | ret u =>
      obtain ⟨v, H', I3, rv, ev, q3⟩ := I2.after hq'
      subst ev
      exact ⟨rv, ⟨V.ref (s.heap.objs.size + 1), H', I3, rfl, q3⟩⟩
    | next => exact False.elim hq'
    | brk => exact False.elim hq'
    | cont => exact False.elim hq'
def tMakeS (C : Addr) (sp : Sp) (E : St → XK) (t : TA) : TE := fun σ H Q => tMake C sp [] (E σ) t σ H Q
theorem pe_makeS (M : Mk X.K C f) (F : FnOk X.prog X.w X.K X.mg X.base CX k f fd ps sp) (hr : Room (k + 1) X.A) (hg : Gl X x) (hm : X.mg x = some (.ref C)) (hb : Binds X.K fd ps []) (hx : ∀ σ, PassesAt CX X σ (E σ))
    (ha : PA X (e :: es) t) (hdb : (x == ("__debug__" : Str)) = false := by decide) (he : starEach (e :: es) X.env = (false, eval e X.env) :: starEach es X.env := by rfl) (hpl : (backTo pos (starEach es X.env)).any (·.1) = false := by rfl) :
    PE X (.Call (.Name x p) (e :: es) [] pos) (tMakeS C sp E t) := by
  refine ⟨fun pins s σ H Q I h => ?_⟩
  refine wpAny_Call_Name_kw (ld_glob I hg hm ?_ hdb)
  refine PySem.W.callWith_K (h₀ := X.base) I.ok.mod.kin M.kp (thn (ha.run pos pins s σ H _ I h) fun us s1 ⟨vs, H1, I1, r, q⟩ => ⟨I1.kIn, ?_⟩) he hpl
  exact run_makeS M F hr hb (hx σ) I1 r q
end
def rIsE3 (K : PySem.W.Frag) (a : Addr) (cls : Value) (d : Option Addr) : List V → Hp → VK → Prop := fun xs H Q => ∃ (D : Addr) (c : V) (cv : Value) (b : Bool), cls = .ref D ∧ ExcC K D ∧ (d = none ∨ ∃ dd fs, d = some dd ∧ H dd = some (.xd fs)) ∧
  xs = [.ref a, c] ∧ (∀ u, RelV c u → u = cv) ∧ PySem.W.kitOne K (.ref D) cv = some b ∧ Q (.bl b) H
theorem call_isE3 {X : Cx} {K : PySem.W.Frag} {a : Addr} {oe : Obj} {pn : List (Addr × Obj)} {cls : Value} {d : Option Addr} (hz : Zc cls d oe) (hf : ∃ vs, oe.data = .fields vs) (hK : X.K = K := by rfl) : CallR (X.suite a ((a, oe) :: pn)) (.builtin "isinstance") (rIsE3 K a cls d) := by
  subst hK
  intro pins s σ H xs us Q I r h
  obtain ⟨D, c, cv, b, rfl, T, hd, rfl, hcv, e, q⟩ := h
  cases r with
  | cons rx rr =>
    cases rr with
    | cons rt rr =>
      cases rr
      cases rx
      have ec := hcv _ rt
      subst ec
      obtain ⟨hget, _⟩ := I.pin (a, oe) (List.mem_append.mpr (.inl List.mem_cons_self))
      obtain ⟨vs, hv⟩ := hf
      have J : ∃ od, PySem.W.InstAt s.heap a oe D od := by
        rcases hd with rfl | ⟨dd, fs, rfl, hx⟩
        · refine ⟨none, hget, hz.1, by unfold PySem.W.notCls; rw [hv] <;> rfl, ?_⟩
          rw [hz.2]
          trivial
        · obtain ⟨mA, hns, hr⟩ : ObjOk X.prog X.w H s.heap dd (.xd fs) := I.hok dd _ hx
          obtain ⟨od, ho, hl⟩ := lookIn_ns hns
          exact ⟨some od, hget, hz.1, by unfold PySem.W.notCls; rw [hv] <;> rfl, by rw [hz.2]; exact ho⟩
      obtain ⟨od, J⟩ := J
      have hcl : (PySem.W.clsIn X.K D).isSome = true := by
        obtain ⟨cd, hc, _⟩ := PySem.W.any_some T.hd
        rw [hc]
        rfl
      exact PySem.W.kia_one (PySem.W.kitx_exc hcl T.hg T.hk T.hs T.ha T.hn T.ht T.hm) I.kIn J e (fun z => nomatch z) fun tk => ⟨.bl b, H, I.kept (t' := tk) fun _ _ z => z, rfl, q⟩
end L2

set_option maxRecDepth 100000
set_option maxHeartbeats 4000000
namespace W1
open PySem PyProof.Rows L2 RZ
local macro_rules | `(tactic| walk_at "rp") => `(tactic| first | assumption | exact Rp.int _ | exact Rp.bl _ | exact Rp.str _ | exact Rp.non | exact Rp.obj _ | (refine Rp.le (by assumption) ?_; walk_at "rp"))
local macro_rules | `(tactic| walk_at "ed") => `(tactic| first
  | exact ed_int | exact ed_str | exact ed_bl | exact ed_non
  | (refine ed_var rfl ?_; walk_at "rp")
  | (refine ed_ixT (ds := [_, _]) ?_ ed_int (by decide) rfl; walk_at "ed")
  | (refine ed_I0 ?_ ?_ <;> walk_at "ed")
  | (refine ed_B0 ?_ ?_ <;> walk_at "ed")
  | (refine ed_eqS ?_ ?_ rfl rfl rfl <;> walk_at "ed")
  | assumption)
local macro_rules | `(tactic| walk_at "ea") => `(tactic| first | exact ea_nil | (refine ea_cons ?_ ?_; walk_at "ed"; walk_at "ea"))

abbrev s__law_is : Stmt := topS 51
abbrev N__law_is : List Str := ["_law_told", "_law_due", "_law_one", "_law_two"]
theorem sc__law_is : FnScope N__law_is ["_law_told", "_law_due"] (defScope s__law_is) := ⟨rfl, rfl, rfl, by decide +kernel, rfl, by decide +kernel, by decide +kernel⟩
section
variable {X : Cx} {K : PySem.W.Frag}
theorem kc_isiT (h : X.K = K := by rfl) : CallR X (.builtin "isinstance") (rIsiT K) := h ▸ call_isiT
theorem kpi_zipA {e e2 : Expr} {ta : TA} {p pos tpos : Pos} {elts : List Expr} {kk : Nat} (hg : Gl X "zip") (hm : X.mg "zip" = none) (ha : PA X [e, e2] ta)
    (hs : starEach [e, e2] X.env = (false, eval e X.env) :: starEach [e2] X.env := by rfl) (hpl : (backTo pos (starEach [e2] X.env)).any (·.1) = false := by rfl) (h : X.K = K := by rfl) :
    PI X (.Tuple elts kk tpos) (.Call (.Name "zip" p) [e, e2] [] pos) (iZipA K ta) := h ▸ pi_zipA hg hm ha hs hpl
end
theorem walk_zipT {K : PySem.W.Frag} {a b : Addr} {xs ys : List V} {n : Nat} (hn : n = min xs.length ys.length) : Walk (ItzT K a b) n (fun H => SqT K H a xs ∧ SqT K H b ys) (YPair (fun i => xs[i]?) (fun i => ys[i]?)) := by
  subst hn
  constructor
  · intro i H hi q
    have h1 : i < xs.length := by omega
    have h2 : i < ys.length := by omega
    exact ⟨xs, ys, xs[i], ys[i], q.1, q.2, by simp [h1], by simp [h2]⟩
  · intro H q
    exact ⟨xs, ys, q.1, q.2, by omega⟩
  · rintro i H v H' _ q ⟨T, x, y, h1, h2, h3, h4, h5⟩
    exact ⟨T, x, y, h1, h2, h3, h4 xs q.1, h5 ys q.2⟩
/-! ### deep data -/
def Dp : Nat → D → Prop
  | 0, _ => False
  | n + 1, .tup xs => xs.length ≤ 50000 ∧ ∀ x ∈ xs, Dp n x
  | n + 1, .lst xs => xs.length ≤ 50000 ∧ ∀ x ∈ xs, Dp n x
  | _ + 1, .obj _ => False
  | _ + 1, _ => True
theorem Dp.no {n : Nat} {d : D} (h : Dp n d) : noObj d = true := by
  cases n with
  | zero => exact absurd h id
  | succ n =>
    cases d with
    | obj v => exact absurd h id
    | _ => rfl
def isTupD : D → Bool
  | .tup _ => true
  | _ => false
def isLstD : D → Bool
  | .lst _ => true
  | _ => false
def isBlD : D → Bool
  | .bl _ => true
  | _ => false
theorem kd_tup {d : D} (h : noObj d = true) : kitB (tyD d) "tuple" = some (isTupD d) := by cases d <;> first | rfl | decide +kernel | exact absurd h Bool.false_ne_true
theorem kd_lst {d : D} (h : noObj d = true) : kitB (tyD d) "list" = some (isLstD d) := by cases d <;> first | rfl | decide +kernel | exact absurd h Bool.false_ne_true
theorem kd_bl {d : D} (h : noObj d = true) : kitB (tyD d) "bool" = some (isBlD d) := by cases d <;> first | rfl | decide +kernel | exact absurd h Bool.false_ne_true
def isSeq : D → Bool
  | .tup _ => true
  | .lst _ => true
  | _ => false
section
variable {K : PySem.W.Frag} {σ : L2.St} {H : Hp} {ta te : TE} {d : D} {vs : List Nat}
theorem ed_isiT (h : ED K te σ H d) (no : noObj d = true) : ED K (tCB (rIsiT K) (tCons te (tCons (tTup (tCons (tC (.ty "tuple")) (tCons (tC (.ty "list")) tNil))) tNil))) σ H (.bl (isSeq d)) := fun H1 e Q q => h H1 e _ fun v d' H2 e2 p r => by
  have p' : d' = d := p
  subst p'
  refine ⟨(by decide), fun a na => ⟨v, a, _, .type (tyD d'), [.type "tuple", .type "list"], isSeq d', rfl, upd_same, .cons (.ty "tuple") (.cons (.ty "list") .nil), tyx_of (noObj_ne no) (r.le (Le.new na)), ?_, q _ _ _ (e2.trans (Le.new na)) rfl (.bl _)⟩⟩
  have k1 : PySem.W.kitOne K (.type (tyD d')) (.type "tuple") = some (isTupD d') := kit_ty (kd_tup no)
  have k2 : PySem.W.kitOne K (.type (tyD d')) (.type "list") = some (isLstD d') := kit_ty (kd_lst no)
  unfold PySem.W.kitAny
  rw [k1]
  cases d' with
  | tup xs => rfl
  | _ =>
    show PySem.W.kitAny K _ [.type "list"] = _
    unfold PySem.W.kitAny
    rw [k2]
    rfl
theorem CI.le {H' H2 : Hp} {L : Addr} {I : Nat → List D → Prop} {i : Nat} (G : Good I) (c : CI K H L I i H') (e : Le H' H2) : CI K H L I i H2 := by
  obtain ⟨q1, q2, ws, acc, q3, q4, q5⟩ := c
  exact ⟨q1, q2.trans e, ws, acc, e.lst q3 ((G.uni i acc q5).notH q4), q4.le e, q5⟩
theorem ed_lcZ {A : TA} {ds : List D} {j l : Nat} (hd : d = .tup ds ∨ d = .lst ds) (ha : EDA K A σ H [d, d]) (hz : ds.length ≤ 50000) (hw : ∀ x y, wipe (((wipe σ vs).set j (some x)).set l (some y)) vs = wipe σ vs)
    (he : ∀ x v u H1, Le H H1 → x ∈ ds → Rp K H1 v x → Rp K H1 u x → ED K te (((wipe σ vs).set j (some v)).set l (some u)) H1 (.bl true)) :
    ED K (tLc (iZipA K A) (gTup K 2 (gCons (gName j) (gCons (gName l) gNil))) tYes te vs) σ H (.lst ((List.replicate ds.length true).map .bl)) := fun H1 e Q q => ha H1 e _ fun us es H2 e2 p rr => by
  have p' : es = [d, d] := p
  subst p'
  obtain ⟨v, u, rfl, r1, r2⟩ := rps2 rr
  have G := good enc_bl fun i zs => zs = List.replicate i true ∧ i ≤ ds.length
  have fin : ∀ {L : Addr} {H' : Hp}, CI K H2 L (GI D.bl fun i zs => zs = List.replicate i true ∧ i ≤ ds.length) ds.length H' → Q (.ref L) H' := fun c => ci_end G c fun v d H3 e3 p r => q v d H3 (e2.trans e3) (by
    obtain ⟨acc, rfl, zs, rfl, _, rfl, _⟩ := p
    rfl) r
  have turn : ∀ {L : Addr} {H' : Hp} {i : Nat} {x : D} {v u : V} {σ2 : L2.St}, ds[i]? = some x → Rp K H2 v x → Rp K H2 u x → CI K H2 L (GI D.bl fun i zs => zs = List.replicate i true ∧ i ≤ ds.length) i H' → σ2 = ((wipe σ vs).set j (some v)).set l (some u) →
      tYes σ2 H' fun b H3 => if b = true then te σ2 H3 fun y H4 => ∃ ac, H4 L = some (.lst ac) ∧ ac.length < sizeLine ∧ CI K H2 L (GI D.bl fun i zs => zs = List.replicate i true ∧ i ≤ ds.length) (i + 1) (upd H4 L (.lst (ac ++ [y]))) else CI K H2 L (GI D.bl fun i zs => zs = List.replicate i true ∧ i ≤ ds.length) (i + 1) H3 := by
    intro L H' i x v u σ2 hx rv ru c es
    subst es
    have hi := (List.getElem?_eq_some_iff.mp hx).1
    refine ci_turn G c (PT := fun b => b = true) (fun acc ia => et_yes) (fun acc ia _ => ?_) (fun acc ia hf => nomatch hf)
    obtain ⟨zs, rfl, hl, rfl, _⟩ := ia
    refine (he x v u H2 (e.trans e2) (List.mem_of_getElem? hx) rv ru).weak fun d' H3 _ p => ?_
    have p' : d' = .bl true := p
    subst p'
    exact ⟨GI.more (by simp; omega) ⟨by rw [← List.replicate_succ'], hi⟩, .bl _⟩
  rcases hd with rfl | rfl
  · obtain ⟨a, xs, rfl, s, r⟩ := rp_tup r1
    obtain ⟨b, ys, rfl, s2, rb⟩ := rp_tup r2
    refine ⟨a, b, xs, ys, rfl, .inr ⟨s, s2, fun L hL => lc_it (walk_zipT (n := ds.length) (by rw [r.len, rb.len, Nat.min_self])) (CI K H2 L (GI D.bl fun i zs => zs = List.replicate i true ∧ i ≤ ds.length)) (ci_start (I := GI D.bl fun i zs => zs = List.replicate i true ∧ i ≤ ds.length) hL ⟨[], rfl, Nat.zero_le _, rfl, Nat.zero_le _⟩) (fun i H' _ c => ⟨c.2.1.sqt s, c.2.1.sqt s2⟩) ?_ (fun H' c => fin c)⟩⟩
    rintro i x H' H3 hi c ⟨T, x1, x2, rfl, nT, rfl, f1, f2⟩
    obtain ⟨d1, g1, g2⟩ := r.at' f1
    obtain ⟨d2, g3, g4⟩ := rb.at' f2
    have ed : d1 = d2 := Option.some.inj (g1.symm.trans g3)
    subst ed
    exact ⟨T, _, rfl, Evl.st_of upd_same, rfl, _, _, rfl, _, _, rfl, rfl, hw _ _, turn g1 g2 g4 (CI.le G c (Le.new nT)) rfl⟩
  · obtain ⟨a, xs, rfl, s, nh, r⟩ := rp_lst r1
    obtain ⟨b, ys, rfl, s2, nh2, rb⟩ := rp_lst r2
    refine ⟨a, b, xs, ys, rfl, .inl ⟨SqL.of s, SqL.of s2, fun L hL => lc_it (walk_zip (n := ds.length) (by rw [r.len, rb.len, Nat.min_self])) (CI K H2 L (GI D.bl fun i zs => zs = List.replicate i true ∧ i ≤ ds.length)) (ci_start (I := GI D.bl fun i zs => zs = List.replicate i true ∧ i ≤ ds.length) hL ⟨[], rfl, Nat.zero_le _, rfl, Nat.zero_le _⟩) (fun i H' _ c => ⟨SqL.of (c.2.1.lst s nh), SqL.of (c.2.1.lst s2 nh2)⟩) ?_ (fun H' c => fin c)⟩⟩
    rintro i x H' H3 hi c ⟨T, x1, x2, rfl, nT, rfl, f1, f2⟩
    obtain ⟨d1, g1, g2⟩ := r.at' f1
    obtain ⟨d2, g3, g4⟩ := rb.at' f2
    have ed : d1 = d2 := Option.some.inj (g1.symm.trans g3)
    subst ed
    exact ⟨T, _, rfl, Evl.st_of upd_same, rfl, _, _, rfl, _, _, rfl, rfl, hw _ _, turn g1 g2 g4 (CI.le G c (Le.new nT)) rfl⟩
end
structure STxt (mg : Str → Option Value) : Prop extends Txt mg where
  n_zip : mg "zip" = none
/-- == of what is flat, and of empty dicts -/
def rEqX : R2 := fun x y H Q => rEq x y H Q ∨ ∃ a b, x = .ref a ∧ y = .ref b ∧ H a = some (.dK []) ∧ H b = some (.dK []) ∧ Q (.bl true) H
theorem op_eqX {X : Cx} (hu : X.A.units < cLine) : OpR X (compareOp .Eq) rEqX := by
  intro pins s σ H x y v u Q I rx ry h
  rcases h with h | ⟨a, b, rfl, rfl, h1, h2, q⟩
  · exact op_eq pins s σ H x y v u Q I rx ry h
  · exact op_eq_dict hu pins s σ H _ _ v u Q I rx ry ⟨a, b, [], rfl, rfl, h1, h2, List.nodup_nil, (fun p hp => nomatch hp), q⟩
section
variable {P : Program} {w : World} {K : PySem.W.Frag} {mg : Str → Option Value} {base : Heap}
def R_is (n : Nat) : List D → Hp → Pd → Prop := fun ds H P => P = is (.bl true) ∧ ((∃ d, ds = [d, d] ∧ Dp n d) ∨ 0 < n ∧ ∃ p : Addr, ds = [.obj (.ref p), .obj (.ref p)] ∧ H p = some (.dK []))
theorem ok_is (T : STxt mg) (g : GDef K mg "_law_is" s__law_is ["_law_told", "_law_due"]) : ∀ n : Nat, Def P w K mg base (n + 1) "_law_is" ["_law_told", "_law_due"] (spD K (R_is n))
  | 0 => by
    have no : ∀ ds H Pd, ¬ R_is 0 ds H Pd := fun ds H Pd h => by
      rcases h.2 with ⟨d, _, h⟩ | ⟨h, _⟩
      · exact absurd h id
      · exact absurd h (Nat.lt_irrefl 0)
    exact defD g sc__law_is (fun ds H Pd h => (no _ _ _ h).elim) fun cdv A outer s f H vs ds Pd Q E hr r h q => (no _ _ _ h).elim
  | n + 1 => by
    have G_law_is := ok_is T g n
    refine defD g sc__law_is (fun ds H Pd h => ?_) fun cdv A outer s f H vs ds Pd Q E hr r h q => ?_
    · rcases h.2 with ⟨d, rfl, _⟩ | ⟨_, p, rfl, _⟩ <;> rfl
    refine ⟨_, (pss_cons (ps_if (pt_val (pe_callB (kc_isiT (K := K)) (by rfl) T.n_isinstance boot_isinstance (pa_cons (pv 1) (pa_cons (pe_tup (pa_cons (pe_bltn (v := V.ty "tuple") (by rfl) T.n_tuple boot_tuple rfl) (pa_cons (pe_bltn (v := V.ty "list") (by rfl) T.n_list boot_list rfl) pa_nil))) pa_nil))))
      (pss_cons (ps_if (PW.pt (pw_or (pt_cmpR op_ne (pe_callB (kc_isi (K := K)) (by rfl) T.n_isinstance boot_isinstance (pa_cons (pv 0) (pa_cons (pe_bltn (v := V.ty "tuple") (by rfl) T.n_tuple boot_tuple rfl) pa_nil))) (pe_callB (kc_isi (K := K)) (by rfl) T.n_isinstance boot_isinstance (pa_cons (pv 1) (pa_cons (pe_bltn (v := V.ty "tuple") (by rfl) T.n_tuple boot_tuple rfl) pa_nil))) (nomark _)) (pw_or1 (pt_not (pt_val (pe_callB (kc_isiT (K := K)) (by rfl) T.n_isinstance boot_isinstance (pa_cons (pv 0) (pa_cons (pe_tup (pa_cons (pe_bltn (v := V.ty "tuple") (by rfl) T.n_tuple boot_tuple rfl) (pa_cons (pe_bltn (v := V.ty "list") (by rfl) T.n_list boot_list rfl) pa_nil))) pa_nil))))))))
      (pss_one (ps_ret pe_bl))
      pss_nil)
    (pss_one (ps_ret (pe_and (pe_cmpR op_eq (pe_callB (kc_len (K := K)) (by rfl) T.n_len boot_len (pa_cons (pv 0) pa_nil)) (pe_callB (kc_len (K := K)) (by rfl) T.n_len boot_len (pa_cons (pv 1) pa_nil)) (nomark _)) (pe_one (pe_callB (kc_all (K := K) rfl) (by rfl) T.n_all boot_all (pa_cons (pe_lc (own := [("_law_one", 2), ("_law_two", 3)]) rfl sc__law_is.nd (kpi_zipA (K := K) (by rfl) T.n_zip (pa_cons (pv 0) (pa_cons (pv 1) pa_nil))) (blkOk_by (N := N__law_is) (sc := defScope s__law_is) (by decide +kernel)) (fun _ _ _ _ _ => (kpg_tup (K := K) (n := 2) rfl (pgs_cons (pg_name (i := 2) sc__law_is.nd rfl (Or.inl rfl)) (pgs_cons (pg_name (i := 3) sc__law_is.nd rfl (Or.inl rfl)) pgs_nil)))) (fun _ _ _ _ _ => pts_nil) (fun _ _ _ _ _ => (pe_def G_law_is hr (pa_cons (pv 2) (pa_cons (pv 3) pa_nil))))) pa_nil)))))))
      pss_nil)
    (pss_one (ps_ret (pe_and (pe_cmpR op_eq (pe_callB (kc_isi (K := K)) (by rfl) T.n_isinstance boot_isinstance (pa_cons (pv 0) (pa_cons (pe_bltn (v := V.ty "bool") (by rfl) T.n_bool boot_bool rfl) pa_nil))) (pe_callB (kc_isi (K := K)) (by rfl) T.n_isinstance boot_isinstance (pa_cons (pv 1) (pa_cons (pe_bltn (v := V.ty "bool") (by rfl) T.n_bool boot_bool rfl) pa_nil))) (nomark _)) (pe_one (pe_cmpR (op_eqX hr.units0) (pv 0) (pv 1) (nomark _))))))), ?_⟩
    obtain ⟨rfl, h⟩ := h
    rcases h with ⟨d, rfl, hd⟩ | ⟨_, p, rfl, hp⟩
    rotate_left
    · obtain ⟨v1, v2, rfl, r1, r2⟩ := rps2 r
      have e1 := rp_obj r1
      have e2 := rp_obj r2
      subst e1 e2
      have ty : ∀ {H1 : Hp}, Le H H1 → TyX K H1 (.ref p) (.type "dict") := fun e => .base (.dK (e.dK hp))
      have hT : ∀ {H1 : Hp} {σ : L2.St} {j : Nat}, Le H H1 → σ[j]? = some (some (.ref p)) → ED K (tCB (rIsiT K) (tCons (tVar j) (tCons (tTup (tCons (tC (.ty "tuple")) (tCons (tC (.ty "list")) tNil))) tNil))) σ H1 (.bl false) := fun e hs H2 e2 Q q =>
        ⟨_, hs, (by decide), fun a na => ⟨.ref p, a, _, .type "dict", [.type "tuple", .type "list"], false, rfl, upd_same, .cons (.ty "tuple") (.cons (.ty "list") .nil), ty ((e.trans e2).trans (Le.new na)), (by
          unfold PySem.W.kitAny
          rw [show PySem.W.kitOne K (.type "dict") (.type "tuple") = some false from kit_ty (by decide +kernel)]
          dsimp only
          unfold PySem.W.kitAny
          rw [show PySem.W.kitOne K (.type "dict") (.type "list") = some false from kit_ty (by decide +kernel)]
          rfl), q _ _ _ (Le.new na) rfl (.bl _)⟩⟩
      have hB : ∀ {H1 : Hp} {σ : L2.St} {j : Nat}, Le H H1 → σ[j]? = some (some (.ref p)) → ED K (tCB (rIsi K) (tCons (tVar j) (tCons (tC (.ty "bool")) tNil))) σ H1 (.bl false) := fun e hs H2 e2 Q q =>
        ⟨_, hs, .ref p, .ty "bool", .type "dict", .type "bool", false, rfl, .ty "bool", ty (e.trans e2), kit_ty (by decide +kernel), q _ _ _ (Le.refl _) rfl (.bl _)⟩
      refine q_whenB (b := false) (et_B (K := K) (hT (Le.refl _) rfl)) (fun hb => nomatch hb) (fun _ H1 e1 => ?_)
      refine s_retD (K := K) (d := .bl true) (ed_eq (ed_andV (a := true) (b := true) (ed_eq (ed_eqS (d1 := .bl false) (d2 := .bl false) (hB e1 rfl) (hB e1 rfl) rfl rfl rfl) (congrArg D.bl (decide_eq_true rfl))) fun _ H2 e2 Q' q' => ?_) rfl) fun v H3 e3 r => q v _ H3 (e1.trans e3) rfl r
      exact ⟨_, rfl, _, rfl, .inr ⟨p, p, rfl, rfl, (e1.trans e2).dK hp, (e1.trans e2).dK hp, q' _ _ H2 (Le.refl _) rfl (.bl _)⟩⟩
    obtain ⟨v1, v2, rfl, r1, r2⟩ := rps2 r
    have no := hd.no
    have vsb : ∀ b : Bool, decide (vOf (.bl b) = vOf (.bl b)) = true := fun b => decide_eq_true rfl
    have hlen : ∀ {H1 : Hp} {σ : L2.St} {j : Nat} {v : V} {ds : List D}, (d = .tup ds ∨ d = .lst ds) → σ[j]? = some (some v) → Rp K H1 v d → ED K (tCB (fun xs H Q => ∃ p ys, xs = [.ref p] ∧ (SqL K H p ys ∨ SqT K H p ys) ∧ Q (.int ys.length) H) (tCons (tVar j) tNil)) σ H1 (.int (ds.length : Int)) := by
      intro H1 σ j v ds hd hs r
      rcases hd with rfl | rfl
      · exact ed_lenT (ed_var hs r)
      · exact ed_lenL (ed_var hs r)
    refine q_whenB (b := isSeq d) (et_B (K := K) (ed_isiT (ed_var rfl r2) no)) (fun hb H1 e1 => ?_) (fun hb H1 e1 => ?_)
    · obtain ⟨ds, hds, hz, hdp⟩ : ∃ ds, (d = .tup ds ∨ d = .lst ds) ∧ ds.length ≤ 50000 ∧ ∀ x ∈ ds, Dp n x := by
        cases d with
        | tup xs => exact ⟨xs, .inl rfl, hd.1, hd.2⟩
        | lst xs => exact ⟨xs, .inr rfl, hd.1, hd.2⟩
        | _ => cases hb
      refine q_no (b := false) (eb_eq (eb_or (a := false) (b := false) (eb_eq (et_test (K := K) (ed_neS (ed_isi (ed_var rfl (r1.le e1)) (noObj_ne no) (kd_tup no)) (ed_isi (ed_var rfl (r2.le e1)) (noObj_ne no) (kd_tup no)) rfl rfl rfl)) (by rw [vsb]; rfl)) fun _ => eb_eq (eb_not (et_B (K := K) (ed_isiT (ed_var rfl (r1.le e1)) no))) (by rw [hb]; rfl)) rfl) rfl fun H2 e2 => ?_
      refine s_retD (K := K) (d := .bl true) (ed_eq (ed_andV (a := true) (b := true) (ed_eq (ed_eqS (d1 := .int (ds.length : Int)) (d2 := .int (ds.length : Int)) (hlen hds rfl (r1.le (e1.trans e2))) (hlen hds rfl (r2.le (e1.trans e2))) rfl rfl rfl) (congrArg D.bl (decide_eq_true rfl))) fun _ => ed_eq (ed_all (bs := List.replicate ds.length true) (ed_lcZ hds (ea_cons (ed_var rfl (r1.le (e1.trans e2))) (ea_cons (ed_var rfl (r2.le (e1.trans e2))) ea_nil)) hz (fun _ _ => rfl) fun x v u H3 e3 hx rv ru => ed_call (ea_cons (ed_var rfl rv) (ea_cons (ed_var rfl ru) ea_nil)) fun H4 e4 => ⟨rfl, .inl ⟨x, rfl, hdp x hx⟩⟩)) ?_) rfl) fun v H3 e3 r => q v _ H3 ((e1.trans e2).trans e3) rfl r
      congr 1
      rw [List.all_eq_true]
      intro b hb2
      rw [List.eq_of_mem_replicate hb2]
      rfl
    · have hf : flat d = true := by cases d <;> first | rfl | cases hb
      have hs : scal (vOf d) (vOf d) = true := by cases d <;> first | rfl | exact absurd no Bool.false_ne_true | cases hb
      have kb := kd_bl no
      exact s_retD (K := K) (d := .bl true) (ed_eq (ed_andV (a := true) (b := true) (ed_eq (ed_eqS (ed_isi (ed_var rfl (r1.le e1)) (noObj_ne no) kb) (ed_isi (ed_var rfl (r2.le e1)) (noObj_ne no) kb) rfl rfl rfl) (congrArg D.bl (vsb _))) fun _ => ed_op (ed_var rfl (r1.le e1)) (ed_var rfl (r2.le e1)) fun x y H2 _ q1 q2 Q q => .inl ⟨by rw [rp_flat hf q1, rp_flat hf q2]; exact hs, by rw [rp_flat hf q1, rp_flat hf q2, decide_eq_true rfl]; exact q _ _ H2 (Le.refl _) rfl (.bl _)⟩) rfl) fun v H3 e3 r => q v _ H3 (e1.trans e3) rfl r
end
end W1

set_option maxRecDepth 100000
set_option maxHeartbeats 4000000
namespace W1
open PySem PyProof.Rows L2 RZ
local macro_rules | `(tactic| walk_at "rp") => `(tactic| first | assumption | exact Rp.int _ | exact Rp.bl _ | exact Rp.str _ | exact Rp.non | exact Rp.obj _ | (refine Rp.le (by assumption) ?_; walk_at "rp"))
local macro_rules | `(tactic| walk_at "ed") => `(tactic| first
  | exact ed_int | exact ed_str | exact ed_bl | exact ed_non
  | (refine ed_var rfl ?_; walk_at "rp")
  | (refine ed_ixT (ds := [_, _]) ?_ ed_int (by decide) rfl; walk_at "ed")
  | (refine ed_I0 ?_ ?_ <;> walk_at "ed")
  | (refine ed_B0 ?_ ?_ <;> walk_at "ed")
  | (refine ed_eqS ?_ ?_ rfl rfl rfl <;> walk_at "ed")
  | assumption)
local macro_rules | `(tactic| walk_at "ea") => `(tactic| first | exact ea_nil | (refine ea_cons ?_ ?_; walk_at "ed"; walk_at "ea"))

abbrev s__law_nested : Stmt := topS 52
abbrev N__law_nested : List Str := ["_law_hand_here", "_law_thing", "_law_turn"]
theorem sc__law_nested : FnScope N__law_nested ["_law_hand_here"] (defScope s__law_nested) := ⟨rfl, rfl, rfl, by decide +kernel, rfl, by decide +kernel, by decide +kernel⟩
section
variable {P : Program} {w : World} {K : PySem.W.Frag} {mg : Str → Option Value} {base : Heap}
def NT (d : D) : Prop := ∀ a b t, d ≠ .tup [a, b, .int t]
/-- what is nested -/
structure Ns (d : D) : Prop where
  nt : NT d
  it : ∀ xs, d = .tup xs → xs.length ≤ 1 ∧ ∀ x ∈ xs, NT x
theorem ns_not {d : D} (h : ∀ xs, d ≠ .tup xs) : Ns d := ⟨fun _ _ _ => h _, fun xs e => absurd e (h xs)⟩
theorem ns_one {d : D} (h : NT d) : Ns (.tup [d]) := ⟨fun _ _ _ e => (nomatch e), fun xs e => by
  injection e with e
  subst e
  exact ⟨Nat.le_refl _, fun x hx => by rw [List.mem_singleton.mp hx]; exact h⟩⟩
def R_nested : List D → Hp → Pd → Prop := fun ds H P => ∃ h : Addr, ds = [.obj (.ref h)] ∧ Hand H h ∧ P = fun d H2 => Th H2 d ∧ Ns d
theorem ok_nested (T : STxt mg) (g : GDef K mg "_law_nested" s__law_nested ["_law_hand_here"]) (G_law_any : Def P w K mg base 2 "_law_any" ["_law_hand_here", "_law_items"] (spD K R_any)) : Def P w K mg base 3 "_law_nested" ["_law_hand_here"] (spD K R_nested) := by
  refine defD g sc__law_nested (fun ds H Pd h => ?_) fun cdv A outer s f H vs ds Pd Q E hr r h q => ?_
  · obtain ⟨h, rfl, _⟩ := h
    rfl
  obtain ⟨h, rfl, hh, rfl⟩ := h
  obtain ⟨v1, rfl, r1⟩ := rps1 r
  have ev := rp_obj r1
  subst ev
  refine ⟨_, (pss_cons (ps_set (i := 1) sc__law_nested.nd rfl (Or.inl rfl) (pe_def G_law_any (hr.mono (by decide)) (pa_cons (pv 0) (pa_cons (pe_lst (pa_cons (pe_tup pa_nil) (pa_cons pe_int (pa_cons pe_str (pa_cons pe_non pa_nil))))) pa_nil))))
    (pss_cons (ps_for PassesOwn.never rfl (pi_range1 (by rfl) T.n_range (pa_cons pe_int pa_nil)) (pg_name (i := 2) sc__law_nested.nd rfl (Or.inl rfl))
      (pss_one (ps_set (i := 1) sc__law_nested.nd rfl (Or.inl rfl) (pe_ifExp (pt_cmpR op_eq (pe_op op_mod (pe_callTy call_int1 (by rfl) T.n_int boot_int (pa_cons (pv 2) pa_nil)) pe_int) pe_int (nomark _)) (pe_lst (pa_cons (pv 1) pa_nil)) (pe_tup (pa_cons (pv 1) pa_nil))))))
    (pss_one (ps_ret (pv 1))))), ?_⟩
  refine q_asg (K := K) (ep_any (K := K) (PX := fun xs => xs = [.tup [], .int 0, .str "a", .non]) hh (EA_weak (ea_cons (ed_var rfl (.obj (.ref h))) (ea_cons (ed_lst (ea_cons (ed_tup ea_nil (by decide)) (ea_cons ed_int (ea_cons ed_str (ea_cons ed_non ea_nil)))) (by show 4 ≤ 100000; decide) rfl) ea_nil)) fun ds H2 p => ⟨_, p, rfl⟩) fun xs hx => by rw [hx]; exact ⟨(fun h => nomatch h), by show 4 ≤ 100000; decide⟩) fun v d H1 e1 p r2 => ?_
  have hd : ∀ H', Th H' d ∧ Ns d := by
    obtain ⟨xs, rfl, hm⟩ := p
    simp only [List.mem_cons, List.not_mem_nil, or_false] at hm
    intro H'
    rcases hm with rfl | rfl | rfl | rfl
    · exact ⟨.tup (Nat.zero_le _) fun x hx => (nomatch hx), ⟨fun _ _ _ e => (nomatch e), fun xs e => by injection e with e; subst e; exact ⟨Nat.zero_le _, fun x hx => nomatch hx⟩⟩⟩
    · exact ⟨.sc rfl, ns_not fun _ e => nomatch e⟩
    · exact ⟨.sc rfl, ns_not fun _ e => nomatch e⟩
    · exact ⟨.sc rfl, ns_not fun _ e => nomatch e⟩
  refine q_forR1 (K := K) (n := 36) (ea_cons ed_int ea_nil) (by omega) fun H2 e2 => ?_
  refine ⟨fun i σ H' => ∃ v y d, σ = [some (.ref h), some v, y] ∧ Le H H' ∧ Rp K H' v d ∧ Th H' d ∧ Ns d, ⟨v, none, d, rfl, e1.trans e2, r2.le e2, hd _⟩, ?_, ?_⟩
  · rintro i σ' H3 hi ⟨v, y, d, rfl, e, r2, hd, hs⟩
    refine s_asg (K := K) (P := fun d' H4 => Th H4 d' ∧ Ns d') (ep_if (et_test (K := K) (ed_eqS (d2 := .int 4) (ed_I (f := fun i j => i % j) (ed_int1 (ed_var rfl (.int (i : Int)))) ed_int (by show (0 : Int) < 5; decide)) ed_int rfl rfl rfl)) (fun _ => ?_) fun _ => ?_) fun v' d' H4 e4 p r => ⟨v', _, d', rfl, e.trans e4, r, p⟩
    · refine EP.weak (ep_lstO (P := fun ds _ => ds = [d]) (ea_cons (ed_var rfl r2) ea_nil) (fun ds H4 p => by rw [p]; show 1 ≤ 100000; decide)) fun d' H4 _ p => ?_
      obtain ⟨u, rfl, ho⟩ := p
      exact ⟨.ob ho, ns_not fun _ e => nomatch e⟩
    · refine EP.weak (ed_tup (ea_cons (ed_var rfl r2) ea_nil) (by show 1 ≤ 100000; decide)) fun d' H4 e4 p => ?_
      have p' : d' = .tup [d] := p
      subst p'
      exact ⟨.tup (by show 1 ≤ 50000; decide) fun x hx => by rw [List.mem_singleton.mp hx]; exact hd.le e4, ns_one hs.nt⟩
  · rintro σ' H3 ⟨v, y, d, rfl, e, r2, hd, hs⟩
    exact s_ret (K := K) (P := fun d' H4 => Th H4 d' ∧ Ns d') (EP.weak (ed_var rfl r2) fun d' H4 e4 p => by
      have p' : d' = d := p
      subst p'
      exact ⟨hd.le e4, hs⟩) fun v' d' H4 e4 p r => q v' d' H4 (e.trans e4) p r
end
end W1

set_option maxRecDepth 100000
set_option maxHeartbeats 4000000
/-! the law's own judging, and what the program tells -/
namespace W1
open PySem PyProof.Rows L2
local macro_rules | `(tactic| walk_at "rp") => `(tactic| first | assumption | exact Rp.int _ | exact Rp.bl _ | exact Rp.str _ | exact Rp.non | exact Rp.obj _ | (refine Rp.le (by assumption) ?_; walk_at "rp"))
local macro_rules | `(tactic| walk_at "ed") => `(tactic| first
  | exact ed_int | exact ed_str | exact ed_bl | exact ed_non
  | (refine ed_var rfl ?_; walk_at "rp")
  | (refine ed_ixT (ds := [_, _]) ?_ ed_int (by decide) rfl; walk_at "ed")
  | (refine ed_I0 ?_ ?_ <;> walk_at "ed")
  | (refine ed_B0 ?_ ?_ <;> walk_at "ed")
  | (refine ed_eqS ?_ ?_ rfl rfl rfl <;> walk_at "ed")
  | assumption)
local macro_rules | `(tactic| walk_at "ea") => `(tactic| first | exact ea_nil | (refine ea_cons ?_ ?_; walk_at "ed"; walk_at "ea"))

abbrev s__law_int : Stmt := topS 57
abbrev N__law_int : List Str := ["_law_thing", "_law_least", "_law_most"]
theorem sc__law_int : FnScope N__law_int ["_law_thing", "_law_least", "_law_most"] (defScope s__law_int) := ⟨rfl, rfl, rfl, by decide +kernel, rfl, by decide +kernel, by decide +kernel⟩
abbrev s__law_wrong : Stmt := topS 58
abbrev N__law_wrong : List Str := ["_law_memories", "_law_ties", "_law_at", "_law_tie", "_law_memory", "_law_room"]
theorem sc__law_wrong : FnScope N__law_wrong ["_law_memories", "_law_ties"] (defScope s__law_wrong) := ⟨rfl, rfl, rfl, by decide +kernel, rfl, by decide +kernel, by decide +kernel⟩
abbrev s__law_told_part : Stmt := topS 59
abbrev N__law_told_part : List Str := ["_law_memories", "_law_ties", "_law_web", "_law_told", "e"]
theorem sc__law_told_part : FnScope N__law_told_part ["_law_memories", "_law_ties"] (defScope s__law_told_part) := ⟨rfl, rfl, rfl, by decide +kernel, rfl, by decide +kernel, by decide +kernel⟩
section
variable {P : Program} {w : World} {K : PySem.W.Frag} {mg : Str → Option Value} {base : Heap} {C CB CT CG : Addr}
theorem sub_bl {d : D} (hs : subI d = true) (hi : isI d = false) : blB d = true := by
  cases d with
  | bl b => rfl
  | int i => cases hi
  | _ => cases hs
def R_lint : List D → Hp → Pd → Prop := fun ds H P => ∃ d l m, ds = [d, .int l, .int m] ∧ Tk H d ∧ P = is (.bl (btw l m d))
theorem ok_lint (T : Txt mg) (g : GDef K mg "_law_int" s__law_int ["_law_thing", "_law_least", "_law_most"]) : Def P w K mg base 1 "_law_int" ["_law_thing", "_law_least", "_law_most"] (spD K R_lint) := by
  refine defD g sc__law_int (fun ds H Pd h => ?_) fun cdv A outer s f H vs ds Pd Q E hr r h q => ?_
  · obtain ⟨d, l, m, rfl, _⟩ := h
    rfl
  obtain ⟨d, l, m, rfl, hk, rfl⟩ := h
  obtain ⟨v1, v2, v3, rfl, r1, r2, r3⟩ := rps3 r
  refine ⟨_, (pss_one (ps_ret (pe_and (pe_callB (kc_isi (K := K)) (by rfl) T.n_isinstance boot_isinstance (pa_cons (pv 0) (pa_cons (pe_bltn (v := V.ty "int") (by rfl) T.n_int boot_int rfl) pa_nil))) (pe_and (pe_not (pe_callB (kc_isi (K := K)) (by rfl) T.n_isinstance boot_isinstance (pa_cons (pv 0) (pa_cons (pe_bltn (v := V.ty "bool") (by rfl) T.n_bool boot_bool rfl) pa_nil)))) (pe_one (pe_chain op_le op_le (pv 1) (pv 0) (pv 2))))))), ?_⟩
  have hI := ed_isInt (K := K) (σ := [some v1, some v2, some v3]) (ta := tVar 0) (ed_var rfl r1) hk
  have hB := ed_isBool (K := K) (σ := [some v1, some v2, some v3]) (ta := tVar 0) (ed_var rfl r1) hk
  cases hi : isI d with
  | true =>
    obtain ⟨i, rfl⟩ : ∃ i, d = .int i := by
      cases d with
      | int i => exact ⟨i, rfl⟩
      | _ => cases hi
    exact s_retD (ed_andV (a := true) hI fun _ => ed_andV (a := true) (ed_notV hB) fun _ => ed_chain (f := fun i j => decide (i ≤ j)) (g := fun i j => decide (i ≤ j)) (ed_var rfl r2) (ed_var rfl r1) (ed_var rfl r3)) fun v H1 e1 r => q v _ H1 e1 rfl r
  | false =>
    have hf : btw l m d = false := by cases d <;> first | rfl | cases hi
    cases hs : subI d with
    | false => exact s_retD (ed_andV (a := false) (b := true) (ed_eq hI (by rw [hs])) fun h => nomatch h) fun v H1 e1 r => q v _ H1 e1 (by rw [hf]; rfl) r
    | true =>
      have hb : blB d = true := sub_bl hs hi
      exact s_retD (ed_andV (a := true) (b := false) (ed_eq hI (by rw [hs])) fun _ => ed_eq (ed_andV (a := false) (b := true) (ed_eq (ed_notV hB) (by rw [hb]; rfl)) fun h => nomatch h) rfl) fun v H1 e1 r => q v _ H1 e1 (by rw [hf]; rfl) r

def resD (dm dt : D) : D := (partD dm dt).getD .non
def R_wrong : List D → Hp → Pd → Prop := fun ds H P => ∃ dm dt, ds = [dm, dt] ∧ Th H dm ∧ Th H dt ∧ P = is (resD dm dt)
theorem ok_wrong (T : Txt mg) (g : GDef K mg "_law_wrong" s__law_wrong ["_law_memories", "_law_ties"]) (G_law_int : Def P w K mg base 1 "_law_int" ["_law_thing", "_law_least", "_law_most"] (spD K R_lint)) : Def P w K mg base 2 "_law_wrong" ["_law_memories", "_law_ties"] (spD K R_wrong) := by
  refine defD g sc__law_wrong (fun ds H Pd h => ?_) fun cdv A outer s f H vs ds Pd Q E hr r h q => ?_
  · obtain ⟨dm, dt, rfl, _⟩ := h
    rfl
  obtain ⟨dm, dt, rfl, tm, tt, rfl⟩ := h
  obtain ⟨v1, v2, rfl, r1, r2⟩ := rps2 r
  refine ⟨_, (pss_cons (ps_if (PW.pt (pw_or (pt_not (pt_val (pe_callB (kc_isi (K := K)) (by rfl) T.n_isinstance boot_isinstance (pa_cons (pv 0) (pa_cons (pe_bltn (v := V.ty "tuple") (by rfl) T.n_tuple boot_tuple rfl) pa_nil))))) (pw_or1 (pt_not (pt_chain op_le op_le pe_int (pe_callB (kc_len (K := K)) (by rfl) T.n_len boot_len (pa_cons (pv 0) pa_nil)) pe_int)))))
      (pss_one (ps_ret pe_str))
      pss_nil)
    (pss_cons (ps_if (pt_not (pt_val (pe_callB (kc_all (K := K) rfl) (by rfl) T.n_all boot_all (pa_cons (pe_lc (own := [("_law_memory", 4)]) rfl sc__law_wrong.nd (kpi_tup (K := K) (pv 0)) (blkOk_by (N := N__law_wrong) (sc := defScope s__law_wrong) (by decide +kernel)) (fun _ _ _ _ _ => (pg_name (i := 4) sc__law_wrong.nd rfl (Or.inl rfl))) (fun _ _ _ _ _ => pts_nil) (fun _ _ _ _ _ => (pe_def G_law_int (hr.mono (by decide)) (pa_cons (pv 4) (pa_cons pe_int (pa_cons pe_int pa_nil)))))) pa_nil))))
      (pss_one (ps_ret pe_str))
      pss_nil)
    (pss_cons (ps_if (pt_not (pt_val (pe_callB (kc_isi (K := K)) (by rfl) T.n_isinstance boot_isinstance (pa_cons (pv 1) (pa_cons (pe_bltn (v := V.ty "tuple") (by rfl) T.n_tuple boot_tuple rfl) pa_nil)))))
      (pss_one (ps_ret pe_str))
      pss_nil)
    (pss_cons (ps_for PassesOwn.never rfl (kpi_enumT (K := K) (by rfl) T.n_enumerate (pa_cons (pv 1) pa_nil)) (kpg_tup (K := K) (n := 2) rfl (pgs_cons (pg_name (i := 2) sc__law_wrong.nd rfl (Or.inl rfl)) (pgs_cons (pg_name (i := 3) sc__law_wrong.nd rfl (Or.inl rfl)) pgs_nil)))
      (pss_cons (ps_if (PW.pt (pw_or (pt_not (pt_val (pe_callB (kc_isi (K := K)) (by rfl) T.n_isinstance boot_isinstance (pa_cons (pv 3) (pa_cons (pe_bltn (v := V.ty "tuple") (by rfl) T.n_tuple boot_tuple rfl) pa_nil))))) (pw_or1 (pt_cmpR op_ne (pe_callB (kc_len (K := K)) (by rfl) T.n_len boot_len (pa_cons (pv 3) pa_nil)) pe_int (nomark _)))))
      (pss_one (ps_ret (pv 2)))
      pss_nil)
    (pss_cons (ps_if (pt_not (pt_val (pe_callB (kc_all (K := K) rfl) (by rfl) T.n_all boot_all (pa_cons (pe_lc (own := [("_law_room", 5)]) rfl sc__law_wrong.nd (kpi_tup (K := K) (pv 3)) (blkOk_by (N := N__law_wrong) (sc := defScope s__law_wrong) (by decide +kernel)) (fun _ _ _ _ _ => (pg_name (i := 5) sc__law_wrong.nd rfl (Or.inl rfl))) (fun _ _ _ _ _ => pts_nil) (fun _ _ _ _ _ => (pe_def G_law_int (hr.mono (by decide)) (pa_cons (pv 5) (pa_cons pe_int (pa_cons (pe_op op_sub (pe_callB (kc_len (K := K)) (by rfl) T.n_len boot_len (pa_cons (pv 0) pa_nil)) pe_int) pa_nil)))))) pa_nil))))
      (pss_one (ps_ret (pv 2)))
      pss_nil)
    (pss_one (ps_if (PW.pt (pw_or (pt_cmpR op_ge (pe_ix (kix_tup (K := K)) (pv 3) pe_int (fun _ _ => rfl)) (pe_ix (kix_tup (K := K)) (pv 3) pe_int (fun _ _ => rfl)) (nomark _)) (pw_or1 (PW.pt (pw_and (pt_cmpR op_gt (pv 2) pe_int (nomark _)) (pw_and1 (pt_cmpR (kop_leT (K := K) hr.units0) (pv 3) (pe_ix (kix_tup (K := K)) (pv 1) (pe_op op_sub (pv 2) pe_int) (fun _ _ => rfl)) (nomark _))))))))
      (pss_one (ps_ret (pv 2)))
      pss_nil)))))
    (pss_one (ps_ret pe_non)))))), ?_⟩
  have fin : ∀ {d : D} {te : TE} {σ : L2.St} {H1 : Hp}, resD dm dt = d → Le H H1 → ED K te σ H1 d → tRet te { nx := fun _ H' => Q .non H', rt := Q } σ H1 := fun {d te σ H1} hd e h => s_retD h fun v H2 e2 r => q v _ H2 (e.trans e2) hd.symm r
  have badm : memB dm = false → resD dm dt = .str "memories" := fun h => by
    unfold resD partD
    rw [h]
    rfl
  by_cases hd : tupB dm = false
  · refine q_whenB (b := true) (eb_eq (eb_or (a := true) (b := true) (eb_eq (eb_not (et_B (K := K) (ed_isTup (ed_var rfl r1) tm.tk))) (by rw [hd]; rfl)) fun h => nomatch h) rfl) (fun _ H1 e1 => fin (badm (by cases dm <;> first | rfl | cases hd)) e1 ed_str) fun h => nomatch h
  obtain ⟨xs, rfl⟩ : ∃ xs, dm = .tup xs := by
    cases dm with
    | tup xs => exact ⟨xs, rfl⟩
    | _ => exact absurd rfl hd
  obtain ⟨hz, hi⟩ := tm.items
  refine q_whenB (b := !btw 1 60 (.int (xs.length : Int))) (eb_eq (eb_or (a := false) (eb_eq (eb_not (et_B (K := K) (ed_isTup (ed_var rfl r1) tm.tk))) rfl) fun _ => eb_not (et_test (K := K) (ed_chain (f := fun i j => decide (i ≤ j)) (g := fun i j => decide (i ≤ j)) ed_int (ed_lenT (ed_var rfl r1)) ed_int))) (Bool.false_or _)) (fun hb H1 e1 => ?_) fun hb H1 e1 => ?_
  · rw [Bool.not_eq_true'] at hb
    exact fin (badm (by show (_ && _) = false; rw [hb]; rfl)) e1 ed_str
  rw [Bool.not_eq_false'] at hb
  refine q_whenB (b := !xs.all (btw 0 30)) (eb_not (et_B (K := K) (ed_allT (g := btw 0 30) (ed_var rfl (r1.le e1)) hz (fun _ => rfl) fun b v H2 e hb r => ed_call (ea_cons (ed_var rfl r) (ea_cons ed_int (ea_cons ed_int ea_nil))) fun H3 e3 => ⟨b, 0, 30, rfl, ((hi b hb).le ((e1.trans e).trans e3)).tk, rfl⟩))) (fun hb2 H2 e2 => ?_) fun hb2 H2 e2 => ?_
  · rw [Bool.not_eq_true'] at hb2
    exact fin (badm (by show (_ && _) = false; rw [hb2, Bool.and_false])) (e1.trans e2) ed_str
  rw [Bool.not_eq_false'] at hb2
  have hm : memB (.tup xs) = true := by show (_ && _) = true; rw [hb, hb2]; rfl
  have res : resD (.tup xs) dt = (tiesPart (xs.length : Int) dt).getD .non := by
    unfold resD partD
    rw [if_pos hm]
    rfl
  generalize hn : (xs.length : Int) = n at *
  have e12 := e1.trans e2
  by_cases hd2 : tupB dt = false
  · refine q_whenB (b := true) (eb_eq (eb_not (et_B (K := K) (ed_isTup (ed_var rfl (r2.le e12)) (tt.le e12).tk))) (by rw [hd2]; rfl)) (fun _ H3 e3 => fin (by rw [res]; cases dt <;> first | rfl | cases hd2) (e12.trans e3) ed_str) fun h => nomatch h
  obtain ⟨ts, rfl⟩ : ∃ ts, dt = .tup ts := by
    cases dt with
    | tup ts => exact ⟨ts, rfl⟩
    | _ => exact absurd rfl hd2
  obtain ⟨hz2, hi2⟩ := tt.items
  refine q_no (b := false) (eb_eq (eb_not (et_B (K := K) (ed_isTup (ed_var rfl (r2.le e12)) (tt.le e12).tk))) rfl) rfl fun H3 e3 => ?_
  have e13 := e12.trans e3
  refine s_forE (K := K) (ds := ts) (ea_cons (ed_var rfl (r2.le e13)) ea_nil) (fun d hd => (hi2 d hd).noL) fun H4 e4 => ?_
  have e14 := e13.trans e4
  refine ⟨fun i σ H' => ∃ y1 y2 y3 y4, σ = [some v1, some v2, y1, y2, y3, y4] ∧ Le H4 H' ∧ ∀ j, j < i → okAt n ts j = true, ⟨none, none, none, none, rfl, Le.refl _, fun j h => absurd h (Nat.not_lt_zero _)⟩, fun i σ H' _ ⟨_, _, _, _, _, e, _⟩ => e.t, ?_, ?_⟩
  · rintro i d v σ' H' H5 hdi ⟨y1, y2, y3, y4, rfl, e, hok⟩ e5 rv
    have hil : i < ts.length := (List.getElem?_eq_some_iff.mp hdi).1
    have gi : ts.getD i .non = d := by rw [List.getD_eq_getElem?_getD, hdi]; rfl
    have e15 := (e14.trans e).trans e5
    have td : Th H5 d := (hi2 d (List.mem_of_getElem? hdi)).le e15
    refine ⟨rfl, ?_⟩
    have bad2 : okAt n ts i = false → resD (.tup xs) (.tup ts) = .int (i : Int) := fun hb => by
      rw [res]
      unfold tiesPart firstBad
      dsimp only
      rw [find_some hil (fun j hj => by rw [hok j hj]; rfl) (by rw [hb]; rfl)]
      rfl
    have fin2 : ∀ {H6 : Hp} {σ : L2.St}, okAt n ts i = false → Le H5 H6 → σ[2]? = some (some (.int (i : Int))) → tRet (tVar 2) { nx := fun _ H' => Q .non H', rt := Q } σ H6 := fun hb e6 s2 => fin (bad2 hb) (e15.trans e6) (ed_var s2 (.int (i : Int)))
    by_cases ht : tupB d = false
    · refine q_whenB (b := true) (eb_eq (eb_or (a := true) (b := true) (eb_eq (eb_not (et_B (K := K) (ed_isTup (ed_var rfl rv) td.tk))) (by rw [ht]; rfl)) fun h => nomatch h) rfl) (fun _ H6 e6 => fin2 (by unfold okAt; rw [gi]; cases d <;> first | rfl | cases ht) e6 rfl) fun h => nomatch h
    obtain ⟨zs, rfl⟩ : ∃ zs, d = .tup zs := by
      cases d with
      | tup zs => exact ⟨zs, rfl⟩
      | _ => exact absurd rfl ht
    obtain ⟨hz3, hi3⟩ := td.items
    refine q_whenB (b := !decide ((zs.length : Int) = 2)) (eb_eq (eb_or (a := false) (eb_eq (eb_not (et_B (K := K) (ed_isTup (ed_var rfl rv) td.tk))) rfl) fun _ => eb_eq (et_test (K := K) (ed_neS (d1 := .int (zs.length : Int)) (d2 := .int 2) (ed_lenT (ed_var rfl rv)) ed_int rfl rfl rfl)) (by rw [vs_int])) (Bool.false_or _)) (fun hb3 H6 e6 => ?_) fun hb3 H6 e6 => ?_
    · rw [Bool.not_eq_true'] at hb3
      have hb3 := of_decide_eq_false hb3
      refine fin2 ?_ e6 rfl
      unfold okAt
      rw [gi]
      match zs, hb3 with
      | [], _ => rfl
      | [_], _ => rfl
      | [_, _], h => exact absurd rfl h
      | _ :: _ :: _ :: _, _ => rfl
    rw [Bool.not_eq_false'] at hb3
    have hb3 := of_decide_eq_true hb3
    obtain ⟨a, b, rfl⟩ : ∃ a b, zs = [a, b] := by
      match zs, hb3 with
      | [a, b], _ => exact ⟨a, b, rfl⟩
      | [], h => cases h
      | [_], h => cases h
      | _ :: _ :: _ :: _, h =>
        simp only [List.length_cons] at h
        omega
    have e16 := e15.trans e6
    have rv6 := rv.le e6
    refine q_whenB (b := !([a, b].all (btw 0 (n - 1)))) (eb_not (et_B (K := K) (ed_allT (g := btw 0 (n - 1)) (ed_var rfl rv6) hz3 (fun _ => rfl) fun x v H7 e hx r => ed_call (ea_cons (ed_var rfl r) (ea_cons ed_int (ea_cons (ed_I0 (f := fun i j => i - j) (ed_eq (ed_lenT (ed_var rfl (r1.le (e16.trans e)))) (by rw [hn])) ed_int) ea_nil))) fun H8 e8 => ⟨x, 0, n - 1, rfl, ((hi3 x hx).le ((e6.trans e).trans e8)).tk, rfl⟩))) (fun hb4 H7 e7 => ?_) fun hb4 H7 e7 => ?_
    · rw [Bool.not_eq_true'] at hb4
      refine fin2 ?_ (e6.trans e7) rfl
      replace hb4 : (btw 0 (n - 1) a && (btw 0 (n - 1) b && true)) = false := hb4
      unfold okAt
      rw [gi]
      show ((btw 0 (n - 1) a && (btw 0 (n - 1) b && ltI a b)) && _) = false
      cases h1 : btw 0 (n - 1) a with
      | false => rfl
      | true =>
        rw [h1] at hb4
        cases h2 : btw 0 (n - 1) b with
        | false => rfl
        | true =>
          rw [h2] at hb4
          cases hb4
    rw [Bool.not_eq_false'] at hb4
    replace hb4 : (btw 0 (n - 1) a && (btw 0 (n - 1) b && true)) = true := hb4
    rw [Bool.and_eq_true, Bool.and_eq_true] at hb4
    obtain ⟨h1, h2, _⟩ := hb4
    obtain ⟨i1, rfl, _⟩ := btw_int h1
    obtain ⟨j1, rfl, _⟩ := btw_int h2
    have rv7 := rv6.le e7
    have tv : tieB n (.tup [.int i1, .int j1]) = decide (i1 < j1) := by
      show (btw 0 (n - 1) (.int i1) && (btw 0 (n - 1) (.int j1) && decide (i1 < j1))) = _
      rw [h1, h2]
      rfl
    refine s_ifB (b := decide (j1 ≤ i1) || (decide (0 < i) && leT (ts.getD i .non) (ts.getD (i - 1) .non))) (eb_or (et_test (K := K) (ed_B0 (f := fun i j => decide (j ≤ i)) (i := i1) (j := j1) (ed_ixT (ds := [_, _]) (ed_var rfl rv7) ed_int (by decide) rfl) (ed_ixT (ds := [_, _]) (ed_var rfl rv7) ed_int (by decide) rfl))) fun _ => eb_and (a := decide (0 < i)) (eb_eq (et_test (K := K) (ed_B0 (f := fun i j => decide (j < i)) (i := (i : Int)) (j := 0) (ed_var rfl (.int (i : Int))) ed_int)) (by rw [decide_eq_decide]; omega)) fun h0 => ?_) (fun hb5 H8 e8 => ?_) fun hb5 H8 e8 => ?_
    · have h0 := of_decide_eq_true h0
      obtain ⟨d0, hd0⟩ : ∃ d0, ts[i - 1]? = some d0 := ⟨ts[i - 1], List.getElem?_eq_getElem (by omega)⟩
      have g0 : ts.getD (i - 1) .non = d0 := by rw [List.getD_eq_getElem?_getD, hd0]; rfl
      have ok0 := hok (i - 1) (by omega)
      unfold okAt at ok0
      rw [Bool.and_eq_true, g0] at ok0
      obtain ⟨p', rfl, _⟩ := tie_ok ok0.1
      rw [gi, g0]
      refine et_test (K := K) (ed_eq (ed_leB (p := (i1, j1)) (q := p') (ed_var rfl rv7) (ed_ixT (ds := ts) (ed_var rfl (r2.le (e16.trans e7))) (ed_I0 (f := fun i j => i - j) (ed_var rfl (.int (i : Int))) ed_int) (by omega) ?_)) rfl)
      have en : ((i : Int) - 1).toNat = i - 1 := by omega
      rw [en]
      exact hd0
    · refine fin2 ?_ ((e6.trans e7).trans e8) rfl
      unfold okAt
      rw [Bool.or_eq_true] at hb5
      rcases hb5 with hb5 | hb5
      · have := of_decide_eq_true hb5
        rw [gi, tv, decide_eq_false (by omega)]
        rfl
      · rw [hb5]
        exact Bool.and_false _
    · rw [Bool.or_eq_false_iff] at hb5
      refine ⟨_, _, _, _, rfl, (((e.trans e5).trans e6).trans e7).trans e8, fun j hj => ?_⟩
      rcases Nat.lt_succ_iff_lt_or_eq.mp hj with h | rfl
      · exact hok j h
      · have := of_decide_eq_false hb5.1
        unfold okAt
        rw [hb5.2, gi, tv, decide_eq_true (by omega)]
        rfl
  · rintro σ' H' ⟨y1, y2, y3, y4, rfl, e, hok⟩
    refine fin (σ := [some v1, some v2, y1, y2, y3, y4]) ?_ (e14.trans e) ed_non
    rw [res]
    unfold tiesPart firstBad
    dsimp only
    rw [find_none fun j hj => by rw [hok j hj]; rfl]
    rfl
/-! ### what the program tells -/
section
variable {X : Cx} {E : L2.St → XK} {e : Expr} {es : List Expr} {t : TA} {p pos : Pos}
theorem pe_mkWS (M : WMk X.prog X.w X.K X.mg X.base C CB) (hr : Room 6 X.A) (hx : ∀ σ, PassesAt (L2.CX X.prog X.w) X σ (E σ)) (ha : PA X (e :: es) t) (hg : Gl X "Web" := by rfl)
    (he : starEach (e :: es) X.env = (false, eval e X.env) :: starEach es X.env := by rfl) (hpl : (backTo pos (starEach es X.env)).any (·.1) = false := by rfl) (h : X.K = K := by rfl) :
    PE X (.Call (.Name "Web" p) (e :: es) [] pos) (tMakeS C (spWebX K C CB) E t) := by
  subst h
  obtain ⟨fi, fdi, mk, F, hb⟩ := M.ex
  exact pe_makeS mk F hr hg M.mgC hb hx ha (by decide) he hpl
end
theorem ep_mkWS {σ : L2.St} {H : Hp} {A : TA} {E : L2.St → XK} {ms : List Int} {ties : List (Int × Int)} (hA : EDA K A σ H [.tup (List.map D.int ms), .tup (List.map eP ties)]) (ok : PartsOk ms ties) : EP K (tMakeS C (spWebX K C CB) E A) σ H (fun d H => ∃ a, d = .obj (.ref a) ∧ WebAt K C H a ms ties) := fun H1 e Q q => ep_mkW hA ok H1 e Q q
theorem Dp.up : ∀ {n : Nat} {d : D}, Dp n d → Dp (n + 1) d
  | 0, _, h => absurd h id
  | n + 1, .tup xs, h => ⟨h.1, fun x hx => Dp.up (h.2 x hx)⟩
  | n + 1, .lst xs, h => ⟨h.1, fun x hx => Dp.up (h.2 x hx)⟩
  | n + 1, .obj _, h => absurd h id
  | n + 1, .non, _ => trivial
  | n + 1, .bl _, _ => trivial
  | n + 1, .int _, _ => trivial
  | n + 1, .str _, _ => trivial
theorem dpI {n : Nat} {ns : List Int} (h : ns.length ≤ 50000) : Dp (n + 2) (.tup (ns.map .int)) := ⟨by rw [List.length_map]; exact h, fun d hd => by
  obtain ⟨z, _, rfl⟩ := List.mem_map.mp hd
  trivial⟩
theorem dpP {n : Nat} (p : Int × Int) : Dp (n + 2) (eP p) := ⟨by show 2 ≤ 50000; decide, fun d hd => by
  simp only [List.mem_cons, List.not_mem_nil, or_false] at hd
  rcases hd with rfl | rfl <;> trivial⟩
theorem dpT {n : Nat} {ts : List (Int × Int)} (h : ts.length ≤ 50000) : Dp (n + 3) (.tup (ts.map eP)) := ⟨by rw [List.length_map]; exact h, fun d hd => by
  obtain ⟨p, _, rfl⟩ := List.mem_map.mp hd
  exact dpP p⟩
theorem dpW {n : Nat} {ms : List Int} {ts : List (Int × Int)} (h : ms.length ≤ 50000) (h2 : ts.length ≤ 50000) : Dp (n + 4) (.lst [.tup (ms.map .int), .tup (ts.map eP)]) := ⟨by show 2 ≤ 50000; decide, fun d hd => by
  simp only [List.mem_cons, List.not_mem_nil, or_false] at hd
  rcases hd with rfl | rfl
  · exact dpI h
  · exact dpT h2⟩
theorem dpWt {n : Nat} {ms : List Int} {ts : List (Int × Int)} (h : ms.length ≤ 50000) (h2 : ts.length ≤ 50000) : Dp (n + 4) (eW ms ts) := ⟨by show 2 ≤ 50000; decide, fun d hd => by
  simp only [List.mem_cons, List.not_mem_nil, or_false] at hd
  rcases hd with rfl | rfl
  · exact dpI h
  · exact dpT h2⟩
theorem ed_is {σ : L2.St} {H : Hp} {ta tb : TE} {E : XK} {n : Nat} {d : D} (h1 : ED K ta σ H d) (h2 : ED K tb σ H d) (hd : Dp n d) : ED K (tCall (spD K (R_is n)) [] E (tCons ta (tCons tb tNil))) σ H (.bl true) :=
  ed_call (ea_cons h1 (ea_cons h2 ea_nil)) fun H2 _ => ⟨rfl, .inl ⟨d, rfl, hd⟩⟩
def R_told : List D → Hp → Pd → Prop := fun ds H P => ∃ dm dt, ds = [dm, dt] ∧ Th H dm ∧ Th H dt ∧ P = is (resD dm dt)
theorem ok_told (T : KTxt mg) (W : WTxt K C) (M : WMk P w K mg base C CB) (c_BadWeb : FC P w K mg base "BadWeb" "part" CB) (ec : ExcC K CB) (hmT : mg "BadWeb" = some (.ref CB)) (hmG : mg "TagError" = some (.ref CG)) (xT : PySem.W.exmOne K (.ref CB) (.ref CB) = some true) (kG : PySem.W.kitOne K (.ref CB) (.ref CG) = some true)
    (g : GDef K mg "_law_told_part" s__law_told_part ["_law_memories", "_law_ties"]) (G_law_is : Def P w K mg base 6 "_law_is" ["_law_told", "_law_due"] (spD K (R_is 5))) : Def P w K mg base 8 "_law_told_part" ["_law_memories", "_law_ties"] (spD K R_told) := by
  refine defD g sc__law_told_part (fun ds H Pd h => ?_) fun cdv A outer s f H vs ds Pd Q E hr r h q => ?_
  · obtain ⟨dm, dt, rfl, _⟩ := h
    rfl
  obtain ⟨dm, dt, rfl, tm, tt, rfl⟩ := h
  obtain ⟨v1, v2, rfl, r1, r2⟩ := rps2 r
  refine ⟨_, (pss_cons (ps_try_as (i := 4) (c := .ref CB) (tb := fun W => tSeq (tAsg (tMakeS C (spWebX K C CB) (WE W) (tCons (tVar 0) (tCons (tVar 1) tNil))) (gName 2)) (tAsg (tIf (tB (tCall (spD K (R_is 5)) [] E0 (tCons (tLst (tCons (tFld K (tVar 2) "memories") (tCons (tFld K (tVar 2) "ties") tNil))) (tCons (tLst (tCons (tVar 0) (tCons (tVar 1) tNil))) tNil)))) (tC .non) (tC (.str "other"))) (gName 3))) (ts := fun a cls d => tAsg (tIf (tB (tCB (rIsE3 K a cls d) (tCons (tVar 4) (tCons (tC (.ref CG)) tNil)))) (tXf a cls d CB "part" (tVar 4)) (tC (.str "other"))) (gName 3)) (Wout := fun _ _ _ _ => False) rfl rfl sc__law_told_part.nd rfl rfl ⟨rfl, by decide, Or.inl hmT⟩ takes0
  (fun W pn xe tk _ => pss_cons (ps_set (i := 2) sc__law_told_part.nd rfl (Or.inl rfl) (by exact (pe_mkWS (K := K) M (hr.mono (by decide)) (fun σ => passAt tk σ) (by exact (pa_cons (pv 0) (pa_cons (pv 1) pa_nil)))))) (pss_one (ps_set (i := 3) sc__law_told_part.nd rfl (Or.inl rfl) (by exact (pe_ifExp (pt_val (pe_def G_law_is (hr.mono (by decide)) (pa_cons (pe_lst (pa_cons (kpe_fld (K := K) (pv 2) rfl) (pa_cons (kpe_fld (K := K) (pv 2) rfl) pa_nil))) (pa_cons (pe_lst (pa_cons (pv 0) (pa_cons (pv 1) pa_nil))) pa_nil)))) pe_non pe_str)))))
  (fun a oe cls d pn hz hf => pss_one (ps_set (i := 3) sc__law_told_part.nd rfl (Or.inl rfl) (by exact (pe_ifExp (pt_val (pe_callB (call_isE3 (K := K) hz hf) (by rfl) T.n_isinstance boot_isinstance (pa_cons (pv 4) (pa_cons (pe_gx hmG (by rfl)) pa_nil)))) (pe_xf c_BadWeb.xf c_BadWeb.no hz hf (pv 4)) pe_str)))))
    (pss_one (ps_ret (pv 3)))), ?_⟩
  cases hp : partD dm dt with
  | some p =>
    delta tSeq tAsg tMakeS
    dsimp only
    refine er_mkW (K := K) (C := C) (CB := CB) (p := p) (A := tCons (tVar 0) (tCons (tVar 1) tNil)) (σ := L2.start N__law_told_part [v1, v2]) (ea_cons (ed_var rfl r1) (ea_cons (ed_var rfl r2) ea_nil)) tm tt hp ?_ _
    intro dd v H2 e2 hdd rp
    refine ⟨true, xT, fun _ a na => ?_, fun h => nomatch h⟩
    have xd : ∀ {H3 : Hp}, Le H2 H3 → H3 dd = some (.xd [("part", v)]) := fun e => by
      rcases e dd _ hdd with h1 | ⟨_, _, _, _, _, _, _, _, _, z, _⟩
      · exact h1
      · cases z
    refine s_asgD (K := K) (d := p) (ep_if (b := true) (et_B (K := K) fun H3 e3 Q q => ⟨.ref a, rfl, CB, .ref CG, .ref CG, true, rfl, ec, .inr ⟨dd, _, rfl, xd e3⟩, rfl, (fun u h => h), kG, q _ _ H3 (Le.refl _) rfl (.bl _)⟩) (fun _ => fun H3 e3 Q q => ⟨.ref a, rfl, rfl, rfl, dd, [("part", v)], v, rfl, xd e3, rfl, q _ _ H3 (Le.refl _) rfl (rp.le e3)⟩) fun h => nomatch h) fun u H4 e4 r4 => ?_
    refine s_retD (K := K) (d := p) (ed_var rfl r4) fun z H5 e5 r5 => q z _ H5 ((e2.trans e4).trans e5) ?_ r5
    show p = resD dm dt
    unfold resD
    rw [hp]
    rfl
  | none =>
    obtain ⟨ms, ties, rfl, rfl, ok⟩ := part_good hp
    have few := ok.few
    have len := ok.len
    refine q_asg (K := K) (P := fun d H => ∃ a, d = .obj (.ref a) ∧ WebAt K C H a ms ties) (ep_mkWS (ea_cons (ed_var rfl r1) (ea_cons (ed_var rfl r2) ea_nil)) ok) fun v2' d H2 e2 p2 r2' => ?_
    obtain ⟨a, rfl, x⟩ := p2
    refine s_asgD (K := K) (d := .non) (ep_if (b := true) (et_B (K := K) (ed_is (n := 5) (d := .lst [.tup (ms.map .int), .tup (ties.map eP)]) (ed_lst (ds := [_, _]) (ea_cons (ed_mem W x (ed_var rfl r2')) (ea_cons (ed_ties W x (ed_var rfl r2')) ea_nil)) (by show 2 ≤ 100000; decide) rfl) (ed_lst (ds := [_, _]) (ea_cons (ed_var rfl (r1.le e2)) (ea_cons (ed_var rfl (r2.le e2)) ea_nil)) (by show 2 ≤ 100000; decide) rfl) (dpW (by omega) (by omega)))) (fun _ => ed_non) fun h => nomatch h) fun u H4 e4 r4 => ?_
    refine s_retD (K := K) (d := .non) (ed_var rfl r4) fun z H5 e5 r5 => q z _ H5 ((e2.trans e4).trans e5) ?_ r5
    show D.non = resD _ _
    unfold resD
    rw [hp]
    rfl
end
end W1

set_option maxRecDepth 100000
set_option maxHeartbeats 4000000
/-! a tuple, empty or not, times a number -/
namespace L2
open PySem PySem.Spec PyProof.Rows W1
theorem mul0_tup (l : Addr) (n : Nat) (dd : Option Addr) (sl : Array (Option Value)) (x : Int) (u : Tok) (c0 : (decide (x < -(2 ^ 63)) || decide (x ≥ 2 ^ 63)) = false) :
    Meets (Builtin.«tuple.__mul__» ⟨[.ref l, .int x u], []⟩) (fun _ R s => s.heap.get? l = some { cls := .type "tuple", dict := dd, data := .seq #[] n, slots := sl } ∧ R (.ok (.ret (Value.ref l))) s) := .of_wp fun prog w A R s h => by
  obtain ⟨hp, g, d, tk, os⟩ := s
  obtain ⟨hl, h⟩ := h
  have f1 := AutoSeq1.idx_int
  have c1 : ((#[] : Array Value).isEmpty || x == 1) = true := by simp
  wp_walk using wpAny_loadPart' hl
  repeat (first
    | (refine wpAny_ite_false (decide_eq_false (by rw [c0]; exact Bool.false_ne_true)) ?_; wp_walk using wpAny_loadPart' hl)
    | (refine wpAny_ite_true (decide_eq_true c1) ?_; wp_walk using wpAny_loadPart' hl))
  all_goals exact ⟨_, rfl, h⟩
def rRep0 (K : PySem.W.Frag) : R2 := fun x y H Q => ∃ l k, x = .ref l ∧ y = .int k ∧ SqT K H l [] ∧ 1 ≤ k ∧ k ≤ 1000 ∧ Q (.ref l) H
theorem op_rep0 {X : Cx} : OpR X (binaryOp .Mult) (rRep0 X.K) := by
  intro pins s σ H x y v u Q I rx ry h
  obtain ⟨l, k, rfl, rfl, hT, h1, h2, q⟩ := h
  cases rx
  obtain ⟨t, rfl⟩ := ry
  obtain ⟨its, r, ⟨⟨cls, dd, data, sl⟩, ho, hc, n, hd⟩, hs⟩ := I.tuple hT
  replace hc : cls = .type "tuple" := hc
  replace hd : data = .seq its.toArray n := hd
  subst hc hd
  cases r
  refine wpAny_binaryOp_repeat_ref (T := "tuple") (U := "int") (by decide) ⟨_, ho, rfl⟩ (fun s' => typeIs_int s' k t) noFill_tuple_mul F.fills_int_mul F.slot_int_rmul repeat_tuple F.slot_int_index.lookup
    (call_meets F.slot_int_rmul (typeIs_int s k t) F.entry_int_rmul (F.args_int_rmul_2 _ _) (int_rmul_tuple k t l _ n dd sl)
      ⟨ho, rfl, ⟨_, ho, rfl⟩, call_meets F.slot_tuple_mul ⟨_, ho, rfl⟩ F.entry_tuple_mul (F.args_tuple_mul_2 _ _) (mul0_tup l n dd sl k t (by rw [decide_eq_false (by omega), decide_eq_false (by omega)] <;> rfl)) ⟨ho, ?_⟩⟩)
  exact ⟨.ref l, H, I, rfl, q⟩
def rRepA (K : PySem.W.Frag) : R2 := fun x y H Q => rRep1 K x y H Q ∨ rRep0 K x y H Q
theorem kop_repA {X : Cx} {K : PySem.W.Frag} (h : X.K = K := by rfl) : OpR X (binaryOp .Mult) (rRepA K) := h ▸ OpR.or op_rep1 op_rep0
end L2
namespace W1
open PySem PyProof.Rows L2
section
variable {K : PySem.W.Frag} {σ : L2.St} {H : Hp} {ta tb : TE} {Pc : Pd} {n : Nat}
theorem ep_repP {k : Int} (M : Mono Pc) (h : EP K ta σ H (AllT Pc n)) (hb : ED K tb σ H (.int k)) (h1 : 1 ≤ k ∧ k ≤ 1000) (hz : n ≤ 1000) : EP K (tOp (rRepA K) ta tb) σ H (AllT Pc (k.toNat * n)) :=
  ep_op h hb fun x y d1 d2 H1 H2 _ e12 p1 p2 r1 r2 Q q => by
    obtain ⟨ds, rfl, l1, q1⟩ := p1
    have p2' : d2 = .int k := p2
    subst p2'
    obtain ⟨a, xs, rfl, s, rr⟩ := rp_tup r1
    by_cases he : ds = []
    · subst he
      cases rr
      refine .inr ⟨a, k, rfl, rp_int r2, s, h1.1, h1.2, ?_⟩
      exact q _ (.tup []) H2 (Le.refl _) ⟨[], rfl, Nat.zero_le _, fun d hd => nomatch hd⟩ r1
    · have hc : ∀ H', Le H2 H' → AllT Pc (k.toNat * n) (.tup (List.replicate k.toNat ds).flatten) H' := fun H' e' => ⟨_, rfl, by
        rw [PyProof.Rows.lm_len_rep_flat]
        exact Nat.mul_le_mul (Nat.le_refl _) l1, fun d hd => by
        obtain ⟨l, hl, hd⟩ := List.mem_flatten.mp hd
        rw [List.eq_of_mem_replicate hl] at hd
        exact M _ _ _ (e12.trans e') (q1 d hd)⟩
      refine .inl ⟨a, k, xs, rfl, rp_int r2, s, ?_, h1.1, h1.2, by rw [rr.len]; omega, fun e => ?_, fun _ p np => ?_⟩
      · intro e
        subst e
        cases rr
        exact he rfl
      · subst e
        refine q _ (.tup ds) H2 (Le.refl _) ?_ r1
        have := hc H2 (Le.refl _)
        rwa [show (List.replicate (1 : Int).toNat ds).flatten = ds by simp] at this
      · exact q _ _ _ (Le.new np) (hc _ (Le.new np)) (.tup (Evl.st_of upd_same) ((rr.le (Le.new np)).flat _))
end
end W1

set_option maxRecDepth 100000
set_option maxHeartbeats 4000000
/-! parts with one thing otherwise -/
namespace W1
open PySem PyProof.Rows L2
local macro_rules | `(tactic| walk_at "rp") => `(tactic| first | assumption | exact Rp.int _ | exact Rp.bl _ | exact Rp.str _ | exact Rp.non | exact Rp.obj _ | (refine Rp.le (by assumption) ?_; walk_at "rp"))
local macro_rules | `(tactic| walk_at "ed") => `(tactic| first
  | exact ed_int | exact ed_str | exact ed_bl | exact ed_non
  | (refine ed_var rfl ?_; walk_at "rp")
  | (refine ed_ixT (ds := [_, _]) ?_ ed_int (by decide) rfl; walk_at "ed")
  | (refine ed_I0 ?_ ?_ <;> walk_at "ed")
  | (refine ed_B0 ?_ ?_ <;> walk_at "ed")
  | (refine ed_eqS ?_ ?_ rfl rfl rfl <;> walk_at "ed")
  | assumption)
local macro_rules | `(tactic| walk_at "ea") => `(tactic| first | exact ea_nil | (refine ea_cons ?_ ?_; walk_at "ed"; walk_at "ea"))

abbrev s__law_bent : Stmt := topS 60
abbrev N__law_bent : List Str := ["_law_hand_here", "_law_parts_here", "_law_memories", "_law_ties", "_law_at", "_law_to", "_law_odd", "_law_one", "_law_tie", "_law_kind"]
theorem sc__law_bent : FnScope N__law_bent ["_law_hand_here", "_law_parts_here"] (defScope s__law_bent) := ⟨rfl, rfl, rfl, by decide +kernel, rfl, by decide +kernel, by decide +kernel⟩
abbrev ThP : Pd := fun d H => Th H d
theorem th_mono : Mono ThP := fun d H H' e h => h.le e
abbrev PairP : Pd := fun d H => ∃ dm dt, d = .tup [dm, dt] ∧ Th H dm ∧ Th H dt
section
variable {K : PySem.W.Frag} {σ : L2.St} {H : Hp} {ta tb : TE} {d : D}
theorem ep_pair (h1 : EP K ta σ H ThP) (h2 : EP K tb σ H ThP) : EP K (tTup (tCons ta (tCons tb tNil))) σ H PairP :=
  ep_tup (ea_allC th_mono h1 (ea_allC th_mono h2 ea_all0)) (fun ds H2 p => by rw [p.1]; decide) fun ds H2 p H3 e => by
    obtain ⟨hl, hp⟩ := p
    obtain ⟨d1, d2, rfl⟩ : ∃ d1 d2, ds = [d1, d2] := by
      match ds, hl with
      | [d1, d2], _ => exact ⟨d1, d2, rfl⟩
    exact ⟨d1, d2, rfl, (hp d1 (by simp)).le e, (hp d2 (by simp)).le e⟩
theorem ep_th (h : ED K ta σ H d) (t : ∀ H, Th H d) : EP K ta σ H ThP := h.weak fun d' H2 e p => by
  have p' : d' = d := p
  subst p'
  exact t H2
theorem ep_tht {n : Nat} (h : EP K ta σ H (AllT ThP n)) (hn : n ≤ 50000) : EP K ta σ H ThP := h.weak fun d' H2 e p => by
  obtain ⟨xs, rfl, hl, hp⟩ := p
  exact .tup (by omega) hp
theorem ep_obT (h : EP K ta σ H fun d H => ∃ v, d = .obj v ∧ Ob H v) : EP K ta σ H ThP := h.weak fun d' H2 e p => by
  obtain ⟨v, rfl, h⟩ := p
  exact .ob h
end
theorem th_sc {d : D} (h : sca d = true) : ∀ H, Th H d := fun H => .sc h
theorem th_scs {ds : List D} (h : ∀ d ∈ ds, sca d = true) (hl : ds.length ≤ 50000) : ∀ H, Th H (.tup ds) := fun H => .tup hl fun d hd => .sc (h d hd)
section
variable {P : Program} {w : World} {K : PySem.W.Frag} {mg : Str → Option Value} {base : Heap}
def R_bent : List D → Hp → Pd → Prop := fun ds H P => ∃ (h : Addr) (ms : List Int) (ties : List (Int × Int)), ds = [.obj (.ref h), eW ms ties] ∧ Hand H h ∧ PartsOk ms ties ∧ P = PairP
theorem ok_bent (T : KTxt mg) (g : GDef K mg "_law_bent" s__law_bent ["_law_hand_here", "_law_parts_here"]) (G_law_draw : Def P w K mg base 1 "_law_draw" ["_law_hand_here", "_law_many"] (spD K R_draw))
    (G_law_any : Def P w K mg base 2 "_law_any" ["_law_hand_here", "_law_items"] (spD K R_any)) (G_law_nested : Def P w K mg base 3 "_law_nested" ["_law_hand_here"] (spD K R_nested)) : Def P w K mg base 4 "_law_bent" ["_law_hand_here", "_law_parts_here"] (spD K R_bent) := by
  refine defD g sc__law_bent (fun ds H Pd h => ?_) fun cdv A outer s f H vs ds Pd Q E hr r h q => ?_
  · obtain ⟨h, ms, ties, rfl, _⟩ := h
    rfl
  obtain ⟨h, ms, ties, rfl, hh, ok, rfl⟩ := h
  obtain ⟨v1, v2, rfl, r1, r2⟩ := rps2 r
  have ev := rp_obj r1
  subst ev
  have few := ok.few
  have some1 := ok.some
  have len := ok.len
  refine ⟨_, (pss_cons (ps_asg (pv 1) (kpg_tup (K := K) (n := 2) rfl (pgs_cons (pg_name (i := 2) sc__law_bent.nd rfl (Or.inl rfl)) (pgs_cons (pg_name (i := 3) sc__law_bent.nd rfl (Or.inl rfl)) pgs_nil))))
    (pss_cons (ps_par (i := 4) (j := 5) (by rfl) sc__law_bent.nd rfl rfl (by decide) rfl rfl (pa_cons (pe_def G_law_draw (hr.mono (by decide)) (pa_cons (pv 0) (pa_cons (pe_callB (kc_len (K := K)) (by rfl) T.n_len boot_len (pa_cons (pv 2) pa_nil)) pa_nil))) (pa_cons (pe_def G_law_draw (hr.mono (by decide)) (pa_cons (pv 0) (pa_cons (pe_op op_add (pe_callB (kc_len (K := K)) (by rfl) T.n_len boot_len (pa_cons (pv 3) pa_nil)) pe_int) pa_nil))) pa_nil)) (by rfl))
    (pss_cons (ps_set (i := 6) sc__law_bent.nd rfl (Or.inl rfl) (pe_def G_law_any (hr.mono (by decide)) (pa_cons (pv 0) (pa_cons (pe_lst (pa_cons pe_non (pa_cons pe_bl (pa_cons (pe_un un_neg pe_int) (pa_cons pe_int (pa_cons pe_int (pa_cons pe_str (pa_cons (pe_tup (pa_cons pe_int pa_nil)) (pa_cons (pe_lst pa_nil) (pa_cons (pe_op op_pow pe_int pe_int) (pa_cons pe_int (pa_cons (pe_def G_law_nested (hr.mono (by decide)) (pa_cons (pv 0) pa_nil)) pa_nil)))))))))))) pa_nil))))
    (pss_cons (ps_set (i := 7) sc__law_bent.nd rfl (Or.inl rfl) (pe_def G_law_draw (hr.mono (by decide)) (pa_cons (pv 0) (pa_cons (pe_callB (kc_len (K := K)) (by rfl) T.n_len boot_len (pa_cons (pv 2) pa_nil)) pa_nil))))
    (pss_cons (ps_set (i := 8) sc__law_bent.nd rfl (Or.inl rfl) (pe_def G_law_any (hr.mono (by decide)) (pa_cons (pv 0) (pa_cons (pe_lst (pa_cons (pe_tup (pa_cons (pv 7) (pa_cons (pv 4) pa_nil))) (pa_cons (pe_tup (pa_cons (pv 4) (pa_cons (pv 7) pa_nil))) (pa_cons (pe_tup (pa_cons (pv 4) (pa_cons (pe_callB (kc_len (K := K)) (by rfl) T.n_len boot_len (pa_cons (pv 2) pa_nil)) pa_nil))) (pa_cons (pe_lst (pa_cons (pv 4) (pa_cons (pv 7) pa_nil))) (pa_cons (pe_tup (pa_cons (pv 4) pa_nil)) (pa_cons (pe_tup (pa_cons pe_int (pa_cons pe_int (pa_cons pe_int pa_nil)))) (pa_cons (pe_tup (pa_cons pe_bl (pa_cons pe_int pa_nil))) (pa_cons (pv 6) pa_nil))))))))) pa_nil))))
    (pss_cons (ps_set (i := 9) sc__law_bent.nd rfl (Or.inl rfl) (pe_def G_law_draw (hr.mono (by decide)) (pa_cons (pv 0) (pa_cons pe_int pa_nil))))
    (pss_cons (ps_if (pt_cmpR op_lt (pv 9) pe_int (nomark _))
      (pss_one (ps_ret (pe_tup (pa_cons (pe_op (kop_catA (K := K)) (pe_op (kop_catA (K := K)) (pe_slice (ksl_tup (K := K)) (pv 2) po_none (po_some (pv 4))) (pe_tup (pa_cons (pv 6) pa_nil))) (pe_slice (ksl_tup (K := K)) (pv 2) (po_some (pe_op op_add (pv 4) pe_int)) po_none)) (pa_cons (pv 3) pa_nil)))))
      pss_nil)
    (pss_cons (ps_if (pt_cmpR op_eq (pv 9) pe_int (nomark _))
      (pss_one (ps_ret (pe_tup (pa_cons (pe_def G_law_any (hr.mono (by decide)) (pa_cons (pv 0) (pa_cons (pe_lst (pa_cons (pe_callTy (kc_list (K := K)) (by rfl) T.n_list boot_list (pa_cons (pv 2) pa_nil)) (pa_cons (pe_tup pa_nil) (pa_cons (pe_op (kop_rep1 (K := K)) (pv 2) pe_int) (pa_cons (pe_op (kop_rep1 (K := K)) (pe_tup (pa_cons pe_int pa_nil)) pe_int) (pa_cons (pe_op (kop_rep1 (K := K)) (pe_tup (pa_cons pe_int pa_nil)) pe_int) (pa_cons pe_non (pa_cons (pv 6) pa_nil)))))))) pa_nil))) (pa_cons (pv 3) pa_nil)))))
      pss_nil)
    (pss_cons (ps_if (pt_cmpR op_eq (pv 9) pe_int (nomark _))
      (pss_one (ps_ret (pe_tup (pa_cons (pv 2) (pa_cons (pe_def G_law_any (hr.mono (by decide)) (pa_cons (pv 0) (pa_cons (pe_lst (pa_cons (pe_callTy (kc_list (K := K)) (by rfl) T.n_list boot_list (pa_cons (pv 3) pa_nil)) (pa_cons pe_non (pa_cons (pe_tup pa_nil) (pa_cons (pv 6) (pa_cons pe_dnewK (pa_cons (kpe_revT (K := K) (pv 3)) pa_nil))))))) pa_nil))) pa_nil)))))
      pss_nil)
    (pss_cons (ps_if (pt_cmpR op_lt (pv 9) pe_int (nomark _))
      (pss_one (ps_ret (pe_tup (pa_cons (pv 2) (pa_cons (pe_op (kop_catA (K := K)) (pe_op (kop_catA (K := K)) (pe_slice (ksl_tup (K := K)) (pv 3) po_none (po_some (pv 5))) (pe_tup (pa_cons (pv 8) pa_nil))) (pe_slice (ksl_tup (K := K)) (pv 3) (po_some (pv 5)) po_none)) pa_nil)))))
      pss_nil)
    (pss_cons (ps_if (pt_cmpR op_eq (pv 9) pe_int (nomark _))
      (pss_one (ps_ret (pe_tup (pa_cons (pv 2) (pa_cons (pe_op (kop_catA (K := K)) (pe_op (kop_catA (K := K)) (pe_slice (ksl_tup (K := K)) (pv 3) po_none (po_some (pv 5))) (pe_tup (pa_cons (pv 8) pa_nil))) (pe_slice (ksl_tup (K := K)) (pv 3) (po_some (pe_op op_add (pv 5) pe_int)) po_none)) pa_nil)))))
      pss_nil)
    (pss_cons (ps_if (pt_cmpR op_eq (pv 9) pe_int (nomark _))
      (pss_one (ps_ret (pe_tup (pa_cons (pv 2) (pa_cons (pe_op (kop_catA (K := K)) (pe_op (kop_catA (K := K)) (pe_slice (ksl_tup (K := K)) (pv 3) po_none (po_some (pv 5))) (pe_op (kop_repA (K := K)) (pe_slice (ksl_tup (K := K)) (pv 3) (po_some (pv 5)) (po_some (pe_op op_add (pv 5) pe_int))) pe_int)) (pe_slice (ksl_tup (K := K)) (pv 3) (po_some (pe_op op_add (pv 5) pe_int)) po_none)) pa_nil)))))
      pss_nil)
    (pss_one (ps_ret (pe_tup (pa_cons (pe_slice (ksl_tup (K := K)) (pv 2) po_none (po_some (pe_un un_neg pe_int))) (pa_cons (pv 3) pa_nil))))))))))))))))), ?_⟩
  refine q_tup2 (K := K) (d1 := .tup (ms.map .int)) (d2 := .tup (ties.map eP)) (ed_var rfl r2) fun v3 v4 H1 e1 r3 r4 => ?_
  have lm : ∀ {H2 : Hp} {σ : L2.St}, Le H1 H2 → σ[2]? = some (some v3) → ED K (tCB (fun xs H Q => ∃ p ys, xs = [.ref p] ∧ (SqL K H p ys ∨ SqT K H p ys) ∧ Q (.int ys.length) H) (tCons (tVar 2) tNil)) σ H2 (.int (ms.length : Int)) := fun e s2 => ed_eq (ed_lenT (ed_var s2 (r3.le e))) (by rw [List.length_map])
  have lt : ∀ {H2 : Hp} {σ : L2.St}, Le H1 H2 → σ[3]? = some (some v4) → ED K (tCB (fun xs H Q => ∃ p ys, xs = [.ref p] ∧ (SqL K H p ys ∨ SqT K H p ys) ∧ Q (.int ys.length) H) (tCons (tVar 3) tNil)) σ H2 (.int (ties.length : Int)) := fun e s2 => ed_eq (ed_lenT (ed_var s2 (r4.le e))) (by rw [List.length_map])
  have hh1 := hh.le e1
  -- at, to
  refine q_par2 (K := K) (PA := fun ds _ => ∃ a t : Int, ds = [.int a, .int t] ∧ 0 ≤ t) (EA_weak (ep_cons (ep_draw hh1 (ea_cons (ed_var rfl (.obj _)) (ea_cons (lm (Le.refl _) rfl) ea_nil)) (by omega)) (ep_cons (ep_draw hh1 (ea_cons (ed_var rfl (.obj _)) (ea_cons (ed_I0 (f := fun i j => i + j) (lt (Le.refl _) rfl) ed_int) ea_nil)) (by omega)) ea_nil)) ?_) ?_ fun v5 v6 d5 d6 H2 e2 p r5 r6 => ?_
  · rintro ds H2 ⟨d1, t1, _, rfl, _, ⟨a, rfl, _⟩, d2, t2, _, rfl, _, ⟨t, rfl, t0, _⟩, rfl⟩
    exact ⟨a, t, rfl, t0⟩
  · rintro ds H2 ⟨a, t, rfl, _⟩
    rfl
  obtain ⟨a, to, ee, to0⟩ := p
  injection ee with ea ee
  injection ee with eb _
  subst ea eb
  have ev5 := rp_int r5
  have ev6 := rp_int r6
  subst ev5 ev6
  have e12 := e1.trans e2
  -- odd
  refine q_asg (K := K) (P := ThP) (ep_anyH (n := 11) th_mono (hh.le e12) (ed_var rfl (.obj _)) (ep_allL th_mono (ea_allC th_mono (ep_th ed_non (th_sc rfl)) (ea_allC th_mono (ep_th ed_bl (th_sc rfl)) (ea_allC th_mono (ep_th (ed_neg ed_int) (th_sc rfl)) (ea_allC th_mono (ep_th ed_int (th_sc rfl)) (ea_allC th_mono (ep_th ed_int (th_sc rfl)) (ea_allC th_mono (ep_th ed_str (th_sc rfl))
    (ea_allC th_mono (ep_th (ed_tup (ds := [.int 0]) (ea_cons ed_int ea_nil) (by show 1 ≤ 100000; decide)) (th_scs (fun d hd => by rw [List.mem_singleton.mp hd]; rfl) (by show 1 ≤ 50000; decide))) (ea_allC th_mono (ep_obT (ep_lstO (P := fun ds _ => ds = []) ea_nil (fun ds H p => by rw [p]; exact Nat.zero_le _)))
    (ea_allC th_mono (ep_th (ed_I (f := fun i j => i ^ j.toNat) ed_int ed_int ⟨by decide, by decide, by decide⟩) (th_sc rfl)) (ea_allC th_mono (ep_th ed_int (th_sc rfl)) (ea_allC th_mono ((ed_call (P := fun d H2 => Th H2 d ∧ Ns d) (ea_cons (ed_var rfl (.obj _)) ea_nil) fun H4 e4 => ⟨h, rfl, hh.le (e12.trans e4), rfl⟩).weak fun d H4 _ p => p.1) ea_all0))))))))))) (by decide) (by decide)) (by decide) (by decide)) fun v7 d7 H3 e3 p7 r7 => ?_
  have e13 := e12.trans e3
  have e23 := e2.trans e3
  -- one
  refine q_asg (K := K) (P := fun d _ => ∃ r : Int, d = .int r) ((ep_draw (hh.le e13) (ea_cons (ed_var rfl (.obj _)) (ea_cons (lm e23 rfl) ea_nil)) (by omega)).weak fun d H4 _ ⟨r, e, _⟩ => ⟨r, e⟩) fun v8 d8 H4 e4 p8 r8 => ?_
  obtain ⟨one, rfl⟩ := p8
  have ev8 := rp_int r8
  subst ev8
  have e14 := e13.trans e4
  have e24 := e23.trans e4
  have iA : ∀ {σ : L2.St} {H' : Hp}, σ[4]? = some (some (.int a)) → ED K (tVar 4) σ H' (.int a) := fun s => ed_var s (.int _)
  have iT : ∀ {σ : L2.St} {H' : Hp}, σ[5]? = some (some (.int to)) → ED K (tVar 5) σ H' (.int to) := fun s => ed_var s (.int _)
  have iO : ∀ {σ : L2.St} {H' : Hp}, σ[7]? = some (some (.int one)) → ED K (tVar 7) σ H' (.int one) := fun s => ed_var s (.int _)
  have two : ∀ {d1 d2 : D}, sca d1 = true → sca d2 = true → ∀ H, Th H (.tup [d1, d2]) := fun h1 h2 => th_scs (fun d hd => by
    simp only [List.mem_cons, List.not_mem_nil, or_false] at hd
    rcases hd with rfl | rfl
    · exact h1
    · exact h2) (by show 2 ≤ 50000; decide)
  -- tie
  refine q_asg (K := K) (P := ThP) (ep_anyH (n := 8) th_mono (hh.le e14) (ed_var rfl (.obj _)) (ep_allL th_mono (ea_allC th_mono (ep_th (ed_tup (ds := [.int one, .int a]) (ea_cons (iO rfl) (ea_cons (iA rfl) ea_nil)) (by show 2 ≤ 100000; decide)) (two rfl rfl)) (ea_allC th_mono (ep_th (ed_tup (ds := [.int a, .int one]) (ea_cons (iA rfl) (ea_cons (iO rfl) ea_nil)) (by show 2 ≤ 100000; decide)) (two rfl rfl))
    (ea_allC th_mono (ep_th (ed_tup (ds := [.int a, .int (ms.length : Int)]) (ea_cons (iA rfl) (ea_cons (lm e24 rfl) ea_nil)) (by show 2 ≤ 100000; decide)) (two rfl rfl)) (ea_allC th_mono (ep_obT (ep_lstO (P := fun ds _ => ds.length = 2) (EA_weak (ea_cons (iA rfl) (ea_cons (iO rfl) ea_nil)) fun ds H p => by rw [show ds = [.int a, .int one] from p]; rfl) (fun ds H p => by rw [p]; decide)))
    (ea_allC th_mono (ep_th (ed_tup (ds := [.int a]) (ea_cons (iA rfl) ea_nil) (by show 1 ≤ 100000; decide)) (th_scs (fun d hd => by rw [List.mem_singleton.mp hd]; rfl) (by show 1 ≤ 50000; decide))) (ea_allC th_mono (ep_th (ed_tup (ds := [.int 0, .int 1, .int 2]) (ea_cons ed_int (ea_cons ed_int (ea_cons ed_int ea_nil))) (by show 3 ≤ 100000; decide)) (th_scs (fun d hd => by simp only [List.mem_cons, List.not_mem_nil, or_false] at hd; rcases hd with rfl | rfl | rfl <;> rfl) (by show 3 ≤ 50000; decide)))
    (ea_allC th_mono (ep_th (ed_tup (ds := [.bl false, .int 1]) (ea_cons ed_bl (ea_cons ed_int ea_nil)) (by show 2 ≤ 100000; decide)) (two rfl rfl)) (ea_allC th_mono (ep_var th_mono rfl (r7.le e4) (p7.le e4)) ea_all0)))))))) (by decide) (by decide)) (by decide) (by decide)) fun v9 d9 H5 e5 p9 r9 => ?_
  have e15 := e14.trans e5
  have e25 := e24.trans e5
  -- kind
  refine q_asg (K := K) (P := fun d _ => ∃ r : Int, d = .int r) ((ep_draw (hh.le e15) (ea_cons (ed_var rfl (.obj _)) (ea_cons ed_int ea_nil)) (by omega)).weak fun d H4 _ ⟨r, e, _⟩ => ⟨r, e⟩) fun v10 d10 H6 e6 p10 r10 => ?_
  obtain ⟨kd, rfl⟩ := p10
  have ev10 := rp_int r10
  subst ev10
  have e16 := e15.trans e6
  have e26 := e25.trans e6
  have fin : ∀ {te : TE} {σ : L2.St} {H' : Hp}, Le H6 H' → EP K te σ H' PairP → tRet te { nx := fun _ H' => Q .non H', rt := Q } σ H' := fun e h => s_ret h fun v d H7 e7 p r => q v d H7 ((e16.trans e).trans e7) p r
  have tM : ∀ {σ : L2.St} {H' : Hp}, Le H6 H' → σ[2]? = some (some v3) → ED K (tVar 2) σ H' (.tup (ms.map .int)) := fun e s => ed_var s (r3.le (e26.trans e))
  have tT : ∀ {σ : L2.St} {H' : Hp}, Le H6 H' → σ[3]? = some (some v4) → ED K (tVar 3) σ H' (.tup (ties.map eP)) := fun e s => ed_var s (r4.le (e26.trans e))
  have hM : ∀ {σ : L2.St} {H' : Hp}, Le H6 H' → σ[2]? = some (some v3) → EP K (tVar 2) σ H' ThP := fun e s => ep_th (tM e s) fun H => th_ints (by omega)
  have hT : ∀ {σ : L2.St} {H' : Hp}, Le H6 H' → σ[3]? = some (some v4) → EP K (tVar 3) σ H' ThP := fun e s => ep_th (tT e s) fun H => th_ties (by omega)
  have aM : ∀ {σ : L2.St} {H' : Hp}, Le H6 H' → σ[2]? = some (some v3) → EP K (tVar 2) σ H' (AllT ThP 60) := fun e s => (tM e s).weak fun d H2 _ p => by
    have p' : d = .tup (ms.map .int) := p
    subst p'
    exact ⟨_, rfl, by rw [List.length_map]; exact few, fun d hd => by
      obtain ⟨z, _, rfl⟩ := List.mem_map.mp hd
      exact .sc rfl⟩
  have aT : ∀ {σ : L2.St} {H' : Hp}, Le H6 H' → σ[3]? = some (some v4) → EP K (tVar 3) σ H' (AllT ThP 3600) := fun e s => (tT e s).weak fun d H2 _ p => by
    have p' : d = .tup (ties.map eP) := p
    subst p'
    exact ⟨_, rfl, by rw [List.length_map]; exact len, fun d hd => by
      obtain ⟨z, _, rfl⟩ := List.mem_map.mp hd
      exact th_P z⟩
  have tOdd : ∀ {σ : L2.St} {H' : Hp}, Le H6 H' → σ[6]? = some (some v7) → EP K (tVar 6) σ H' ThP := fun e s => ep_var th_mono s (r7.le (((e4.trans e5).trans e6).trans e)) (p7.le (((e4.trans e5).trans e6).trans e))
  have tTie : ∀ {σ : L2.St} {H' : Hp}, Le H6 H' → σ[8]? = some (some v9) → EP K (tVar 8) σ H' ThP := fun e s => ep_var th_mono s (r9.le (e6.trans e)) (p9.le (e6.trans e))
  have kdB : ∀ {σ : L2.St} {H' : Hp} {j : Int}, σ[9]? = some (some (.int kd)) → EB (tTest (tOp (rI0 fun i j => .bl (decide (i < j))) (tVar 9) (tC (.int j)))) σ H' (decide (kd < j)) := fun s => et_test (K := K) (ed_B0 (f := fun i j => decide (i < j)) (ed_var s (.int _)) ed_int)
  have kdE : ∀ {σ : L2.St} {H' : Hp} {j : Int}, σ[9]? = some (some (.int kd)) → EB (tTest (tOp rEq (tVar 9) (tC (.int j)))) σ H' (decide (kd = j)) := fun {σ H' j} s => eb_eq (et_test (K := K) (ed_eqS (d1 := .int kd) (d2 := .int j) (ed_var s (.int _)) ed_int rfl rfl rfl)) (vs_int _ _)
  -- kind < 2
  refine q_whenB (kdB rfl) (fun _ H7 e7 => fin e7 (ep_pair (ep_tht (ep_catP th_mono (ep_catP th_mono (ep_slP th_mono (aM e7 rfl) eo_none (eo_some (K := K) (iA rfl))) (ep_tup1 th_mono (tOdd e7 rfl)) (by decide)) (ep_slP th_mono (aM e7 rfl) (eo_some (K := K) (ed_I0 (f := fun i j => i + j) (iA rfl) ed_int)) eo_none) (by decide)) (by decide)) (hT e7 rfl))) fun _ H7 e7 => ?_
  -- kind == 2
  refine q_whenB (kdE rfl) (fun _ H8 e8 => fin (e7.trans e8) (ep_pair (ep_anyH (n := 7) th_mono (hh.le (e16.trans (e7.trans e8))) (ed_var rfl (.obj _)) (ep_allL th_mono (ea_allC th_mono (ep_obT (ep_lstOfO ((tM (e7.trans e8) rfl).weak fun d H9 _ p => ⟨_, p⟩))) (ea_allC th_mono (ep_th (ed_tup (ds := []) ea_nil (by decide)) (fun H => .tup (Nat.zero_le _) fun d hd => nomatch hd))
    (ea_allC th_mono (ep_th (ed_rep1 (tM (e7.trans e8) rfl) ed_int (fun e => ?_) (by decide) (by rw [List.length_map]; omega)) (fun H => .tup ?_ fun d hd => ?_)) (ea_allC th_mono (ep_th (ed_rep1 (ds := [.int 0]) (ed_tup (ea_cons ed_int ea_nil) (by show 1 ≤ 100000; decide)) ed_int (fun e => nomatch e) (by decide) (by show 1 ≤ 1000; decide)) (fun H => .tup ?_ fun d hd => ?_))
    (ea_allC th_mono (ep_th (ed_rep1 (ds := [.int 30]) (ed_tup (ea_cons ed_int ea_nil) (by show 1 ≤ 100000; decide)) ed_int (fun e => nomatch e) (by decide) (by show 1 ≤ 1000; decide)) (fun H => .tup ?_ fun d hd => ?_)) (ea_allC th_mono (ep_th ed_non (th_sc rfl)) (ea_allC th_mono (tOdd (e7.trans e8) rfl) ea_all0))))))) (by decide) (by decide)) (by decide) (by decide)) (hT (e7.trans e8) rfl))) fun _ H8 e8 => ?_
  · have := congrArg List.length e
    rw [List.length_map] at this
    replace this : ms.length = 0 := this
    omega
  · rw [PyProof.Rows.lm_len_rep_flat, List.length_map]
    have := Nat.mul_le_mul (Nat.le_refl (61 : Int).toNat) few
    exact Nat.le_trans this (by decide)
  · obtain ⟨l, hl, hd⟩ := List.mem_flatten.mp hd
    rw [List.eq_of_mem_replicate hl] at hd
    obtain ⟨z, _, rfl⟩ := List.mem_map.mp hd
    exact .sc rfl
  · rw [PyProof.Rows.lm_len_rep_flat]
    decide
  · obtain ⟨l, hl, hd⟩ := List.mem_flatten.mp hd
    rw [List.eq_of_mem_replicate hl, List.mem_singleton] at hd
    rw [hd]
    exact .sc rfl
  · rw [PyProof.Rows.lm_len_rep_flat]
    decide
  · obtain ⟨l, hl, hd⟩ := List.mem_flatten.mp hd
    rw [List.eq_of_mem_replicate hl, List.mem_singleton] at hd
    rw [hd]
    exact .sc rfl
  have e78 := e7.trans e8
  -- kind == 3
  refine q_whenB (kdE rfl) (fun _ H9 e9 => fin (e78.trans e9) (ep_pair (hM (e78.trans e9) rfl) (ep_anyH (n := 6) th_mono (hh.le (e16.trans (e78.trans e9))) (ed_var rfl (.obj _)) (ep_allL th_mono (ea_allC th_mono (ep_obT (ep_lstOfO ((tT (e78.trans e9) rfl).weak fun d H9 _ p => ⟨_, p⟩))) (ea_allC th_mono (ep_th ed_non (th_sc rfl)) (ea_allC th_mono (ep_th (ed_tup (ds := []) ea_nil (by decide)) (fun H => .tup (Nat.zero_le _) fun d hd => nomatch hd))
    (ea_allC th_mono (tOdd (e78.trans e9) rfl) (ea_allC th_mono (ep_obT ep_dict) (ea_allC th_mono (ep_tht (ep_revP th_mono (aT (e78.trans e9) rfl)) (by decide)) ea_all0)))))) (by decide) (by decide)) (by decide) (by decide)))) fun _ H9 e9 => ?_
  have e79 := e78.trans e9
  have lo : ∀ {H' : Hp} {σ : L2.St}, Le H6 H' → σ[3]? = some (some v4) → σ[5]? = some (some (.int to)) → EP K (tSl (rSlA K) (tVar 3) tNoPart (tPart (tVar 5))) σ H' (AllT ThP 3600) := fun e s3 s5 => ep_slP th_mono (aT e s3) eo_none (eo_some (K := K) (iT s5))
  -- kind < 6
  refine q_whenB (kdB rfl) (fun _ H10 e10 => fin (e79.trans e10) (ep_pair (hM (e79.trans e10) rfl) (ep_tht (ep_catP th_mono (ep_catP th_mono (lo (e79.trans e10) rfl rfl) (ep_tup1 th_mono (tTie (e79.trans e10) rfl)) (by decide)) (ep_slP th_mono (aT (e79.trans e10) rfl) (eo_some (K := K) (iT rfl)) eo_none) (by decide)) (by decide)))) fun _ H10 e10 => ?_
  have e7a := e79.trans e10
  -- kind == 6
  refine q_whenB (kdE rfl) (fun _ H11 e11 => fin (e7a.trans e11) (ep_pair (hM (e7a.trans e11) rfl) (ep_tht (ep_catP th_mono (ep_catP th_mono (lo (e7a.trans e11) rfl rfl) (ep_tup1 th_mono (tTie (e7a.trans e11) rfl)) (by decide)) (ep_slP th_mono (aT (e7a.trans e11) rfl) (eo_some (K := K) (ed_I0 (f := fun i j => i + j) (iT rfl) ed_int)) eo_none) (by decide)) (by decide)))) fun _ H11 e11 => ?_
  have e7b := e7a.trans e11
  -- kind == 7
  refine q_whenB (kdE rfl) (fun _ H12 e12' => fin (e7b.trans e12') (ep_pair (hM (e7b.trans e12') rfl) (ep_tht (ep_catP th_mono (ep_catP th_mono (lo (e7b.trans e12') rfl rfl) (ep_repP (n := 1) th_mono ((ed_slT (tT (e7b.trans e12') rfl) (eo_some (K := K) (iT rfl)) (eo_some (K := K) (ed_I0 (f := fun i j => i + j) (iT rfl) ed_int))).weak fun d H13 _ p => ?_) ed_int (by decide) (by decide)) (by decide)) (ep_slP th_mono (aT (e7b.trans e12') rfl) (eo_some (K := K) (ed_I0 (f := fun i j => i + j) (iT rfl) ed_int)) eo_none) (by decide)) (by decide)))) fun _ H12 e12' => ?_
  · have p' : d = .tup (cutG (ties.map eP) (some to) (some (to + 1))) := p
    subst p'
    rw [cutG_two _ _ _ to0 (by omega)]
    refine ⟨_, rfl, ?_, fun d hd => ?_⟩
    · rw [List.length_take]
      have h1 : (to + 1).toNat - to.toNat ≤ 1 := by omega
      exact Nat.le_trans (Nat.min_le_left _ _) h1
    · obtain ⟨z, _, rfl⟩ := List.mem_map.mp (List.mem_of_mem_drop (List.mem_of_mem_take hd))
      exact th_P z
  have e7c := e7b.trans e12'
  exact fin e7c (ep_pair (ep_tht (ep_slP th_mono (aM e7c rfl) eo_none (eo_some (K := K) (ed_neg ed_int))) (by decide)) (hT e7c rfl))
end
end W1

set_option maxRecDepth 100000
set_option maxHeartbeats 4000000
/-! the makers of webs: rows, rings, grids -/
namespace W1
open PySem PyProof.Rows L2
local macro_rules | `(tactic| walk_at "rp") => `(tactic| first | assumption | exact Rp.int _ | exact Rp.bl _ | exact Rp.str _ | exact Rp.non | exact Rp.obj _ | (refine Rp.le (by assumption) ?_; walk_at "rp"))
local macro_rules | `(tactic| walk_at "ed") => `(tactic| first
  | exact ed_int | exact ed_str | exact ed_bl | exact ed_non
  | (refine ed_var rfl ?_; walk_at "rp")
  | (refine ed_ixT (ds := [_, _]) ?_ ed_int (by decide) rfl; walk_at "ed")
  | (refine ed_I0 ?_ ?_ <;> walk_at "ed")
  | (refine ed_B0 ?_ ?_ <;> walk_at "ed")
  | (refine ed_eqS ?_ ?_ rfl rfl rfl <;> walk_at "ed")
  | assumption)
local macro_rules | `(tactic| walk_at "ea") => `(tactic| first | exact ea_nil | (refine ea_cons ?_ ?_; walk_at "ed"; walk_at "ea"))

abbrev s_check_number : Stmt := topS 9
abbrev N_check_number : List Str := ["least", "most", "thing"]
theorem sc_check_number : FnScope N_check_number ["least", "most", "thing"] (defScope s_check_number) := ⟨rfl, rfl, rfl, by decide +kernel, rfl, by decide +kernel, by decide +kernel⟩
abbrev s_row_ties : Stmt := topS 24
abbrev N_row_ties : List Str := ["many", "room"]
theorem sc_row_ties : FnScope N_row_ties ["many"] (defScope s_row_ties) := ⟨rfl, rfl, rfl, by decide +kernel, rfl, by decide +kernel, by decide +kernel⟩
abbrev s_row_web : Stmt := topS 22
abbrev N_row_web : List Str := ["many", "memory"]
theorem sc_row_web : FnScope N_row_web ["many", "memory"] (defScope s_row_web) := ⟨rfl, rfl, rfl, by decide +kernel, rfl, by decide +kernel, by decide +kernel⟩
abbrev s_ring_web : Stmt := topS 23
abbrev N_ring_web : List Str := ["many", "memory"]
theorem sc_ring_web : FnScope N_ring_web ["many", "memory"] (defScope s_ring_web) := ⟨rfl, rfl, rfl, by decide +kernel, rfl, by decide +kernel, by decide +kernel⟩
/-! ### sorted, of pairs -/
def PairAt (K : PySem.W.Frag) (H : Hp) (x : V) (p : Int × Int) : Prop := ∃ t, x = .ref t ∧ SqT K H t [.int p.1, .int p.2]
theorem pair_uniq {X : Cx} {pins : List (Addr × Obj)} {σ : L2.St} {H : Hp} {s : Shared} {x : V} {p q : Int × Int} (I : Inv X pins σ H s) (h1 : PairAt X.K H x p) (h2 : PairAt X.K H x q) : p = q := by
  obtain ⟨t, rfl, s1⟩ := h1
  obtain ⟨t', e, s2⟩ := h2
  cases e
  obtain ⟨i1, r1, ⟨o, ho, hc, n, hd⟩, _⟩ := I.tuple s1
  obtain ⟨i2, r2, ⟨o2, ho2, hc2, n2, hd2⟩, _⟩ := I.tuple s2
  have eo := Option.some.inj (ho.symm.trans ho2)
  subst eo
  rw [hd] at hd2
  injection hd2 with hd2 _
  have ei : i1 = i2 := by
    have := congrArg Array.toList hd2
    simpa using this
  subst ei
  obtain ⟨u1, u2, e1, a1, a2⟩ := vals2 r1
  obtain ⟨w1, w2, e2, b1, b2⟩ := vals2 r2
  rw [e1] at e2
  injection e2 with e3 e4
  injection e4 with e4 _
  subst e3 e4
  obtain ⟨t1, g1⟩ := a1
  obtain ⟨t2, g2⟩ := b1
  obtain ⟨t3, g3⟩ := a2
  obtain ⟨t4, g4⟩ := b2
  rw [g1] at g2
  rw [g3] at g4
  injection g2 with g2 _
  injection g4 with g4 _
  exact Prod.ext g2 g4
open Classical in
noncomputable def keyOf (K : PySem.W.Frag) (H : Hp) (x : V) : Int × Int := if h : ∃ p, PairAt K H x p then h.choose else (0, 0)
theorem key_at {K : PySem.W.Frag} {H : Hp} {x : V} {p : Int × Int} (h : PairAt K H x p) : PairAt K H x (keyOf K H x) := by
  have h' : ∃ p, PairAt K H x p := ⟨p, h⟩
  unfold keyOf
  rw [dif_pos h']
  exact h'.choose_spec
theorem rp_pair {K : PySem.W.Frag} {H : Hp} {x : V} {p : Int × Int} (h : Rp K H x (eP p)) : PairAt K H x p := by
  obtain ⟨a, xs, rfl, s, r⟩ := rp_tup h
  have e := ints_rps (ns := [p.1, p.2]) r
  subst e
  exact ⟨a, rfl, s⟩
theorem pair_rp {K : PySem.W.Frag} {H : Hp} {x : V} {p : Int × Int} (h : PairAt K H x p) : Rp K H x (eP p) := by
  obtain ⟨t, rfl, s⟩ := h
  exact .tup s (rps_ints [p.1, p.2])
theorem keys_of {X : Cx} {pins : List (Addr × Obj)} {σ : L2.St} {H : Hp} {s : Shared} (I : Inv X pins σ H s) : ∀ {xs : List V} {ps : List (Int × Int)}, Rps X.K H xs (ps.map eP) → xs.map (keyOf X.K H) = ps ∧ ∀ x ∈ xs, PairAt X.K H x (keyOf X.K H x)
  | [], [], _ => ⟨rfl, fun x h => nomatch h⟩
  | x :: xs, p :: ps, h => by
    cases h with
    | cons a r =>
      obtain ⟨h1, h2⟩ := keys_of I r
      have k := key_at (rp_pair a)
      refine ⟨by rw [List.map_cons, h1, pair_uniq I k (rp_pair a)], fun y hy => ?_⟩
      rcases List.mem_cons.mp hy with rfl | hy
      · exact k
      · exact h2 y hy
  | [], _ :: _, h => by
    rw [List.map_cons] at h
    cases h
  | _ :: _, [], h => by cases h
def rSortedP (K : PySem.W.Frag) : List V → Hp → VK → Prop := fun vs H Q => ∃ (a : Addr) (xs : List V) (ps : List (Int × Int)), vs = [V.ref a] ∧ SqL K H a xs ∧ Rps K H xs (ps.map eP) ∧
  ∀ ys qs p, Rps K H ys (qs.map eP) → Srt qs ps → H p = none → Q (.ref p) (upd H p (.lst ys))
theorem cr_sortedP {X : Cx} : CallR X (.builtin "sorted") (rSortedP X.K) := by
  intro pins s σ H vs us Q I r h
  obtain ⟨a, xs, ps, rfl, hs, rr, q⟩ := h
  obtain ⟨h1, h2⟩ := keys_of I rr
  refine cr_sortedPT pins s σ H _ us Q I r ⟨a, xs, keyOf X.K H, rfl, hs, fun x hx => h2 x hx, fun ys p hs hst np => q ys (ys.map (keyOf X.K H)) p ?_ ⟨?_, ?_⟩ np⟩
  · have hm : ∀ y ∈ ys, PairAt X.K H y (keyOf X.K H y) := fun y hy => h2 y (hst.perm.mem_iff.mp hy)
    clear q hst hs
    induction ys with
    | nil => exact .nil
    | cons y ys ih =>
      rw [List.map_cons, List.map_cons]
      exact .cons (pair_rp (hm y (List.mem_cons_self ..))) (ih fun z hz => hm z (List.mem_cons_of_mem _ hz))
  · have := hst.perm.map (keyOf X.K H)
    rw [h1] at this
    exact this
  · rw [List.pairwise_map]
    exact hs
theorem kcr_sortedP {X : Cx} {K : PySem.W.Frag} (h : X.K = K := by rfl) : CallR X (.builtin "sorted") (rSortedP K) := h ▸ cr_sortedP
theorem kcr_sumT {X : Cx} {K : PySem.W.Frag} (hc : X.calm = true) (h : X.K = K := by rfl) : CallR X (.builtin "sum") (rSumT K) := h ▸ cr_sumT hc
section
variable {K : PySem.W.Frag} {σ : L2.St} {H : Hp} {ta tb : TE} {vs : List Nat}
theorem ep_sortedP {ps : List (Int × Int)} (h : ED K ta σ H (.lst (ps.map eP))) : EP K (tCB (rSortedP K) (tCons ta tNil)) σ H (fun d _ => ∃ l : List (Int × Int), d = .lst (l.map eP) ∧ Srt l ps) := fun H1 e Q q => h H1 e _ fun v d H2 e2 p r => by
  have p' : d = .lst (ps.map eP) := p
  subst p'
  obtain ⟨a, xs, rfl, s, nh, rr⟩ := rp_lst r
  refine ⟨a, xs, ps, rfl, SqL.of s, rr, fun ys qs z ry hs hn => ?_⟩
  have rl := ry.le (Le.new (o := .lst ys) hn)
  exact q _ (.lst (qs.map eP)) _ (e2.trans (Le.new hn)) ⟨qs, rfl, hs⟩ (.lst upd_same ((enc_P.un _).notH rl) rl)
theorem ep_tupOfP {PT : List (Int × Int) → Prop} (h : EP K ta σ H fun d _ => ∃ l : List (Int × Int), d = .lst (l.map eP) ∧ PT l) : EP K (tCB (rTupOf K) (tCons ta tNil)) σ H (fun d _ => ∃ l : List (Int × Int), d = .tup (l.map eP) ∧ PT l) :=
  (ep_tupOf (PL := fun ds => ∃ l : List (Int × Int), ds = l.map eP ∧ PT l) (h.weak fun d _ _ p => by
    obtain ⟨l, rfl, hl⟩ := p
    exact ⟨_, rfl, l, rfl, hl⟩)).weak fun d _ _ p => by
    obtain ⟨ds, rfl, l, rfl, hl⟩ := p
    exact ⟨l, rfl, hl⟩
/-- (m,) * n -/
theorem ed_rep1m {n : Nat} {m : Int} (ha : ED K ta σ H (.int m)) (hb : ED K tb σ H (.int (n : Int))) (h1 : 1 ≤ n) (h2 : n ≤ 60) : ED K (tOp (rRep1 K) (tTup (tCons ta tNil)) tb) σ H (.tup ((List.replicate n m).map .int)) := by
  refine ed_eq (ed_rep1 (ds := [.int m]) (ed_tup (ea_cons ha ea_nil) (by show 1 ≤ 100000; decide)) hb (fun e => nomatch e) (by omega) (by show 1 ≤ 1000; decide)) ?_
  rw [Int.toNat_natCast, List.map_replicate]
  congr 1
  have : ∀ k, (List.replicate k [D.int m]).flatten = List.replicate k (D.int m) := fun k => by
    induction k with
    | zero => rfl
    | succ k ih => rw [List.replicate_succ, List.flatten_cons, ih]; rfl
  exact this n
end
/-! ### numbers -/
structure NC (P : Program) (w : World) (K : PySem.W.Frag) (mg : Str → Option Value) (base : Heap) (x : Str) (C D : Addr) : Prop where
  mgC : mg x = some (.ref C)
  sc : SupC K D C
  rs : PySem.W.subIn K (.ref C) (.type "BaseException") = some true ∧ PySem.W.typeIn K (.ref C) = some (.type "type")
  ex : ∃ fi fd, PySem.W.findIn K (.ref C) "__init__" = some (some (.ref fi)) ∧ PySem.W.typeIn K (.ref fi) = some (.type "function") ∧ FnOk P w K mg base CX0 1 fi fd ["self"] (spSup K D) ∧ Binds K fd ["self"] []
theorem pe_nc {X : Cx} {x : Str} {C D : Addr} {p pos : Pos} (c : NC X.prog X.w X.K X.mg X.base x C D) (hr : Room 2 X.A) (hg : Gl X x) (hdb : (x == ("__debug__" : Str)) = false := by decide) : PE X (.Call (.Name x p) [] [] pos) (fun σ H Q => ∀ a, H a = none → Q (.ref a) (upd H a (exo a C none))) := by
  obtain ⟨fi, fd, h1, h2, F, b⟩ := c.ex
  exact pe_sup0 c.sc h1 h2 F hr b hg c.mgC hdb
abbrev webP (K : PySem.W.Frag) (C : Addr) (ms : List Int) (PT : List (Int × Int) → Prop) : Pd := fun d H => ∃ a ties, d = .obj (.ref a) ∧ PT ties ∧ WebAt K C H a ms ties
section
variable {P : Program} {w : World} {K : PySem.W.Frag} {mg : Str → Option Value} {base : Heap} {C CB CN CD : Addr}
theorem ep_web {σ : L2.St} {H : Hp} {ta tb : TE} {E : XK} {ms : List Int} {PT : List (Int × Int) → Prop} (h1 : ED K ta σ H (.tup (ms.map .int))) (h2 : EP K tb σ H fun d _ => ∃ l : List (Int × Int), d = .tup (l.map eP) ∧ PT l) (ok : ∀ l, PT l → PartsOk ms l) :
    EP K (tMake C (spWebX K C CB) [] E (tCons ta (tCons tb tNil))) σ H (webP K C ms PT) := fun H1 e Q q => by
  refine h1 H1 e _ fun w1 d1 H2 e2 p1 r1 => h2 H2 (e.trans e2) _ fun w2 d2 H3 e3 p2 r2 => ?_
  have p1' : d1 = .tup (ms.map .int) := p1
  subst p1'
  obtain ⟨l, rfl, hl⟩ := p2
  exact ep_mkW (K := K) (C := C) (CB := CB) (E := E) (σ := σ) (H := H3) (A := fun _ H Q => Q [w1, w2] H) (fun H4 e4 Q q => q [w1, w2] [_, _] H4 (Le.refl _) rfl (.cons ((r1.le e3).le e4) (.cons (r2.le e4) .nil))) (ok l hl) H3 (Le.refl _) Q fun v d H4 e4 p r => by
    obtain ⟨a, rfl, x⟩ := p
    exact q v _ H4 ((e2.trans e3).trans e4) ⟨a, l, rfl, hl, x⟩ r
def R_cnum (CN : Addr) : List D → Hp → Out → Prop := fun ds H o => ∃ l m d, ds = [.int l, .int m, d] ∧ Th H d ∧ o = if btw l m d = true then .ret (is .non) else .err CN none
theorem ok_cnum (T : KTxt mg) (c_NoNumber : NC P w K mg base "NoNumber" CN CD) (g : GDef K mg "check_number" s_check_number ["least", "most", "thing"]) (Gis_between : Def P w K mg base 2 "is_between" ["least", "most", "thing"] (spD K R_btw)) : DefX P w K mg base 3 "check_number" ["least", "most", "thing"] (spX K (R_cnum CN)) := by
  refine defX g sc_check_number (fun ds H o h => ?_) fun cdv A outer s f H vs ds o Q E hr r h q l => ?_
  · obtain ⟨_, _, d, rfl, _⟩ := h
    rfl
  obtain ⟨lo, hi, d, rfl, ht, ho⟩ := h
  obtain ⟨v1, v2, v3, rfl, r1, r2, r3⟩ := rps3 r
  refine ⟨_, (pss_one (ps_if (pt_not (pt_val (pe_def Gis_between (hr.mono (by decide)) (pa_cons (pv 0) (pa_cons (pv 1) (pa_cons (pv 2) pa_nil))))))
      (pss_one (ps_raise rfl (takes_of rfl rfl rfl rfl) (pmk_exo rfl (pe_nc c_NoNumber (hr.mono (by decide)) (by rfl)))))
      pss_nil)), ?_⟩
  refine s_ifB (b := !btw lo hi d) (eb_not (et_B (K := K) (ed_btwK (ed_var rfl r1) (ed_var rfl r2) (ed_var rfl r3) ht.tk))) (fun hb H1 e1 => ?_) fun hb H1 e1 => ?_
  · rw [Bool.not_eq_true'] at hb
    rw [hb, if_neg Bool.false_ne_true] at ho
    intro a na
    refine ⟨a, CN, rfl, upd_same, fr0_none (e1.fresh na), raises_own c_NoNumber.rs.1 c_NoNumber.rs.2, ?_⟩
    rw [delH_new na]
    exact l _ _ ho H1 e1
  · rw [Bool.not_eq_false'] at hb
    rw [if_pos hb] at ho
    exact q _ ho .non .non H1 e1 rfl .non
/-- a check of a number, ahead of what follows -/
theorem q_cnum {σ : L2.St} {H : Hp} {ta tb tc : TE} {E : XK} {lo hi : Int} {d : D} {tz : TS} {D1 : Ends} (ha : ED K ta σ H (.int lo)) (hb : ED K tb σ H (.int hi)) (hc : ED K tc σ H d) (t : Th H d) (no : btw lo hi d = false → Lets K E H CN none) (yes : btw lo hi d = true → ∀ H1, Le H H1 → tz D1 σ H1) :
    tSeq (tDrop (tCall (spX K (R_cnum CN)) [] E (tCons ta (tCons tb (tCons tc tNil))))) tz D1 σ H := by
  cases h : btw lo hi d with
  | false =>
    exact er_callX (K := K) (ea_cons ha (ea_cons hb (ea_cons hc ea_nil))) (fun H2 e2 => ⟨lo, hi, d, rfl, t.le e2, by rw [h]; rfl⟩) (no h) _
  | true =>
    exact q_drop (K := K) (P := is .non) (ep_callX (ea_cons ha (ea_cons hb (ea_cons hc ea_nil))) fun H2 e2 => ⟨lo, hi, d, rfl, t.le e2, by rw [h]; rfl⟩) (yes h)
def R_rowt : List D → Hp → Pd → Prop := fun ds H P => ∃ n : Nat, ds = [.int (n : Int)] ∧ 1 ≤ n ∧ n ≤ 60 ∧ P = is (.lst ((rowL n).map eP))
theorem ok_rowt (T : KTxt mg) (g : GDef K mg "row_ties" s_row_ties ["many"]) : Def P w K mg base 1 "row_ties" ["many"] (spD K R_rowt) := by
  refine defD g sc_row_ties (fun ds H Pd h => ?_) fun cdv A outer s f H vs ds Pd Q E hr r h q => ?_
  · obtain ⟨n, rfl, _⟩ := h
    rfl
  obtain ⟨n, rfl, n1, n2, rfl⟩ := h
  obtain ⟨v1, rfl, r1⟩ := rps1 r
  refine ⟨_, (pss_one (ps_ret (pe_lc (own := [("room", 1)]) rfl sc_row_ties.nd (pi_range1 (by rfl) T.n_range (pa_cons (pe_op op_sub (pv 0) pe_int) pa_nil)) (blkOk_by (N := N_row_ties) (sc := defScope s_row_ties) (by decide +kernel)) (fun _ _ _ _ _ => (pg_name (i := 1) sc_row_ties.nd rfl (Or.inl rfl))) (fun _ _ _ _ _ => pts_nil) (fun _ _ _ _ _ => (pe_tup (pa_cons (pv 1) (pa_cons (pe_op op_add (pv 1) pe_int) pa_nil))))))), ?_⟩
  refine s_retD (K := K) (d := .lst ((rowL n).map eP)) (ed_eq (ed_lcR enc_P (n := n - 1) (fun _ => true) (fun i : Nat => ((i : Int), (i : Int) + 1)) (ea_cons (ed_eq (ed_I0 (f := fun i j => i - j) (ed_var rfl r1) ed_int) (congrArg D.int (by omega))) ea_nil) (by omega) (fun _ => rfl) (fun i H1 _ _ => et_yes) fun i H1 e1 hi _ => ed_tup (ds := [.int (i : Int), .int ((i : Int) + 1)]) (ea_cons (ed_var rfl (.int _)) (ea_cons (ed_I0 (f := fun i j => i + j) (ed_var rfl (.int _)) ed_int) ea_nil)) (by show 2 ≤ 100000; decide)) ?_) fun v H1 e1 r => q v _ H1 e1 rfl r
  rw [List.filter_eq_self.mpr (fun _ _ => rfl)]
  rfl
/-- right numbers, or none -/
def NumO (CN : Addr) (K : PySem.W.Frag) (C : Addr) (b : Bool) (ms : List Int) (PT : List (Int × Int) → Prop) (o : Out) : Prop := if b = true then o = .ret (webP K C ms PT) else o = .err CN none
def R_roww (K : PySem.W.Frag) (C CN : Addr) : List D → Hp → Out → Prop := fun ds H o => ∃ dn dm, ds = [dn, dm] ∧ Th H dn ∧ Th H dm ∧ ((btw 1 60 dn && btw 0 30 dm) = false → o = .err CN none) ∧ (∀ (n : Nat) m, dn = .int (n : Int) → dm = .int m → 1 ≤ n → n ≤ 60 → 0 ≤ m → m ≤ 30 → o = .ret (webP K C (List.replicate n m) fun l => l = rowL n))
theorem ok_roww (T : KTxt mg) (M : WMk P w K mg base C CB) (g : GDef K mg "row_web" s_row_web ["many", "memory"]) (Gcheck_number : DefX P w K mg base 3 "check_number" ["least", "most", "thing"] (spX K (R_cnum CN))) (Grow_ties : Def P w K mg base 1 "row_ties" ["many"] (spD K R_rowt)) : DefX P w K mg base 7 "row_web" ["many", "memory"] (spX K (R_roww K C CN)) := by
  refine defX g sc_row_web (fun ds H o h => ?_) fun cdv A outer s f H vs ds o Q E hr r h q l => ?_
  · obtain ⟨dn, dm, rfl, _⟩ := h
    rfl
  obtain ⟨dn, dm, rfl, tn, tm, no, yes⟩ := h
  obtain ⟨v1, v2, rfl, r1, r2⟩ := rps2 r
  refine ⟨_, (pss_cons (ps_expr (pe_defX Gcheck_number (hr.mono (by decide)) passUp (pa_cons pe_int (pa_cons (pe_gl T.g_rooms) (pa_cons (pv 0) pa_nil)))))
    (pss_cons (ps_expr (pe_defX Gcheck_number (hr.mono (by decide)) passUp (pa_cons pe_int (pa_cons (pe_gl T.g_memory) (pa_cons (pv 1) pa_nil)))))
    (pss_one (ps_ret (pe_mkW (K := K) M (hr.mono (by decide)) passUp (pa_cons (pe_op (kop_rep1 (K := K)) (pe_tup (pa_cons (pv 1) pa_nil)) (pv 0)) (pa_cons (pe_callTy (kc_tuple (K := K)) (by rfl) T.n_tuple boot_tuple (pa_cons (pe_def Grow_ties (hr.mono (by decide)) (pa_cons (pv 0) pa_nil)) pa_nil)) pa_nil))))))), ?_⟩
  refine q_cnum (K := K) (CN := CN) ed_int (fun H1 _ Q q => q _ _ H1 (Le.refl _) rfl (.int 60)) (ed_var rfl r1) tn (fun h1 => l _ _ (no (by rw [h1]; rfl))) fun h1 H1 e1 => ?_
  refine q_cnum (K := K) (CN := CN) ed_int (fun H1 _ Q q => q _ _ H1 (Le.refl _) rfl (.int 30)) (ed_var rfl (r2.le e1)) (tm.le e1) (fun h2 => (l _ _ (no (by rw [h2, Bool.and_false]))).le e1) fun h2 H2 e2 => ?_
  obtain ⟨n, rfl, n1, n2⟩ := btw_int h1
  obtain ⟨m, rfl, m0, m1⟩ := btw_int h2
  obtain ⟨n, rfl⟩ : ∃ k : Nat, n = (k : Int) := ⟨n.toNat, by omega⟩
  have ho := yes n m rfl rfl (by omega) (by omega) m0 m1
  have e12 := e1.trans e2
  refine s_ret (K := K) (ep_web (PT := fun l => l = rowL n) (ed_rep1m (ed_var rfl (r2.le e12)) (ed_var rfl (r1.le e12)) (by omega) (by omega)) (ep_tupOfP ((ed_call (P := is (.lst ((rowL n).map eP))) (ea_cons (ed_var rfl (r1.le e12)) ea_nil) fun H3 _ => ⟨n, rfl, by omega, by omega, rfl⟩).weak fun d _ _ p => ⟨_, p, rfl⟩)) fun l hl => ?_) fun v d H3 e3 p r => q _ ho v d H3 (e12.trans e3) p r
  subst hl
  exact parts_rep (by omega) (by omega) m0 m1 (fun p hp => by have := mem_rowL.mp hp; omega) (up_rowL n)
def R_ringw (K : PySem.W.Frag) (C CN : Addr) : List D → Hp → Out → Prop := fun ds H o => ∃ dn dm, ds = [dn, dm] ∧ Th H dn ∧ Th H dm ∧ ((btw 3 60 dn && btw 0 30 dm) = false → o = .err CN none) ∧ (∀ (n : Nat) m, dn = .int (n : Int) → dm = .int m → 3 ≤ n → n ≤ 60 → 0 ≤ m → m ≤ 30 → o = .ret (webP K C (List.replicate n m) fun l => Srt l (ringL n)))
theorem ok_ringw (T : KTxt mg) (M : WMk P w K mg base C CB) (g : GDef K mg "ring_web" s_ring_web ["many", "memory"]) (Gcheck_number : DefX P w K mg base 3 "check_number" ["least", "most", "thing"] (spX K (R_cnum CN))) (Grow_ties : Def P w K mg base 1 "row_ties" ["many"] (spD K R_rowt)) : DefX P w K mg base 7 "ring_web" ["many", "memory"] (spX K (R_ringw K C CN)) := by
  refine defX g sc_ring_web (fun ds H o h => ?_) fun cdv A outer s f H vs ds o Q E hr r h q l => ?_
  · obtain ⟨dn, dm, rfl, _⟩ := h
    rfl
  obtain ⟨dn, dm, rfl, tn, tm, no, yes⟩ := h
  obtain ⟨v1, v2, rfl, r1, r2⟩ := rps2 r
  refine ⟨_, (pss_cons (ps_expr (pe_defX Gcheck_number (hr.mono (by decide)) passUp (pa_cons pe_int (pa_cons (pe_gl T.g_rooms) (pa_cons (pv 0) pa_nil)))))
    (pss_cons (ps_expr (pe_defX Gcheck_number (hr.mono (by decide)) passUp (pa_cons pe_int (pa_cons (pe_gl T.g_memory) (pa_cons (pv 1) pa_nil)))))
    (pss_one (ps_ret (pe_mkW (K := K) M (hr.mono (by decide)) passUp (pa_cons (pe_op (kop_rep1 (K := K)) (pe_tup (pa_cons (pv 1) pa_nil)) (pv 0)) (pa_cons (pe_callTy (kc_tuple (K := K)) (by rfl) T.n_tuple boot_tuple (pa_cons (pe_callB (kcr_sortedP (K := K)) (by rfl) T.n_sorted boot_sorted (pa_cons (pe_op op_cat (pe_def Grow_ties (hr.mono (by decide)) (pa_cons (pv 0) pa_nil)) (pe_lst (pa_cons (pe_tup (pa_cons pe_int (pa_cons (pe_op op_sub (pv 0) pe_int) pa_nil))) pa_nil))) pa_nil)) pa_nil)) pa_nil))))))), ?_⟩
  refine q_cnum (K := K) (CN := CN) ed_int (fun H1 _ Q q => q _ _ H1 (Le.refl _) rfl (.int 60)) (ed_var rfl r1) tn (fun h1 => l _ _ (no (by rw [h1]; rfl))) fun h1 H1 e1 => ?_
  refine q_cnum (K := K) (CN := CN) ed_int (fun H1 _ Q q => q _ _ H1 (Le.refl _) rfl (.int 30)) (ed_var rfl (r2.le e1)) (tm.le e1) (fun h2 => (l _ _ (no (by rw [h2, Bool.and_false]))).le e1) fun h2 H2 e2 => ?_
  obtain ⟨n, rfl, n1, n2⟩ := btw_int h1
  obtain ⟨m, rfl, m0, m1⟩ := btw_int h2
  obtain ⟨n, rfl⟩ : ∃ k : Nat, n = (k : Int) := ⟨n.toNat, by omega⟩
  have n3 : 3 ≤ n := by omega
  have n60 : n ≤ 60 := by omega
  have ho := yes n m rfl rfl n3 n60 m0 m1
  have e12 := e1.trans e2
  refine s_ret (K := K) (ep_web (PT := fun l => Srt l (ringL n)) (ed_rep1m (ed_var rfl (r2.le e12)) (ed_var rfl (r1.le e12)) (by omega) (by omega)) (ep_tupOfP (ep_sortedP (ps := ringL n) (ed_eq (ed_cat (ds := (rowL n).map eP) (es := [eP (0, (n : Int) - 1)]) (ed_call (P := is (.lst ((rowL n).map eP))) (ea_cons (ed_var rfl (r1.le e12)) ea_nil) fun H3 _ => ⟨n, rfl, by omega, by omega, rfl⟩) (ed_lst (ds := [eP (0, (n : Int) - 1)]) (ea_cons (ed_tup (ds := [.int 0, .int ((n : Int) - 1)]) (ea_cons ed_int (ea_cons (ed_I0 (f := fun i j => i - j) (ed_var rfl (r1.le e12)) ed_int) ea_nil)) (by show 2 ≤ 100000; decide)) ea_nil) (by show 1 ≤ 100000; decide) rfl) ?_ ?_) ?_))) fun l hl => ?_) fun v d H3 e3 p r => q _ ho v d H3 (e12.trans e3) p r
  · rw [List.length_map, len_rowL, List.length_singleton]
    omega
  · have := enc_P.un (ringL n)
    unfold ringL at this
    rw [List.map_append] at this
    exact this
  · unfold ringL
    rw [List.map_append]
    rfl
  · exact parts_rep (by omega) n60 m0 m1 (fun p hp => mem_ringL n3 (hl.perm.mem_iff.mp hp)) (hl.strict (nd_ringL n3))
end
end W1

set_option maxRecDepth 100000
set_option maxHeartbeats 4000000
/-! the makers of webs: grids, sides -/
namespace W1
open PySem PyProof.Rows L2
local macro_rules | `(tactic| walk_at "rp") => `(tactic| first | assumption | exact Rp.int _ | exact Rp.bl _ | exact Rp.str _ | exact Rp.non | exact Rp.obj _ | (refine Rp.le (by assumption) ?_; walk_at "rp"))
local macro_rules | `(tactic| walk_at "ed") => `(tactic| first
  | exact ed_int | exact ed_str | exact ed_bl | exact ed_non
  | (refine ed_var rfl ?_; walk_at "rp")
  | (refine ed_ixT (ds := [_, _]) ?_ ed_int (by decide) rfl; walk_at "ed")
  | (refine ed_I0 ?_ ?_ <;> walk_at "ed")
  | (refine ed_B0 ?_ ?_ <;> walk_at "ed")
  | (refine ed_eqS ?_ ?_ rfl rfl rfl <;> walk_at "ed")
  | assumption)
local macro_rules | `(tactic| walk_at "ea") => `(tactic| first | exact ea_nil | (refine ea_cons ?_ ?_; walk_at "ed"; walk_at "ea"))

abbrev s_grid_web : Stmt := topS 25
abbrev N_grid_web : List Str := ["wide", "high", "memory", "many", "beside", "below", "room"]
theorem sc_grid_web : FnScope N_grid_web ["wide", "high", "memory"] (defScope s_grid_web) := ⟨rfl, rfl, rfl, by decide +kernel, rfl, by decide +kernel, by decide +kernel⟩
abbrev s_check_sizes : Stmt := topS 29
abbrev N_check_sizes : List Str := ["sizes", "size"]
theorem sc_check_sizes : FnScope N_check_sizes ["sizes"] (defScope s_check_sizes) := ⟨rfl, rfl, rfl, by decide +kernel, rfl, by decide +kernel, by decide +kernel⟩
abbrev s_check_sided : Stmt := topS 28
abbrev N_check_sided : List Str := ["sizes", "memory"]
theorem sc_check_sided : FnScope N_check_sided ["sizes", "memory"] (defScope s_check_sided) := ⟨rfl, rfl, rfl, by decide +kernel, rfl, by decide +kernel, by decide +kernel⟩
abbrev s_room_sides : Stmt := topS 27
abbrev N_room_sides : List Str := ["sizes", "side", "size", "_"]
theorem sc_room_sides : FnScope N_room_sides ["sizes"] (defScope s_room_sides) := ⟨rfl, rfl, rfl, by decide +kernel, rfl, by decide +kernel, by decide +kernel⟩
theorem btw_iff {l m i : Int} : btw l m (.int i) = true ↔ l ≤ i ∧ i ≤ m := by
  show (decide (l ≤ i) && decide (i ≤ m)) = true ↔ _
  rw [Bool.and_eq_true, decide_eq_true_iff, decide_eq_true_iff]
theorem le_fdiv {a w : Int} (hw : 1 ≤ w) : a ≤ (60 : Int).fdiv w ↔ w * a ≤ 60 := by
  rw [Int.fdiv_eq_ediv_of_nonneg _ (by omega), Int.le_ediv_iff_mul_le (by omega), Int.mul_comm]
/-! what grows in a comprehension -/
structure Gro (K : PySem.W.Frag) (H1 : Hp) (L : Addr) {α : Type} (enc : α → D) (zs : List α) (H : Hp) : Prop where
  new : H1 L = none
  le : Le H1 H
  ls : ∃ ws, H L = some (.lst ws) ∧ Rps K H ws (zs.map enc)
section
variable {K : PySem.W.Frag} {H1 H H2 : Hp} {L : Addr} {α : Type} {enc : α → D} {zs : List α}
theorem Gro.start (h : H1 L = none) : Gro K H1 L enc ([] : List α) (upd H1 L (.lst [])) := ⟨h, Le.new h, [], upd_same, .nil⟩
theorem Gro.keep (E : Enc enc) (g : Gro K H1 L enc zs H) (e : Le H H2) : Gro K H1 L enc zs H2 := by
  obtain ⟨n, l, ws, h, r⟩ := g
  exact ⟨n, l.trans e, ws, e.lst h ((E.un zs).notH r), r.le e⟩
theorem Gro.more {z : α} {y : V} (E : Enc enc) (g : Gro K H1 L enc zs H) (r : Rp K H y (enc z)) (hz : zs.length < 50000) :
    ∃ ac, H L = some (.lst ac) ∧ ac.length < sizeLine ∧ Gro K H1 L enc (zs ++ [z]) (upd H L (.lst (ac ++ [y]))) := by
  obtain ⟨n, l, ws, h, rr⟩ := g
  refine ⟨ws, h, Evl.sz_lt (by rw [rr.len, List.length_map]; omega), n, l.mut n, ws ++ [y], upd_same, ?_⟩
  rw [List.map_append]
  exact (rr.upd h (E.nl zs)).app (.cons (r.upd h (E.noL z)) .nil)
theorem Gro.done (E : Enc enc) (g : Gro K H1 L enc zs H) : Rp K H (.ref L) (.lst (zs.map enc)) := by
  obtain ⟨n, l, ws, h, rr⟩ := g
  exact .lst h ((E.un zs).notH rr) rr
end
section
variable {P : Program} {w : World} {K : PySem.W.Frag} {mg : Str → Option Value} {base : Heap} {C CB CN CD : Addr}
/-! ### grids -/
def GridG (dw dh dm : D) : Prop := ∃ w h m : Int, dw = .int w ∧ dh = .int h ∧ dm = .int m ∧ 1 ≤ w ∧ w ≤ 60 ∧ 1 ≤ h ∧ w * h ≤ 60 ∧ 0 ≤ m ∧ m ≤ 30
def R_gridw (K : PySem.W.Frag) (C CN : Addr) : List D → Hp → Out → Prop := fun ds H o => ∃ dw dh dm, ds = [dw, dh, dm] ∧ Th H dw ∧ Th H dh ∧ Th H dm ∧ (¬ GridG dw dh dm → o = .err CN none) ∧
  (∀ w h m : Int, dw = .int w → dh = .int h → dm = .int m → 1 ≤ w → w ≤ 60 → 1 ≤ h → w * h ≤ 60 → 0 ≤ m → m ≤ 30 → o = .ret (webP K C (List.replicate (w * h).toNat m) fun l => Srt l (besL w (w * h).toNat ++ belL w (w * h).toNat)))
theorem ok_gridw (T : KTxt mg) (M : WMk P w K mg base C CB) (g : GDef K mg "grid_web" s_grid_web ["wide", "high", "memory"]) (Gcheck_number : DefX P w K mg base 3 "check_number" ["least", "most", "thing"] (spX K (R_cnum CN))) : DefX P w K mg base 7 "grid_web" ["wide", "high", "memory"] (spX K (R_gridw K C CN)) := by
  refine defX g sc_grid_web (fun ds H o h => ?_) fun cdv A outer s f H vs ds o Q E hr r h q l => ?_
  · obtain ⟨dw, dh, dm, rfl, _⟩ := h
    rfl
  obtain ⟨dw, dh, dm, rfl, tw, th, tm, no, yes⟩ := h
  obtain ⟨v1, v2, v3, rfl, r1, r2, r3⟩ := rps3 r
  refine ⟨_, (pss_cons (ps_expr (pe_defX Gcheck_number (hr.mono (by decide)) passUp (pa_cons pe_int (pa_cons (pe_gl T.g_rooms) (pa_cons (pv 0) pa_nil)))))
    (pss_cons (ps_expr (pe_defX Gcheck_number (hr.mono (by decide)) passUp (pa_cons pe_int (pa_cons (pe_op op_fdivN (pe_gl T.g_rooms) (pv 0)) (pa_cons (pv 1) pa_nil)))))
    (pss_cons (ps_expr (pe_defX Gcheck_number (hr.mono (by decide)) passUp (pa_cons pe_int (pa_cons (pe_gl T.g_memory) (pa_cons (pv 2) pa_nil)))))
    (pss_cons (ps_set (i := 3) sc_grid_web.nd rfl (Or.inl rfl) (pe_op op_mul (pv 0) (pv 1)))
    (pss_cons (ps_setLc (i := 4) (own := [("room", 6)]) rfl sc_grid_web.nd rfl rfl (sw_true rfl rfl rfl (by decide +kernel)) (pi_range1 (by rfl) T.n_range (pa_cons (pv 3) pa_nil)) (blkOk_by (N := N_grid_web) (sc := defScope s_grid_web) (by decide +kernel)) (fun _ _ _ _ _ => (pg_name (i := 6) sc_grid_web.nd rfl (Or.inl rfl))) (fun _ _ _ _ _ => (pts_one (pt_cmpR op_ne (pe_op op_modN (pe_op op_add (pv 6) pe_int) (pv 0)) pe_int (nomark _)))) (fun _ _ _ _ _ => (pe_tup (pa_cons (pv 6) (pa_cons (pe_op op_add (pv 6) pe_int) pa_nil)))))
    (pss_cons (ps_setLc (i := 5) (own := [("room", 6)]) rfl sc_grid_web.nd rfl rfl (sw_true rfl rfl rfl (by decide +kernel)) (pi_range1 (by rfl) T.n_range (pa_cons (pe_op op_sub (pv 3) (pv 0)) pa_nil)) (blkOk_by (N := N_grid_web) (sc := defScope s_grid_web) (by decide +kernel)) (fun _ _ _ _ _ => (pg_name (i := 6) sc_grid_web.nd rfl (Or.inl rfl))) (fun _ _ _ _ _ => pts_nil) (fun _ _ _ _ _ => (pe_tup (pa_cons (pv 6) (pa_cons (pe_op op_add (pv 6) (pv 0)) pa_nil)))))
    (pss_one (ps_ret (pe_mkW (K := K) M (hr.mono (by decide)) passUp (pa_cons (pe_op (kop_rep1 (K := K)) (pe_tup (pa_cons (pv 2) pa_nil)) (pv 3)) (pa_cons (pe_callTy (kc_tuple (K := K)) (by rfl) T.n_tuple boot_tuple (pa_cons (pe_callB (kcr_sortedP (K := K)) (by rfl) T.n_sorted boot_sorted (pa_cons (pe_op op_cat (pv 4) (pv 5)) pa_nil)) pa_nil)) pa_nil))))))))))), ?_⟩
  refine q_cnum (K := K) (CN := CN) ed_int (fun H1 _ Q q => q _ _ H1 (Le.refl _) rfl (.int 60)) (ed_var rfl r1) tw (fun h1 => l _ _ (no ?_)) fun h1 H1 e1 => ?_
  · rintro ⟨w, h, m, rfl, rfl, rfl, a1, a2, a3, a4, a5, a6⟩
    rw [btw_iff.mpr ⟨a1, a2⟩] at h1
    cases h1
  obtain ⟨wd, rfl, w1, w2⟩ := btw_int h1
  refine q_cnum (K := K) (CN := CN) ed_int (ed_I (f := fun i j => i.fdiv j) (fun H1 _ Q q => q _ _ H1 (Le.refl _) rfl (.int 60)) (ed_var rfl (r1.le e1)) ⟨by omega, by omega⟩) (ed_var rfl (r2.le e1)) (th.le e1) (fun h2 => (l _ _ (no ?_)).le e1) fun h2 H2 e2 => ?_
  · rintro ⟨w, h, m, ew, rfl, rfl, a1, a2, a3, a4, a5, a6⟩
    injection ew with ew
    subst ew
    rw [btw_iff.mpr ⟨a3, (le_fdiv a1).mpr a4⟩] at h2
    cases h2
  obtain ⟨hg, rfl, g1, g2⟩ := btw_int h2
  rw [le_fdiv w1] at g2
  have e12 := e1.trans e2
  refine q_cnum (K := K) (CN := CN) ed_int (fun H1 _ Q q => q _ _ H1 (Le.refl _) rfl (.int 30)) (ed_var rfl (r3.le e12)) (tm.le e12) (fun h3 => (l _ _ (no ?_)).le e12) fun h3 H3 e3 => ?_
  · rintro ⟨w, h, m, ew, eh, rfl, a1, a2, a3, a4, a5, a6⟩
    rw [btw_iff.mpr ⟨a5, a6⟩] at h3
    cases h3
  obtain ⟨m, rfl, m0, m1⟩ := btw_int h3
  have ho := yes wd hg m rfl rfl rfl w1 w2 g1 g2 m0 m1
  have e13 := e12.trans e3
  obtain ⟨N, hN⟩ : ∃ N : Nat, wd * hg = (N : Int) := ⟨(wd * hg).toNat, (Int.toNat_of_nonneg (Int.mul_nonneg (by omega) (by omega))).symm⟩
  have hN1 : 1 ≤ N := by
    have : 1 * 1 ≤ wd * hg := Int.mul_le_mul w1 g1 (by decide) (by omega)
    omega
  have hN60 : N ≤ 60 := by omega
  have hNw : wd ≤ N := by
    have : wd * 1 ≤ wd * hg := Int.mul_le_mul_of_nonneg_left g1 (by omega)
    omega
  have hNm : (N : Int).fmod wd = 0 := by
    rw [← hN, Int.fmod_eq_emod_of_nonneg _ (by omega)]
    exact Int.mul_emod_right wd hg
  rw [hN, Int.toNat_natCast] at ho
  refine q_asgD (K := K) (d := .int (N : Int)) (ed_eq (ed_I (f := fun i j => i * j) (ed_var rfl (r1.le e13)) (ed_var rfl (r2.le (e2.trans e3 |> e1.trans))) (.inl (by omega))) (congrArg D.int hN)) fun v4 H4 e4 r4 => ?_
  have e14 := e13.trans e4
  -- beside
  refine q_asgD (K := K) (d := .lst ((besL wd N).map eP)) (ed_lcR enc_P (n := N) (fun i : Nat => !decide ((((i : Nat) : Int) + 1).fmod wd = 0)) (fun i : Nat => ((i : Int), (i : Int) + 1)) (ea_cons (ed_var rfl r4) ea_nil) (by omega) (fun _ => rfl) (fun i H5 e5 hi => ?_) fun i H5 e5 hi _ => ed_tup (ds := [.int (i : Int), .int ((i : Int) + 1)]) (ea_cons (ed_var rfl (.int _)) (ea_cons (ed_I0 (f := fun i j => i + j) (ed_var rfl (.int _)) ed_int) ea_nil)) (by show 2 ≤ 100000; decide)) fun v5 H5 e5 r5 => ?_
  · exact eb_eq (et_test (K := K) (ed_neS (d1 := .int (((i : Int) + 1).fmod wd)) (d2 := .int 0) (ed_I (f := fun i j => i.fmod j) (ed_I0 (f := fun i j => i + j) (ed_var rfl (.int _)) ed_int) (ed_var rfl (r1.le (e14.trans e5))) (by omega)) ed_int rfl rfl rfl)) (by rw [vs_int])
  have e15 := e14.trans e5
  -- below
  refine q_asgD (K := K) (d := .lst ((belL wd N).map eP)) (ed_eq (ed_lcR enc_P (n := ((N : Int) - wd).toNat) (fun _ => true) (fun i : Nat => ((i : Int), (i : Int) + wd)) (ea_cons (ed_eq (ed_I0 (f := fun i j => i - j) (ed_var rfl (r4.le e5)) (ed_var rfl (r1.le e15))) (congrArg D.int (by omega))) ea_nil) (by omega) (fun _ => rfl) (fun i H6 _ _ => et_yes) fun i H6 e6 hi _ => ed_tup (ds := [.int (i : Int), .int ((i : Int) + wd)]) (ea_cons (ed_var rfl (.int _)) (ea_cons (ed_I0 (f := fun i j => i + j) (ed_var rfl (.int _)) (ed_var rfl (r1.le (e15.trans e6)))) ea_nil)) (by show 2 ≤ 100000; decide)) ?_) fun v6 H6 e6 r6 => ?_
  · rw [List.filter_eq_self.mpr (fun _ _ => rfl)]
    rfl
  have e16 := e15.trans e6
  refine s_ret (K := K) (ep_web (PT := fun l => Srt l (besL wd N ++ belL wd N)) (ed_rep1m (ed_var rfl (r3.le e16)) (ed_var rfl ((r4.le e5).le e6)) hN1 hN60) (ep_tupOfP (ep_sortedP (ps := besL wd N ++ belL wd N) (ed_eq (ed_cat (ed_var rfl (r5.le e6)) (ed_var rfl r6) ?_ ?_) ?_))) fun k hk => ?_) fun v d H7 e7 p r => q _ ho v d H7 (e16.trans e7) p r
  · rw [List.length_map, List.length_map]
    unfold besL belL
    rw [List.length_map, List.length_map, List.length_range]
    have := List.length_filter_le (fun i : Nat => !decide ((((i : Nat) : Int) + 1).fmod wd = 0)) (List.range N)
    rw [List.length_range] at this
    omega
  · rw [← List.map_append]
    exact enc_P.un _
  · rw [List.map_append]
  · refine parts_rep hN1 hN60 m0 m1 (fun p hp => ?_) (hk.strict (nd_gridL w1 hNm))
    rcases List.mem_append.mp (hk.perm.mem_iff.mp hp) with h | h
    · have := (mem_besL w1 hNm).mp h
      omega
    · have := (mem_belL w1).mp h
      omega
/-! ### sides -/
def SzG (d : D) : Prop := ∃ zs : List Int, d = .tup (zs.map .int) ∧ 1 ≤ zs.length ∧ zs.length ≤ 8 ∧ (∀ z ∈ zs, 1 ≤ z ∧ z ≤ 60) ∧ zs.sum ≤ 60
theorem sum_pos : ∀ {zs : List Int}, (∀ z ∈ zs, 1 ≤ z) → (zs.length : Int) ≤ zs.sum
  | [], _ => Int.le_refl _
  | z :: zs, h => by
    have := h z (List.mem_cons_self ..)
    have := sum_pos (zs := zs) fun x hx => h x (List.mem_cons_of_mem _ hx)
    rw [List.sum_cons, List.length_cons]
    omega
def R_csizes (CN : Addr) : List D → Hp → Out → Prop := fun ds H o => ∃ d, ds = [d] ∧ Th H d ∧ (¬ SzG d → o = .err CN none) ∧ (SzG d → o = .ret (is .non))
theorem ok_csizes (T : KTxt mg) (c_NoNumber : NC P w K mg base "NoNumber" CN CD) (g : GDef K mg "check_sizes" s_check_sizes ["sizes"]) (Gis_between : Def P w K mg base 2 "is_between" ["least", "most", "thing"] (spD K R_btw)) (Gcheck_number : DefX P w K mg base 3 "check_number" ["least", "most", "thing"] (spX K (R_cnum CN))) :
    DefX P w K mg base 4 "check_sizes" ["sizes"] (spX K (R_csizes CN)) := by
  refine defX g sc_check_sizes (fun ds H o h => ?_) fun cdv A outer s f H vs ds o Q E hr r h q l => ?_
  · obtain ⟨d, rfl, _⟩ := h
    rfl
  obtain ⟨d, rfl, ht, no, yes⟩ := h
  obtain ⟨v1, rfl, r1⟩ := rps1 r
  refine ⟨_, (pss_cons (ps_if (PW.pt (pw_or (pt_not (pt_val (pe_callB (kc_isi (K := K)) (by rfl) T.n_isinstance boot_isinstance (pa_cons (pv 0) (pa_cons (pe_bltn (v := V.ty "tuple") (by rfl) T.n_tuple boot_tuple rfl) pa_nil))))) (pw_or1 (pt_not (pt_val (pe_def Gis_between (hr.mono (by decide)) (pa_cons pe_int (pa_cons (pe_gl T.g_sides) (pa_cons (pe_callB (kc_len (K := K)) (by rfl) T.n_len boot_len (pa_cons (pv 0) pa_nil)) pa_nil)))))))))
      (pss_one (ps_raise rfl (takes_of rfl rfl rfl rfl) (pmk_exo rfl (pe_nc c_NoNumber (hr.mono (by decide)) (by rfl)))))
      pss_nil)
    (pss_cons (ps_if (pt_not (pt_val (pe_callB (kc_all (K := K) rfl) (by rfl) T.n_all boot_all (pa_cons (pe_lc (own := [("size", 1)]) rfl sc_check_sizes.nd (kpi_tup (K := K) (pv 0)) (blkOk_by (N := N_check_sizes) (sc := defScope s_check_sizes) (by decide +kernel)) (fun _ _ _ _ _ => (pg_name (i := 1) sc_check_sizes.nd rfl (Or.inl rfl))) (fun _ _ _ _ _ => pts_nil) (fun _ _ _ _ _ => (pe_def Gis_between (hr.mono (by decide)) (pa_cons pe_int (pa_cons (pe_gl T.g_rooms) (pa_cons (pv 1) pa_nil)))))) pa_nil))))
      (pss_one (ps_raise rfl (takes_of rfl rfl rfl rfl) (pmk_exo rfl (pe_nc c_NoNumber (hr.mono (by decide)) (by rfl)))))
      pss_nil)
    (pss_one (ps_expr (pe_defX Gcheck_number (hr.mono (by decide)) passUp (pa_cons pe_int (pa_cons (pe_gl T.g_rooms) (pa_cons (pe_callB (kcr_sumT (K := K) rfl) (by rfl) T.n_sum boot_sum (pa_cons (pv 0) pa_nil)) pa_nil)))))))), ?_⟩
  have bad : ∀ {H1 : Hp}, ¬ SzG d → Le H H1 → ∀ a, H1 a = none → ∃ a' C', V.ref a = V.ref a' ∧ upd H1 a (exo a CN none) a' = some (exo a' C' none) ∧ Fr0 H a' ∧ Raises (cxOf (L2.CX P w) P w K mg base N_check_sizes "check_sizes" (defScope s_check_sizes) f cdv A outer s H E) (.ref C') ∧ E (.ref C') none (delH (upd H1 a (exo a CN none)) a') := fun hb e a na => by
    refine ⟨a, CN, rfl, upd_same, fr0_none (e.fresh na), raises_own c_NoNumber.rs.1 c_NoNumber.rs.2, ?_⟩
    rw [delH_new na]
    exact l _ _ (no hb) _ e
  by_cases hd : tupB d = false
  · refine q_whenB (b := true) (eb_eq (eb_or (a := true) (b := true) (eb_eq (eb_not (et_B (K := K) (ed_isTup (ed_var rfl r1) ht.tk))) (by rw [hd]; rfl)) fun h => nomatch h) rfl) (fun _ H1 e1 => bad (fun ⟨zs, e, _⟩ => by rw [e] at hd; cases hd) e1) fun h => nomatch h
  obtain ⟨xs, rfl⟩ : ∃ xs, d = .tup xs := by
    cases d with
    | tup xs => exact ⟨xs, rfl⟩
    | _ => exact absurd rfl hd
  obtain ⟨hz, hi⟩ := ht.items
  refine q_whenB (b := !btw 1 8 (.int (xs.length : Int))) (eb_eq (eb_or (a := false) (eb_eq (eb_not (et_B (K := K) (ed_isTup (ed_var rfl r1) ht.tk))) rfl) fun _ => eb_not (et_B (K := K) (ed_btw ed_int (fun H1 _ Q q => q _ _ H1 (Le.refl _) rfl (.int 8)) (ed_lenT (ed_var rfl r1)) rfl))) (Bool.false_or _)) (fun hb H1 e1 => bad ?_ e1) fun hb H1 e1 => ?_
  · rintro ⟨zs, e, a1, a2, _⟩
    injection e with e
    subst e
    rw [List.length_map, btw_iff.mpr ⟨by omega, by omega⟩] at hb
    cases hb
  rw [Bool.not_eq_false', btw_iff] at hb
  refine q_whenB (b := !xs.all (btw 1 60)) (eb_not (et_B (K := K) (ed_allT (g := btw 1 60) (ed_var rfl (r1.le e1)) hz (fun _ => rfl) fun b v H2 e hb r => ed_btwK ed_int (fun H1 _ Q q => q _ _ H1 (Le.refl _) rfl (.int 60)) (ed_var rfl r) (((hi b hb).le (e1.trans e)).tk)))) (fun hb2 H2 e2 => bad ?_ (e1.trans e2)) fun hb2 H2 e2 => ?_
  · rintro ⟨zs, e, a1, a2, a3, _⟩
    injection e with e
    subst e
    rw [Bool.not_eq_true'] at hb2
    have : (zs.map D.int).all (btw 1 60) = true := by
      rw [List.all_eq_true]
      intro d hd
      obtain ⟨z, hz, rfl⟩ := List.mem_map.mp hd
      exact btw_iff.mpr (a3 z hz)
    rw [this] at hb2
    cases hb2
  rw [Bool.not_eq_false'] at hb2
  obtain ⟨zs, rfl, a3⟩ := ints_of hb2
  rw [List.length_map] at hb
  have e12 := e1.trans e2
  have hsum : ED K (tCB (rSumT K) (tCons (tVar 0) tNil)) (L2.start N_check_sizes [v1]) H2 (.int zs.sum) := fun H3 e3 Q q => by
    obtain ⟨a, ys, rfl, s, rr⟩ := rp_tup (r1.le (e12.trans e3))
    have ey := ints_rps rr
    subst ey
    exact ⟨_, rfl, a, zs, rfl, s, q _ _ H3 (Le.refl _) rfl (.int _)⟩
  have key : btw 1 60 (.int zs.sum) = true ↔ SzG (.tup (zs.map .int)) := by
    rw [btw_iff]
    constructor
    · rintro ⟨_, h⟩
      exact ⟨zs, rfl, by omega, by omega, a3, h⟩
    · rintro ⟨ys, e, b1, b2, b3, b4⟩
      injection e with e
      have e' : zs = ys := map_inj2 (fun a b h => by injection h) e
      subst e'
      have := sum_pos (zs := zs) fun z hz => (a3 z hz).1
      omega
  cases hs : btw 1 60 (.int zs.sum) with
  | false =>
    have hn : ¬ SzG (.tup (zs.map .int)) := fun h => by
      rw [key.mpr h] at hs
      cases hs
    exact er_callX (K := K) (ea_cons ed_int (ea_cons (fun H1 _ Q q => q _ _ H1 (Le.refl _) rfl (.int 60)) (ea_cons hsum ea_nil))) (fun H3 e3 => ⟨1, 60, _, rfl, .sc rfl, by rw [hs]; rfl⟩) ((l _ _ (no hn)).le e12) _
  | true =>
    have ho := yes (key.mp hs)
    refine s_drop (K := K) (P := is .non) (ep_callX (ea_cons ed_int (ea_cons (fun H1 _ Q q => q _ _ H1 (Le.refl _) rfl (.int 60)) (ea_cons hsum ea_nil))) fun H3 e3 => ⟨1, 60, _, rfl, .sc rfl, by rw [hs]; rfl⟩) fun H3 e3 => q _ ho .non .non H3 (e12.trans e3) rfl .non
def SidG (ds dm : D) : Prop := SzG ds ∧ ∃ m : Int, dm = .int m ∧ 0 ≤ m ∧ m ≤ 30
def R_csided (CN : Addr) : List D → Hp → Out → Prop := fun ds H o => ∃ d dm, ds = [d, dm] ∧ Th H d ∧ Th H dm ∧ (¬ SidG d dm → o = .err CN none) ∧ (SidG d dm → o = .ret (is .non))
theorem ok_csided (T : KTxt mg) (g : GDef K mg "check_sided" s_check_sided ["sizes", "memory"]) (Gcheck_sizes : DefX P w K mg base 4 "check_sizes" ["sizes"] (spX K (R_csizes CN))) (Gcheck_number : DefX P w K mg base 3 "check_number" ["least", "most", "thing"] (spX K (R_cnum CN))) :
    DefX P w K mg base 5 "check_sided" ["sizes", "memory"] (spX K (R_csided CN)) := by
  refine defX g sc_check_sided (fun ds H o h => ?_) fun cdv A outer s f H vs ds o Q E hr r h q l => ?_
  · obtain ⟨d, dm, rfl, _⟩ := h
    rfl
  obtain ⟨d, dm, rfl, ht, tm, no, yes⟩ := h
  obtain ⟨v1, v2, rfl, r1, r2⟩ := rps2 r
  refine ⟨_, (pss_cons (ps_expr (pe_defX Gcheck_sizes (hr.mono (by decide)) passUp (pa_cons (pv 0) pa_nil)))
    (pss_one (ps_expr (pe_defX Gcheck_number (hr.mono (by decide)) passUp (pa_cons pe_int (pa_cons (pe_gl T.g_memory) (pa_cons (pv 1) pa_nil))))))), ?_⟩
  by_cases hs : SzG d
  · refine q_drop (K := K) (P := is .non) (ep_callX (ea_cons (ed_var rfl r1) ea_nil) fun H1 e1 => ⟨d, rfl, ht.le e1, fun h => absurd hs h, fun _ => rfl⟩) fun H1 e1 => ?_
    cases hm : btw 0 30 dm with
    | false =>
      exact er_callX (K := K) (ea_cons ed_int (ea_cons (fun H1 _ Q q => q _ _ H1 (Le.refl _) rfl (.int 30)) (ea_cons (ed_var rfl (r2.le e1)) ea_nil))) (fun H3 e3 => ⟨0, 30, _, rfl, tm.le (e1.trans e3), by rw [hm]; rfl⟩) ((l _ _ (no fun ⟨_, m, e, m0, m1⟩ => by rw [e, btw_iff.mpr ⟨m0, m1⟩] at hm; cases hm)).le e1) _
    | true =>
      have ho := yes ⟨hs, btw_int hm⟩
      exact s_drop (K := K) (P := is .non) (ep_callX (ea_cons ed_int (ea_cons (fun H1 _ Q q => q _ _ H1 (Le.refl _) rfl (.int 30)) (ea_cons (ed_var rfl (r2.le e1)) ea_nil))) fun H3 e3 => ⟨0, 30, _, rfl, tm.le (e1.trans e3), by rw [hm]; rfl⟩) fun H3 e3 => q _ ho .non .non H3 (e1.trans e3) rfl .non
  · exact er_callX (K := K) (ea_cons (ed_var rfl r1) ea_nil) (fun H3 e3 => ⟨d, rfl, ht.le e3, fun _ => rfl, fun h => absurd h hs⟩) (l _ _ (no fun h => hs h.1)) _
def R_rsides : List D → Hp → Pd → Prop := fun ds H P => ∃ zs : List Int, ds = [.tup (zs.map .int)] ∧ zs.length ≤ 8 ∧ (∀ z ∈ zs, 1 ≤ z ∧ z ≤ 60) ∧ zs.sum ≤ 60 ∧ P = is (.lst ((sidesF 0 zs).map .int))
theorem ok_rsides (T : KTxt mg) (g : GDef K mg "room_sides" s_room_sides ["sizes"]) : Def P w K mg base 1 "room_sides" ["sizes"] (spD K R_rsides) := by
  refine defD g sc_room_sides (fun ds H Pd h => ?_) fun cdv A outer s f H vs ds Pd Q E hr r h q => ?_
  · obtain ⟨zs, rfl, _⟩ := h
    rfl
  obtain ⟨zs, rfl, z8, hz, hsum, rfl⟩ := h
  obtain ⟨v1, rfl, r1⟩ := rps1 r
  refine ⟨_, (pss_one (ps_ret (pe_lc2 (own := [("side", 1), ("size", 2), ("_", 3)]) (vs1 := [3]) rfl sc_room_sides.nd (kpi_enumT (K := K) (by rfl) T.n_enumerate (pa_cons (pv 0) pa_nil)) (blkOk_by (N := N_room_sides) (sc := defScope s_room_sides) (by decide +kernel)) (by decide) (fun _ _ _ _ _ => (kpg_tup (K := K) (n := 2) rfl (pgs_cons (pg_name (i := 1) sc_room_sides.nd rfl (Or.inl rfl)) (pgs_cons (pg_name (i := 2) sc_room_sides.nd rfl (Or.inl rfl)) pgs_nil)))) (fun _ _ _ _ _ => pts_nil) (fun _ _ _ _ _ => (pi_range1 (by rfl) T.n_range (pa_cons (pv 2) pa_nil))) (fun _ _ _ _ _ => (pg_name (i := 3) sc_room_sides.nd rfl (Or.inl rfl))) (fun _ _ _ _ _ => pts_nil) (fun _ _ _ _ _ => (pv 1))))), ?_⟩
  obtain ⟨a, xs, rfl, s, rr⟩ := rp_tup r1
  have ex := ints_rps rr
  subst ex
  have lensF : ∀ (ys : List Int) (k : Int), (∀ z ∈ ys, 1 ≤ z ∧ z ≤ 60) → ys.length ≤ 8 → (sidesF k ys).length ≤ 480 := fun ys k h h8 => by
    have h1 := sidesF_len k ys fun z hz => by have := h z hz; omega
    have h2 : ∀ (l : List Int), (∀ z ∈ l, 1 ≤ z ∧ z ≤ 60) → l.sum ≤ 60 * (l.length : Int) := fun l => by
      induction l with
      | nil => intro _; decide
      | cons z l ih =>
        intro h
        have := h z (List.mem_cons_self ..)
        have := ih fun x hx => h x (List.mem_cons_of_mem _ hx)
        rw [List.sum_cons, List.length_cons]
        omega
    have := h2 ys h
    omega
  refine ⟨.ref a, rfl, a, _, rfl, s, fun L hL => lc2_it (walk_enT (xs := zs.map V.int)) (fun i H' => Gro K H L D.int (sidesF 0 (zs.take i)) H') (by rw [List.take_zero]; exact Gro.start hL) (fun i H' _ g => g.le.sqt s) ?_ fun H' g => ?_⟩
  · rintro i x H' H3 hi g ⟨Tp, x1, x2, rfl, nT, rfl, f1, f2⟩
    have ex1 : x1 = .int (i : Nat) := (Option.some.inj f1).symm
    subst ex1
    rw [List.length_map] at hi
    replace f2 : (zs.map V.int)[i]? = some x2 := f2
    rw [List.getElem?_map, List.getElem?_eq_getElem hi] at f2
    have ex2 : V.int zs[i] = x2 := Option.some.inj f2
    subst ex2
    have g1 : Gro K H L D.int (sidesF 0 (zs.take i)) (upd H' Tp (.tup [.int (i : Nat), .int zs[i]])) := g.keep enc_int (Le.new nT)
    have hzi := hz zs[i] (List.getElem_mem hi)
    refine ⟨Tp, _, rfl, Evl.st_of upd_same, rfl, _, _, rfl, _, _, rfl, rfl, rfl, ?_⟩
    unfold tYes
    dsimp only
    rw [if_pos rfl]
    refine ⟨_, rfl, zs[i], rfl, by omega, by omega, ?_⟩
    have hl8 := lensF (zs.take i) 0 (fun z hz' => hz z (List.mem_of_mem_take hz')) (Nat.le_trans (List.length_take_le' _ _) z8)
    refine lc2_in (walk_range (lo := 0) (n := zs[i].toNat)) (fun j H' => Gro K H L D.int (sidesF 0 (zs.take i) ++ List.replicate j (i : Int)) H') (by rw [List.replicate_zero, List.append_nil]; exact g1) (fun _ _ _ _ => trivial) ?_ fun H4 g4 => ?_
    · rintro j x H4 _ hj g4 ⟨rfl, rfl⟩
      refine ⟨rfl, ?_⟩
      dsimp only
      rw [if_pos rfl]
      obtain ⟨ac, h1, h2, h3⟩ := g4.more (z := (i : Int)) (y := .int (i : Int)) enc_int (.int _) (by rw [List.length_append, List.length_replicate]; omega)
      refine ⟨.int (i : Int), rfl, ac, h1, h2, ?_⟩
      rw [List.append_assoc, ← List.replicate_succ'] at h3
      exact h3
    · have et : sidesF 0 (zs.take (i + 1)) = sidesF 0 (zs.take i) ++ List.replicate zs[i].toNat (i : Int) := by
        rw [take_more (List.getElem?_eq_getElem hi), sidesF_app, List.length_take, Nat.min_eq_left (by omega), Int.zero_add]
        show _ ++ (List.replicate zs[i].toNat (i : Int) ++ []) = _
        rw [List.append_nil]
      rw [et]
      exact g4
  · rw [List.length_map, List.take_length] at g
    exact q _ (.lst ((sidesF 0 zs).map .int)) H' g.le rfl (g.done enc_int)
def R_sidedw (K : PySem.W.Frag) (C CN : Addr) : List D → Hp → Out → Prop := fun ds H o => ∃ d dm, ds = [d, dm] ∧ Th H d ∧ Th H dm ∧ (¬ SidG d dm → o = .err CN none) ∧
  (∀ (zs : List Int) (m : Int), d = .tup (zs.map .int) → dm = .int m → 1 ≤ zs.length → zs.length ≤ 8 → (∀ z ∈ zs, 1 ≤ z ∧ z ≤ 60) → zs.sum ≤ 60 → 0 ≤ m → m ≤ 30 → o = .ret (webP K C (List.replicate zs.sum.toNat m) fun l => l = (pairsL zs.sum.toNat).filter (sideB (sidesF 0 zs))))
end
end W1

set_option maxRecDepth 100000
set_option maxHeartbeats 4000000
/-! the maker of sided webs -/
namespace W1
open PySem PyProof.Rows L2
local macro_rules | `(tactic| walk_at "rp") => `(tactic| first | assumption | exact Rp.int _ | exact Rp.bl _ | exact Rp.str _ | exact Rp.non | exact Rp.obj _ | (refine Rp.le (by assumption) ?_; walk_at "rp"))
local macro_rules | `(tactic| walk_at "ed") => `(tactic| first
  | exact ed_int | exact ed_str | exact ed_bl | exact ed_non
  | (refine ed_var rfl ?_; walk_at "rp")
  | (refine ed_ixT (ds := [_, _]) ?_ ed_int (by decide) rfl; walk_at "ed")
  | (refine ed_I0 ?_ ?_ <;> walk_at "ed")
  | (refine ed_B0 ?_ ?_ <;> walk_at "ed")
  | (refine ed_eqS ?_ ?_ rfl rfl rfl <;> walk_at "ed")
  | assumption)
local macro_rules | `(tactic| walk_at "ea") => `(tactic| first | exact ea_nil | (refine ea_cons ?_ ?_; walk_at "ed"; walk_at "ea"))

theorem Le.rng {H H' : Hp} {a : Addr} {lo hi : Int} (e : Le H H') (h : H a = some (.rng lo hi)) : H' a = some (.rng lo hi) := by
  rcases e a _ h with h1 | ⟨_, _, _, _, _, _, _, _, _, z, _⟩
  · exact h1
  · cases z
def rowSj (S : List Int) (i j : Nat) : List (Int × Int) := ((List.range j).filter fun j : Nat => decide ((i : Int) < (j : Int)) && sideB S ((i : Int), (j : Int))).map fun j : Nat => ((i : Int), (j : Int))
theorem rowSj_more (S : List Int) (i j : Nat) : rowSj S i (j + 1) = rowSj S i j ++ (if (decide ((i : Int) < (j : Int)) && sideB S ((i : Int), (j : Int))) = true then [((i : Int), (j : Int))] else []) := by
  unfold rowSj
  rw [List.range_succ, List.filter_append, List.map_append]
  congr 1
  rw [List.filter_cons]
  split
  · rfl
  · rfl
theorem rowSj_len (S : List Int) (i j : Nat) : (rowSj S i j).length ≤ j := by
  unfold rowSj
  rw [List.length_map]
  refine Nat.le_trans (List.length_filter_le _ _) ?_
  rw [List.length_range]
  exact Nat.le_refl _
theorem prodL_len (S : List Int) : ∀ n, (prodL S n).length ≤ n * S.length
  | 0 => by
    unfold prodL
    simp
  | n + 1 => by
    unfold prodL
    rw [List.range_succ, List.flatMap_append, List.length_append, List.flatMap_cons, List.flatMap_nil, List.append_nil, Nat.add_mul, Nat.one_mul]
    have h1 := prodL_len S n
    unfold prodL at h1
    have h2 := rowSj_len S n S.length
    exact Nat.add_le_add h1 h2
theorem prodL_more (S : List Int) (n : Nat) : prodL S (n + 1) = prodL S n ++ rowSj S n S.length := by
  unfold prodL
  rw [List.range_succ, List.flatMap_append, List.flatMap_cons, List.flatMap_nil, List.append_nil]
  rfl
abbrev s_sided_web : Stmt := topS 26
abbrev N_sided_web : List Str := ["sizes", "memory", "sides", "rooms", "ties", "one", "other"]
theorem sc_sided_web : FnScope N_sided_web ["sizes", "memory"] (defScope s_sided_web) := ⟨rfl, rfl, rfl, by decide +kernel, rfl, by decide +kernel, by decide +kernel⟩
section
variable {P : Program} {w : World} {K : PySem.W.Frag} {mg : Str → Option Value} {base : Heap} {C CB CN CD : Addr}
theorem ok_sidedw (T : KTxt mg) (M : WMk P w K mg base C CB) (g : GDef K mg "sided_web" s_sided_web ["sizes", "memory"]) (Gcheck_sided : DefX P w K mg base 5 "check_sided" ["sizes", "memory"] (spX K (R_csided CN))) (Groom_sides : Def P w K mg base 1 "room_sides" ["sizes"] (spD K R_rsides)) : DefX P w K mg base 7 "sided_web" ["sizes", "memory"] (spX K (R_sidedw K C CN)) := by
  refine defX g sc_sided_web (fun ds H o h => ?_) fun cdv A outer s f H vs ds o Q E hr r h q l => ?_
  · obtain ⟨d, dm, rfl, _⟩ := h
    rfl
  obtain ⟨d, dm, rfl, ht, tm, no, yes⟩ := h
  obtain ⟨v1, v2, rfl, r1, r2⟩ := rps2 r
  refine ⟨_, (pss_cons (ps_expr (pe_defX Gcheck_sided (hr.mono (by decide)) passUp (pa_cons (pv 0) (pa_cons (pv 1) pa_nil))))
    (pss_cons (ps_set (i := 2) sc_sided_web.nd rfl (Or.inr rfl) (pe_def Groom_sides (hr.mono (by decide)) (pa_cons (pv 0) pa_nil)))
    (pss_cons (ps_set (i := 3) sc_sided_web.nd rfl (Or.inr rfl) (pe_callTy cr_range1 (by rfl) T.n_range boot_range (pa_cons (pe_callB (kc_len (K := K)) (by rfl) T.n_len boot_len (pa_cons (pv 2) pa_nil)) pa_nil)))
    (pss_cons (ps_setLc2 (i := 4) (own := [("one", 5), ("other", 6)]) (vs1 := [6]) rfl sc_sided_web.nd rfl rfl (sw_true rfl rfl rfl (by decide +kernel)) (pi_rngV (pv 3)) (blkOk_by (N := N_sided_web) (sc := defScope s_sided_web) (by decide +kernel)) (by decide) (fun _ _ _ _ _ => (pg_name (i := 5) sc_sided_web.nd rfl (Or.inl rfl))) (fun _ _ _ _ _ => pts_nil) (fun _ _ _ _ _ => (pi_rngV (pv 3))) (fun _ _ _ _ _ => (pg_name (i := 6) sc_sided_web.nd rfl (Or.inl rfl))) (fun _ _ _ _ _ => (pts_one (PW.pt (pw_and (pt_cmpR op_lt (pv 5) (pv 6) (nomark _)) (pw_and1 (pt_cmpR op_ne (pe_ix (kix_list (K := K)) (pv 2) (pv 5) (fun _ _ => rfl)) (pe_ix (kix_list (K := K)) (pv 2) (pv 6) (fun _ _ => rfl)) (nomark _))))))) (fun _ _ _ _ _ => (pe_tup (pa_cons (pv 5) (pa_cons (pv 6) pa_nil)))))
    (pss_one (ps_ret (pe_mkW (K := K) M (hr.mono (by decide)) passUp (pa_cons (pe_op (kop_rep1 (K := K)) (pe_tup (pa_cons (pv 1) pa_nil)) (pe_callB (kc_len (K := K)) (by rfl) T.n_len boot_len (pa_cons (pv 2) pa_nil))) (pa_cons (pe_callTy (kc_tuple (K := K)) (by rfl) T.n_tuple boot_tuple (pa_cons (pv 4) pa_nil)) pa_nil))))))))), ?_⟩
  by_cases hs : SidG d dm
  rotate_left
  · exact er_callX (K := K) (ea_cons (ed_var rfl r1) (ea_cons (ed_var rfl r2) ea_nil)) (fun H3 e3 => ⟨d, dm, rfl, ht.le e3, tm.le e3, fun _ => rfl, fun h => absurd h hs⟩) (l _ _ (no hs)) _
  have hs' := hs
  obtain ⟨⟨zs, rfl, z1, z8, hz, hsum⟩, m, rfl, m0, m1⟩ := hs'
  have ho := yes zs m rfl rfl z1 z8 hz hsum m0 m1
  refine q_drop (K := K) (P := is .non) (ep_callX (ea_cons (ed_var rfl r1) (ea_cons (ed_var rfl r2) ea_nil)) fun H3 e3 => ⟨_, _, rfl, ht.le e3, tm.le e3, fun h => absurd hs h, fun _ => rfl⟩) fun H1 e1 => ?_
  have pos := sum_pos (zs := zs) fun z hz' => (hz z hz').1
  have hlen := sidesF_len 0 zs fun z hz' => by have := hz z hz'; omega
  generalize hS : sidesF 0 zs = S at *
  obtain ⟨N, hN⟩ : ∃ N : Nat, S.length = N := ⟨_, rfl⟩
  have hNs : zs.sum.toNat = N := by omega
  have N1 : 1 ≤ N := by omega
  have N60 : N ≤ 60 := by omega
  rw [hNs] at ho
  -- sides
  refine q_asgD (K := K) (d := .lst (S.map .int)) (ed_call (ea_cons (ed_var rfl (r1.le e1)) ea_nil) fun H2 _ => ⟨zs, rfl, z8, hz, hsum, by rw [hS]⟩) fun v3 H2 e2 r3 => ?_
  have e12 := e1.trans e2
  have lenS : ∀ {H3 : Hp} {σ : L2.St}, Le H2 H3 → σ[2]? = some (some v3) → ED K (tCB (fun xs H Q => ∃ p ys, xs = [.ref p] ∧ (SqL K H p ys ∨ SqT K H p ys) ∧ Q (.int ys.length) H) (tCons (tVar 2) tNil)) σ H3 (.int (N : Int)) := fun e s => ed_eq (ed_lenL (ed_var s (r3.le e))) (by rw [List.length_map, hN])
  -- rooms
  refine q_asg (K := K) (P := fun d H => ∃ p, d = .obj (.ref p) ∧ H p = some (.rng 0 (N : Int))) (fun H3 e3 Q q => (ea_cons (lenS (Le.refl _) rfl) ea_nil) H3 e3 _ fun vs ds H4 e4 p r => ?_) fun v4 d4 H3 e3 p4 r4 => ?_
  · have p' : ds = [.int (N : Int)] := p
    subst p'
    obtain ⟨x, rfl, rx⟩ := rps1 r
    have ex := rp_int rx
    subst ex
    exact ⟨_, rfl, fun p np => q _ (.obj (.ref p)) _ (e4.trans (Le.new np)) ⟨p, rfl, upd_same⟩ (.obj _)⟩
  obtain ⟨p, rfl, hp⟩ := p4
  have ev4 := rp_obj r4
  subst ev4
  have e13 := e12.trans e3
  -- ties
  refine q_asgD (K := K) (d := .lst ((prodL S N).map eP)) (fun H4 e4 Q q => ?_) fun v5 H4 e4 r5 => ?_
  · have hp4 := e4.rng hp
    refine ⟨.ref p, rfl, p, 0, (N : Int), rfl, hp4, by omega, fun L hL => lc2_it (walk_range (lo := 0) (n := ((N : Int) - 0).toNat)) (fun i H' => Gro K H4 L eP (prodL S i) H' ∧ i ≤ N) ⟨Gro.start hL, Nat.zero_le _⟩ (fun _ _ _ _ => trivial) ?_ fun H' g => ?_⟩
    · rintro i x H' _ hi ⟨g, hiN⟩ ⟨rfl, rfl⟩
      have hi' : i < N := by omega
      refine ⟨rfl, ?_⟩
      unfold tYes
      dsimp only
      rw [if_pos rfl]
      have g4 := g.le.rng hp4
      refine ⟨.ref p, rfl, p, 0, (N : Int), rfl, g4, by omega, ?_⟩
      refine lc2_in (walk_range (lo := 0) (n := ((N : Int) - 0).toNat)) (fun j H' => Gro K H4 L eP (prodL S i ++ rowSj S i j) H' ∧ j ≤ N) ⟨by unfold rowSj; simp only [List.range_zero, List.filter_nil, List.map_nil, List.append_nil]; exact g, Nat.zero_le _⟩ (fun _ _ _ _ => trivial) ?_ fun H5 ⟨g5, _⟩ => ?_
      · rintro j x _ H5 hj ⟨g5, _⟩ ⟨rfl, rfl⟩
        have hj' : j < N := by omega
        refine ⟨rfl, ?_⟩
        have e0 : (0 : Int) + (i : Int) = (i : Int) := Int.zero_add _
        have e0' : (0 : Int) + (j : Int) = (j : Int) := Int.zero_add _
        dsimp only
        rw [e0, e0']
        have e5 := e4.trans g5.le
        have gS : ∀ {k : Nat}, k < N → (S.map D.int)[((k : Nat) : Int).toNat]? = some (.int (S.getD k 0)) := fun {k} hk => by
          rw [Int.toNat_natCast, List.getElem?_map, List.getElem?_eq_getElem (by omega), List.getD_eq_getElem?_getD, List.getElem?_eq_getElem (by omega)]
          rfl
        refine eb_and (a := decide ((i : Int) < (j : Int))) (b := sideB S ((i : Int), (j : Int))) (et_test (K := K) (ed_B0 (f := fun i j => decide (i < j)) (ed_var rfl (.int _)) (ed_var rfl (.int _)))) (fun _ => eb_eq (et_test (K := K) (ed_neS (d1 := .int (S.getD i 0)) (d2 := .int (S.getD j 0)) (ed_ixL (ed_var rfl (r3.le (e3.trans e5))) (ed_var rfl (.int (i : Int))) (by omega) (gS hi')) (ed_ixL (ed_var rfl (r3.le (e3.trans e5))) (ed_var rfl (.int (j : Int))) (by omega) (gS hj')) rfl rfl rfl)) (by rw [vs_int]; unfold sideB; rfl)) H5 (Le.refl _) _ fun b H6 e6 hb => ?_
        have g6 := g5.keep enc_P e6
        cases b with
        | true =>
          rw [if_pos rfl]
          refine ed_tup (K := K) (ds := [.int (i : Int), .int (j : Int)]) (ea_cons (ed_var rfl (.int _)) (ea_cons (ed_var rfl (.int _)) ea_nil)) (by show 2 ≤ 100000; decide) H6 (Le.refl _) _ fun y d7 H7 e7 p7 r7 => ?_
          have p7' : d7 = eP ((i : Int), (j : Int)) := p7
          subst p7'
          obtain ⟨ac, h1, h2, h3⟩ := (g6.keep enc_P e7).more (z := ((i : Int), (j : Int))) enc_P r7 (by
            rw [List.length_append]
            have a1 := prodL_len S i
            have a2 := rowSj_len S i j
            rw [hN] at a1
            have a3 := Nat.mul_le_mul (show i ≤ 60 by omega) N60
            omega)
          refine ⟨ac, h1, h2, ?_, hj'⟩
          rw [rowSj_more, ← hb, if_pos rfl, ← List.append_assoc]
          exact h3
        | false =>
          rw [if_neg Bool.false_ne_true]
          refine ⟨?_, hj'⟩
          rw [rowSj_more, ← hb, if_neg Bool.false_ne_true, List.append_nil]
          exact g6
      · rw [prodL_more, hN]
        have eN : ((N : Int) - 0).toNat = N := by omega
        rw [eN] at g5
        exact ⟨g5, hi'⟩
    · have eN : ((N : Int) - 0).toNat = N := by omega
      rw [eN] at g
      exact q _ (.lst ((prodL S N).map eP)) H' g.1.le rfl (g.1.done enc_P)
  have e14 := e13.trans e4
  have hP : prodL S N = (pairsL N).filter (sideB S) := by
    have := prod_eq S
    rw [hN] at this
    exact this
  refine s_ret (K := K) (ep_web (PT := fun l => l = (pairsL N).filter (sideB S)) (ed_rep1m (ed_var rfl (r2.le e14)) (lenS (e3.trans e4) rfl) N1 N60) (ep_tupOfP ((ed_var rfl r5).weak fun d H5 _ p => ⟨prodL S N, p, hP⟩)) fun k hk => ?_) fun v d H5 e5 p r => q _ ho v d H5 (e14.trans e5) p r
  subst hk
  exact parts_rep N1 N60 m0 m1 (fun p hp => mem_pairsL.mp (List.mem_filter.mp hp).1) up_filter
end
end W1

set_option maxRecDepth 100000
set_option maxHeartbeats 4000000
/-! the law's own makers -/
namespace W1
open PySem PyProof.Rows L2
local macro_rules | `(tactic| walk_at "rp") => `(tactic| first | assumption | exact Rp.int _ | exact Rp.bl _ | exact Rp.str _ | exact Rp.non | exact Rp.obj _ | (refine Rp.le (by assumption) ?_; walk_at "rp"))
local macro_rules | `(tactic| walk_at "ed") => `(tactic| first
  | exact ed_int | exact ed_str | exact ed_bl | exact ed_non
  | (refine ed_var rfl ?_; walk_at "rp")
  | (refine ed_ixT (ds := [_, _]) ?_ ed_int (by decide) rfl; walk_at "ed")
  | (refine ed_I0 ?_ ?_ <;> walk_at "ed")
  | (refine ed_B0 ?_ ?_ <;> walk_at "ed")
  | (refine ed_eqS ?_ ?_ rfl rfl rfl <;> walk_at "ed")
  | assumption)
local macro_rules | `(tactic| walk_at "ea") => `(tactic| first | exact ea_nil | (refine ea_cons ?_ ?_; walk_at "ed"; walk_at "ea"))

abbrev s__law_grid_ties : Stmt := topS 62
abbrev N__law_grid_ties : List Str := ["_law_wide", "_law_high", "_law_found", "_law_one", "_law_other"]
theorem sc__law_grid_ties : FnScope N__law_grid_ties ["_law_wide", "_law_high"] (defScope s__law_grid_ties) := ⟨rfl, rfl, rfl, by decide +kernel, rfl, by decide +kernel, by decide +kernel⟩
abbrev s__law_sides : Stmt := topS 63
abbrev N__law_sides : List Str := ["_law_sizes", "_law_found", "_law_side", "_law_size"]
theorem sc__law_sides : FnScope N__law_sides ["_law_sizes"] (defScope s__law_sides) := ⟨rfl, rfl, rfl, by decide +kernel, rfl, by decide +kernel, by decide +kernel⟩
abbrev s__law_side_ties : Stmt := topS 64
abbrev N__law_side_ties : List Str := ["_law_sizes", "_law_sides_here", "_law_one", "_law_other"]
theorem sc__law_side_ties : FnScope N__law_side_ties ["_law_sizes"] (defScope s__law_side_ties) := ⟨rfl, rfl, rfl, by decide +kernel, rfl, by decide +kernel, by decide +kernel⟩
theorem map_at2 {α β : Type} {f : α → β} {xs : List α} {i : Nat} {y : β} (h : (xs.map f)[i]? = some y) : ∃ x, xs[i]? = some x ∧ y = f x := by
  rw [List.getElem?_map] at h
  cases hx : xs[i]? with
  | none => rw [hx] at h; cases h
  | some x => rw [hx] at h; exact ⟨x, rfl, (Option.some.inj h).symm⟩
theorem take_f_yes {α : Type} {xs : List α} {f : α → Bool} {i : Nat} {x : α} (h : xs[i]? = some x) (hf : f x = true) : (xs.take (i + 1)).filter f = (xs.take i).filter f ++ [x] := by
  rw [take_more h, List.filter_append, List.filter_cons, if_pos hf]
  rfl
theorem take_f_no {α : Type} {xs : List α} {f : α → Bool} {i : Nat} {x : α} (h : xs[i]? = some x) (hf : f x = false) : (xs.take (i + 1)).filter f = (xs.take i).filter f := by
  rw [take_more h, List.filter_append, List.filter_cons, if_neg (by rw [hf]; exact Bool.false_ne_true), List.filter_nil, List.append_nil]
section
variable {P : Program} {w : World} {K : PySem.W.Frag} {mg : Str → Option Value} {base : Heap}
def R_gties : List D → Hp → Pd → Prop := fun ds _ P => ∃ wd hg : Int, ds = [.int wd, .int hg] ∧ 1 ≤ wd ∧ 1 ≤ hg ∧ wd * hg ≤ 60 ∧ P = is (.tup (((pairsL (wd * hg).toNat).filter (gridB wd)).map eP))
theorem ok_gties (T : Txt mg) (g : GDef K mg "_law_grid_ties" s__law_grid_ties ["_law_wide", "_law_high"]) (G_law_pairs : Def P w K mg base 1 "_law_pairs" ["_law_many"] (spD K R_pairs)) : Def P w K mg base 2 "_law_grid_ties" ["_law_wide", "_law_high"] (spD K R_gties) := by
  refine defD g sc__law_grid_ties (fun ds H Pd h => ?_) fun cdv A outer s f H vs ds Pd Q E hr r h q => ?_
  · obtain ⟨a, b, rfl, _⟩ := h
    rfl
  obtain ⟨wd, hg, rfl, w1, g1, hn, rfl⟩ := h
  obtain ⟨v1, v2, rfl, r1, r2⟩ := rps2 r
  have e1 := rp_int r1
  have e2 := rp_int r2
  subst e1 e2
  obtain ⟨N, hN⟩ : ∃ N : Nat, wd * hg = (N : Int) := ⟨(wd * hg).toNat, (Int.toNat_of_nonneg (Int.mul_nonneg (by omega) (by omega))).symm⟩
  have hwN : wd ≤ N := by
    have : wd * 1 ≤ wd * hg := Int.mul_le_mul_of_nonneg_left g1 (by omega)
    omega
  rw [hN, Int.toNat_natCast] at q
  have N60 : N ≤ 60 := by omega
  refine ⟨_, (pss_cons (ps_set (i := 2) sc__law_grid_ties.nd rfl (Or.inl rfl) (pe_lst pa_nil))
    (pss_cons (ps_for PassesOwn.never rfl (kpi_list (K := K) (pe_def G_law_pairs (hr.mono (by decide)) (pa_cons (pe_op op_mul (pv 0) (pv 1)) pa_nil))) (kpg_tup (K := K) (n := 2) rfl (pgs_cons (pg_name (i := 3) sc__law_grid_ties.nd rfl (Or.inl rfl)) (pgs_cons (pg_name (i := 4) sc__law_grid_ties.nd rfl (Or.inl rfl)) pgs_nil)))
      (pss_one (ps_if (PW.pt (pw_or (pt_cmpR op_eq (pe_op op_sub (pv 4) (pv 3)) (pv 0) (nomark _)) (pw_or1 (PW.pt (pw_and (pt_cmpR op_eq (pe_op op_sub (pv 4) (pv 3)) pe_int (nomark _)) (pw_and1 (pt_cmpR op_gt (pe_op op_modN (pe_callTy call_int1 (by rfl) T.n_int boot_int (pa_cons (pv 4) pa_nil)) (pv 0)) pe_int (nomark _))))))))
      (pss_one (ps_expr (pe_bm PySem.F.plainAttrs_list PySem.F.slot_list_append PySem.F.type_list_append mt_append (pv 2) (pa_cons (pe_tup (pa_cons (pv 3) (pa_cons (pv 4) pa_nil))) pa_nil))))
      pss_nil)))
    (pss_one (ps_ret (pe_callTy (kc_tuple (K := K)) (by rfl) T.n_tuple boot_tuple (pa_cons (pv 2) pa_nil)))))), ?_⟩
  refine q_asgF (K := K) (ef_lst (ds := []) ea_nil (by decide) rfl) fun c vs ds H1 nc e1 hc nh rr hd => ?_
  subst hd
  refine q_forL (K := K) (ds := (pairsL N).map eP) (ed_call (ea_cons (ed_eq (ed_I (f := fun i j => i * j) (ed_var rfl (.int wd)) (ed_var rfl (.int hg)) (.inl (by omega))) (congrArg D.int hN)) ea_nil) fun H2 _ => ⟨N, rfl, N60, rfl⟩) (enc_P.nl _) fun a us H2 e2 ha ra => ?_
  have plen : (pairsL N).length ≤ 3600 := pairs_len (n := N) (i := N) (Nat.le_refl _) N60
  refine ⟨fun i σ H' => ∃ y z ws, σ = [some (.int wd), some (.int hg), some (.ref c), y, z] ∧ Le H H' ∧ LeT H2 H' ∧ H' a = some (.lst us) ∧ H' c = some (.lst ws) ∧ i ≤ (pairsL N).length ∧
    Rps K H' ws (((((pairsL N).take i)).filter (gridB wd)).map eP), ⟨none, none, vs, rfl, e1.trans e2, LeT.refl _, ha, e2.lst hc nh, Nat.zero_le _, rr.le e2⟩, ?_, ?_, ?_⟩
  · rintro i σ H' _ ⟨_, _, _, _, _, t, h, _⟩
    exact ⟨t, h⟩
  · rintro i d v σ H' hd rv ⟨y, z, ws, rfl, e, t, ha', hc', hi, rr'⟩
    obtain ⟨⟨p1, p2⟩, hp, rfl⟩ := map_at2 hd
    have hmem := List.mem_of_getElem? hp
    rw [mem_pairsL] at hmem
    dsimp only at hmem
    have hi' : i < (pairsL N).length := (List.getElem?_eq_some_iff.mp hp).1
    obtain ⟨tp, ys, rfl, st, r3⟩ := rp_tup rv
    obtain ⟨x1, x2, rfl, q1, q2⟩ := rps2 r3
    have e3 := rp_int q1
    have e4 := rp_int q2
    subst e3 e4
    have hlen : ws.length ≤ i := by
      rw [rr'.len, List.length_map]
      exact Nat.le_trans (List.length_filter_le _ _) (List.length_take_le _ _)
    have hac : a ≠ c := fun e => by
      subst e
      have e5 : us = ws := by
        rw [ha'] at hc'
        injection hc' with h
        injection h
      have := ra.len
      rw [List.length_map] at this
      rw [e5] at this
      omega
    have nh' : NotH ws := (enc_P.un _).notH rr'
    refine ⟨tp, _, rfl, st, rfl, _, _, rfl, _, _, rfl, rfl, ?_⟩
    refine s_ifB (b := gridB wd (p1, p2)) ?_ (fun hb H3 e3 => ?_) fun hb H3 e3 => ?_
    · have df : ED K (tOp (rI0 fun i j => .int (i - j)) (tVar 4) (tVar 3)) [some (.int wd), some (.int hg), some (.ref c), some (.int p1), some (.int p2)] H' (.int (p2 - p1)) := ed_I0 (f := fun i j => i - j) (ed_var rfl (.int _)) (ed_var rfl (.int _))
      refine eb_eq (eb_or (a := decide (p2 - p1 = wd)) (b := decide (p2 - p1 = 1) && decide (0 < p2.fmod wd)) (eb_eq (et_test (K := K) (ed_eqS (d1 := .int (p2 - p1)) (d2 := .int wd) df (ed_var rfl (.int _)) rfl rfl rfl)) (by rw [vs_int])) fun _ => eb_and (eb_eq (et_test (K := K) (ed_eqS (d1 := .int (p2 - p1)) (d2 := .int 1) df ed_int rfl rfl rfl)) (by rw [vs_int])) fun _ => eb_eq (et_test (K := K) (ed_B0 (f := fun i j => decide (i > j)) (ed_I (f := fun i j => i.fmod j) (ed_int1 (ed_var rfl (.int _))) (ed_var rfl (.int _)) (by omega)) ed_int)) rfl) rfl
    · refine s_app (K := K) (P := is (eP (p1, p2))) (e3.lst hc' nh') nh' (ed_var rfl (.obj _)) (fun H4 e4 => ed_tup (ds := [.int p1, .int p2]) (ea_cons (ed_var rfl (.int _)) (ea_cons (ed_var rfl (.int _)) ea_nil)) (by show 2 ≤ 100000; decide)) (by omega) fun y' d' H4 e4 hd' ry hc4 => ?_
      have hd2 : d' = eP (p1, p2) := hd'
      subst hd2
      have e34 := e3.trans e4
      have ha4 := e34.lst ha' ((enc_P.un _).notH ((ra.leT t (enc_P.nl _))))
      refine ⟨some (.int p1), some (.int p2), ws ++ [y'], rfl, (e.trans e34).mut nc, (t.trans e34.t).trans (LeT.upd hc4), ?_, upd_same, hi', ?_⟩
      · rw [upd_ne hac]
        exact ha4
      · rw [take_f_yes hp hb, List.map_append]
        exact ((rr'.le e34).upd hc4 (enc_P.nl _)).app (.cons (ry.upd hc4 (enc_P.noL _)) .nil)
    · refine ⟨some (.int p1), some (.int p2), ws, rfl, e.trans e3, t.trans e3.t, e3.lst ha' ((enc_P.un _).notH (ra.leT t (enc_P.nl _))), e3.lst hc' nh', hi', ?_⟩
      rw [take_f_no hp hb]
      exact rr'.le e3
  · rintro σ H' ⟨y, z, ws, rfl, e, t, ha', hc', _, rr'⟩
    rw [List.length_map, List.take_length] at rr'
    refine s_ret (K := K) (ed_tupOf (ed_var rfl (.lst hc' ((enc_P.un _).notH rr') rr'))) fun v d H3 e3 p r3 => ?_
    exact q v _ H3 (e.trans e3) p r3
def R_sides : List D → Hp → Pd → Prop := fun ds _ P => ∃ zs : List Int, ds = [.tup (zs.map .int)] ∧ zs.length ≤ 8 ∧ (∀ z ∈ zs, 1 ≤ z ∧ z ≤ 60) ∧ zs.sum ≤ 60 ∧ P = is (.lst ((sidesF 0 zs).map .int))
theorem sides_few : ∀ (ys : List Int) (k : Int), (∀ z ∈ ys, 1 ≤ z ∧ z ≤ 60) → (sidesF k ys).length ≤ 60 * ys.length
  | [], k, _ => Nat.zero_le _
  | z :: ys, k, h => by
    show (List.replicate z.toNat k ++ sidesF (k + 1) ys).length ≤ 60 * (ys.length + 1)
    rw [List.length_append, List.length_replicate]
    have := h z (List.mem_cons_self ..)
    have := sides_few ys (k + 1) fun x hx => h x (List.mem_cons_of_mem _ hx)
    omega
theorem ok_sides (T : Txt mg) (g : GDef K mg "_law_sides" s__law_sides ["_law_sizes"]) : Def P w K mg base 1 "_law_sides" ["_law_sizes"] (spD K R_sides) := by
  refine defD g sc__law_sides (fun ds H Pd h => ?_) fun cdv A outer s f H vs ds Pd Q E hr r h q => ?_
  · obtain ⟨zs, rfl, _⟩ := h
    rfl
  obtain ⟨zs, rfl, z8, hz, hsum, rfl⟩ := h
  obtain ⟨v1, rfl, r1⟩ := rps1 r
  refine ⟨_, (pss_cons (ps_set (i := 1) sc__law_sides.nd rfl (Or.inl rfl) (pe_lst pa_nil))
    (pss_cons (ps_for PassesOwn.never rfl (kpi_enumT (K := K) (by rfl) T.n_enumerate (pa_cons (pv 0) pa_nil)) (kpg_tup (K := K) (n := 2) rfl (pgs_cons (pg_name (i := 2) sc__law_sides.nd rfl (Or.inl rfl)) (pgs_cons (pg_name (i := 3) sc__law_sides.nd rfl (Or.inl rfl)) pgs_nil)))
      (pss_one (ps_set (i := 1) sc__law_sides.nd rfl (Or.inl rfl) (pe_op op_cat (pv 1) (pe_op op_rep (pe_lst (pa_cons (pv 2) pa_nil)) (pv 3))))))
    (pss_one (ps_ret (pv 1))))), ?_⟩
  refine q_asgD (K := K) (d := .lst []) (ed_lst (ds := []) ea_nil (by decide) rfl) fun v2 H1 e1 r2 => ?_
  refine q_forE (K := K) (ds := zs.map .int) (ea_cons (ed_var rfl (r1.le e1)) ea_nil) (noL_ints _) fun H2 e2 => ?_
  refine ⟨fun i σ H' => ∃ y z u, σ = [some v1, some u, y, z] ∧ Le H2 H' ∧ i ≤ zs.length ∧ Rp K H' u (.lst ((sidesF 0 (zs.take i)).map .int)), ⟨none, none, v2, rfl, Le.refl _, Nat.zero_le _, r2.le e2⟩, ?_, ?_, ?_⟩
  · rintro i σ H' _ ⟨_, _, _, _, e, _⟩
    exact e.t
  · rintro i d v σ H' H3 hd ⟨y, z, u, rfl, e, _, ru⟩ e3 rv
    obtain ⟨s, hs, rfl⟩ := map_at2 hd
    have ev := rp_int rv
    subst ev
    have hi : i < zs.length := (List.getElem?_eq_some_iff.mp hs).1
    have hs1 := hz s (List.mem_of_getElem? hs)
    have few := sides_few (zs.take i) 0 fun z hz' => hz z (List.mem_of_mem_take hz')
    rw [List.length_take, Nat.min_eq_left (Nat.le_of_lt hi)] at few
    refine ⟨rfl, ?_⟩
    have rep : ED K (tOp rRep (tLst (tCons (tVar 2) tNil)) (tVar 3)) [some v1, some u, some (.int (i : Int)), some (.int s)] H3 (.lst ((List.replicate s.toNat (i : Int)).map .int)) := by
      refine ed_eq (ed_rep (ds := [.int (i : Int)]) (ed_lst (ds := [_]) (ea_cons (ed_var rfl (.int _)) ea_nil) (by show 1 ≤ 100000; decide) rfl) (ed_var rfl (.int s)) (by omega) (by show 1 ≤ 1000; decide) ?_) ?_
      · rw [rep_flat, ← List.map_replicate]
        exact enc_int.un _
      · rw [rep_flat, ← List.map_replicate]
    refine s_asgD (K := K) (ed_cat (ed_var rfl (ru.le e3)) rep ?_ ?_) fun v H4 e4 r4 => ?_
    · rw [List.length_map, List.length_map, List.length_replicate]
      omega
    · rw [← List.map_append]
      exact enc_int.un _
    · refine ⟨some (.int (i : Int)), some (.int s), v, rfl, (e.trans e3).trans e4, hi, ?_⟩
      rw [← List.map_append] at r4
      rw [take_more hs, sidesF_app, List.length_take, Nat.min_eq_left (Nat.le_of_lt hi), Int.zero_add]
      show Rp K H4 v (.lst ((_ ++ (List.replicate s.toNat (i : Int) ++ [])).map .int))
      rw [List.append_nil]
      exact r4
  · rintro σ H' ⟨y, z, u, rfl, e, _, ru⟩
    rw [List.length_map, List.take_length] at ru
    exact s_retD (K := K) (ed_var rfl ru) fun v H3 e3 r3 => q v _ H3 ((e1.trans e2).trans (e.trans e3)) rfl r3
theorem ed_lcL2 {α : Type} {enc : α → D} {σ : L2.St} {H : Hp} {ta te : TE} {tt : TT} {vs : List Nat} (E : Enc enc) (xs : List (Int × Int)) (f : Int × Int → Bool) (g : Int × Int → α) {j l : Nat} (h : ED K ta σ H (.lst (xs.map eP))) (hz : xs.length ≤ 50000) (hw : ∀ x y, wipe (((wipe σ vs).set j (some x)).set l (some y)) vs = wipe σ vs)
    (ht : ∀ p H1, Le H H1 → p ∈ xs → EB tt (((wipe σ vs).set j (some (.int p.1))).set l (some (.int p.2))) H1 (f p))
    (he : ∀ p H1, Le H H1 → p ∈ xs → f p = true → ED K te (((wipe σ vs).set j (some (.int p.1))).set l (some (.int p.2))) H1 (enc (g p))) :
    ED K (tLc (iList K ta) (gTup K 2 (gCons (gName j) (gCons (gName l) gNil))) tt te vs) σ H (.lst (((xs.filter f).map g).map enc)) := fun H1 e Q q => h H1 e _ fun v d0 H2 e2 p r => by
  have p' : d0 = .lst (xs.map eP) := p
  subst p'
  obtain ⟨a, us, rfl, s, nh, rr⟩ := rp_lst r
  have G := good (enc := enc) E fun i zs => zs = ((xs.take i).filter f).map g
  refine ⟨a, rfl, ⟨us, SqL.of s⟩, fun L hL => lc_it (walk_list (xs := us)) (CI K H2 L (GI enc fun i zs => zs = ((xs.take i).filter f).map g)) (ci_start (I := GI enc fun i zs => zs = ((xs.take i).filter f).map g) hL ⟨[], rfl, Nat.zero_le _, by simp⟩) (fun i H' _ c => SqL.of (c.2.1.lst s nh)) ?_ (fun H' c => ?_)⟩
  · rintro i x H' _ hi c ⟨rfl, hx⟩
    obtain ⟨d, h1, h2⟩ := rr.at' hx
    obtain ⟨b, hb, rfl⟩ := map_at h1
    obtain ⟨t, ys, rfl, st, r3⟩ := rp_tup (h2.le c.2.1)
    obtain ⟨v1, v2, rfl, q1, q2⟩ := rps2 r3
    have e3 := rp_int q1
    have e4 := rp_int q2
    subst e3 e4
    have hm := List.mem_of_getElem? hb
    refine ⟨t, _, rfl, st, rfl, _, _, rfl, _, _, rfl, rfl, hw _ _, ci_turn G c (PT := fun x => x = f b) (fun acc ia => ht b H2 (e.trans e2) hm) ?_ ?_⟩
    · rintro acc ⟨zs, rfl, hl, rfl⟩ hf
      refine (he b H2 (e.trans e2) hm hf.symm).weak fun d' H3 _ p => ?_
      have p' : d' = enc (g b) := p
      subst p'
      refine ⟨GI.more ?_ (fm_yes hb hf.symm).symm, E.noL _⟩
      rw [← fm_yes hb hf.symm]
      exact Nat.le_trans (fm_len _ f g) (Nat.le_trans (List.length_take_le _ _) (by
        have := (List.getElem?_eq_some_iff.mp hb).1
        omega))
    · rintro acc ⟨zs, rfl, hl, rfl⟩ hf
      exact ⟨_, rfl, hl, (fm_no hb hf.symm).symm⟩
  · rw [rr.len, List.length_map] at c
    exact ci_end G c fun v d H3 e3 p r => q v d H3 (e2.trans e3) (by
      obtain ⟨acc, rfl, zs, rfl, _, rfl⟩ := p
      show D.lst _ = D.lst _
      rw [List.take_length]) r
def R_sties : List D → Hp → Pd → Prop := fun ds _ P => ∃ zs : List Int, ds = [.tup (zs.map .int)] ∧ 1 ≤ zs.length ∧ zs.length ≤ 8 ∧ (∀ z ∈ zs, 1 ≤ z ∧ z ≤ 60) ∧ zs.sum ≤ 60 ∧ P = is (.tup (((pairsL zs.sum.toNat).filter (sideB (sidesF 0 zs))).map eP))
theorem ok_sties (T : Txt mg) (g : GDef K mg "_law_side_ties" s__law_side_ties ["_law_sizes"]) (G_law_pairs : Def P w K mg base 1 "_law_pairs" ["_law_many"] (spD K R_pairs)) (G_law_sides : Def P w K mg base 1 "_law_sides" ["_law_sizes"] (spD K R_sides)) : Def P w K mg base 2 "_law_side_ties" ["_law_sizes"] (spD K R_sties) := by
  refine defD g sc__law_side_ties (fun ds H Pd h => ?_) fun cdv A outer s f H vs ds Pd Q E hr r h q => ?_
  · obtain ⟨zs, rfl, _⟩ := h
    rfl
  obtain ⟨zs, rfl, z1, z8, hz, hsum, rfl⟩ := h
  obtain ⟨v1, rfl, r1⟩ := rps1 r
  refine ⟨_, (pss_cons (ps_set (i := 1) sc__law_side_ties.nd rfl (Or.inr rfl) (pe_def G_law_sides (hr.mono (by decide)) (pa_cons (pv 0) pa_nil)))
    (pss_one (ps_ret (pe_callTy (kc_tuple (K := K)) (by rfl) T.n_tuple boot_tuple (pa_cons (pe_lc (own := [("_law_one", 2), ("_law_other", 3)]) rfl sc__law_side_ties.nd (kpi_list (K := K) (pe_def G_law_pairs (hr.mono (by decide)) (pa_cons (pe_callB (kc_len (K := K)) (by rfl) T.n_len boot_len (pa_cons (pv 1) pa_nil)) pa_nil))) (blkOk_by (N := N__law_side_ties) (sc := defScope s__law_side_ties) (by decide +kernel)) (fun _ _ _ _ _ => (kpg_tup (K := K) (n := 2) rfl (pgs_cons (pg_name (i := 2) sc__law_side_ties.nd rfl (Or.inl rfl)) (pgs_cons (pg_name (i := 3) sc__law_side_ties.nd rfl (Or.inl rfl)) pgs_nil)))) (fun _ _ _ _ _ => (pts_one (pt_cmpR op_ne (pe_ix (kix_list (K := K)) (pv 1) (pv 2) (fun _ _ => rfl)) (pe_ix (kix_list (K := K)) (pv 1) (pv 3) (fun _ _ => rfl)) (nomark _)))) (fun _ _ _ _ _ => (pe_tup (pa_cons (pv 2) (pa_cons (pv 3) pa_nil))))) pa_nil))))), ?_⟩
  have pos := sum_pos (zs := zs) fun z hz' => (hz z hz').1
  have hlen := sidesF_len 0 zs fun z hz' => by have := hz z hz'; omega
  generalize hS : sidesF 0 zs = S at *
  obtain ⟨N, hN⟩ : ∃ N : Nat, S.length = N := ⟨_, rfl⟩
  have hNs : zs.sum.toNat = N := by omega
  have N60 : N ≤ 60 := by omega
  rw [hNs] at q
  have plen : (pairsL N).length ≤ 3600 := pairs_len (n := N) (i := N) (Nat.le_refl _) N60
  refine q_asgD (K := K) (d := .lst (S.map .int)) (ed_call (ea_cons (ed_var rfl r1) ea_nil) fun H2 _ => ⟨zs, rfl, z8, hz, hsum, by rw [hS]⟩) fun v3 H2 e2 r3 => ?_
  refine s_retD (K := K) (ed_tupOf (ed_lcL2 enc_P (pairsL N) (sideB S) id (ed_call (ea_cons (ed_eq (ed_lenL (ed_var rfl r3)) (by rw [List.length_map, hN])) ea_nil) fun H3 _ => ⟨N, rfl, N60, rfl⟩) (by omega) (fun _ _ => rfl) (fun p H1 e hp => ?_) fun p H1 e hp _ => ?_)) fun v H3 e3 r => q v _ H3 (e2.trans e3) (by show D.tup _ = D.tup _; rw [List.map_id]) r
  · rw [mem_pairsL] at hp
    have gS : ∀ {k : Int}, 0 ≤ k → k < N → (S.map D.int)[k.toNat]? = some (.int (S.getD k.toNat 0)) := fun {k} h0 hk => by
      rw [List.getElem?_map, List.getElem?_eq_getElem (by omega), List.getD_eq_getElem?_getD, List.getElem?_eq_getElem (by omega)]
      rfl
    refine eb_eq (et_test (K := K) (ed_neS (d1 := .int (S.getD p.1.toNat 0)) (d2 := .int (S.getD p.2.toNat 0)) (ed_ixL (ed_var rfl (r3.le e)) (ed_var rfl (.int _)) hp.1 (gS hp.1 (by omega))) (ed_ixL (ed_var rfl (r3.le e)) (ed_var rfl (.int _)) (by omega) (gS (by omega) hp.2.2)) rfl rfl rfl)) (by rw [vs_int]; unfold sideB; rfl)
  · exact ed_tup (ds := [.int p.1, .int p.2]) (ea_cons (ed_var rfl (.int _)) (ea_cons (ed_var rfl (.int _)) ea_nil)) (by show 2 ≤ 100000; decide)
end
end W1

set_option maxRecDepth 100000
set_option maxHeartbeats 4000000
/-! the law's word for a number, told what to call -/
namespace W1
open PySem PyProof.Rows L2
local macro_rules | `(tactic| walk_at "rp") => `(tactic| first | assumption | exact Rp.int _ | exact Rp.bl _ | exact Rp.str _ | exact Rp.non | exact Rp.obj _ | (refine Rp.le (by assumption) ?_; walk_at "rp"))
local macro_rules | `(tactic| walk_at "ed") => `(tactic| first
  | exact ed_int | exact ed_str | exact ed_bl | exact ed_non
  | (refine ed_var rfl ?_; walk_at "rp")
  | (refine ed_ixT (ds := [_, _]) ?_ ed_int (by decide) rfl; walk_at "ed")
  | (refine ed_I0 ?_ ?_ <;> walk_at "ed")
  | (refine ed_B0 ?_ ?_ <;> walk_at "ed")
  | (refine ed_eqS ?_ ?_ rfl rfl rfl <;> walk_at "ed")
  | assumption)
local macro_rules | `(tactic| walk_at "ea") => `(tactic| first | exact ea_nil | (refine ea_cons ?_ ?_; walk_at "ed"; walk_at "ea"))

abbrev s__law_number_word : Stmt := topS 61
abbrev N__law_number_word : List Str := ["_law_call", "_law_web", "_law_told", "e"]
theorem sc__law_number_word : FnScope N__law_number_word ["_law_call"] (defScope s__law_number_word) := ⟨rfl, rfl, rfl, by decide +kernel, rfl, by decide +kernel, by decide +kernel⟩
abbrev s__law_makers_right : Stmt := topS 65
abbrev N__law_makers_right : List Str := ["_law_hand_here", "_law_odd", "_law_many", "_law_wide", "_law_high", "_law_sizes", "_law_memory", "_law_is_memory", "_law_is_many", "_law_row", "_law_ring", "_law_line", "_law_grid", "_law_sided", "_law_told", "_law_side", "_law_room", "_law_size"]
theorem sc__law_makers_right : FnScope N__law_makers_right ["_law_hand_here"] (defScope s__law_makers_right) := ⟨rfl, rfl, rfl, by decide +kernel, rfl, by decide +kernel, by decide +kernel⟩
open LamX in
theorem takes_len {X : Cx} {W : WX} {n : Nat} (t : Takes X W) (hn : X.N.length = n) : Takes X (fun c d σ H => σ.length = n → W c d σ H) := fun u s' ⟨a, B, sI, pins, σ, H, cls, d, e, I, nb, up, sky, na, os, ag, w⟩ =>
  t u s' ⟨a, B, sI, pins, σ, H, cls, d, e, I, nb, up, sky, na, os, ag, w (I.len.trans hn)⟩
/-- what the word asks of the reading of what it calls -/
def TWord (K : PySem.W.Frag) (C CN : Addr) : (XK → Hp → VK → Prop) → Hp → VK → Prop := fun tl H Q =>
  ∀ Q2 : VK, (∀ H' a ms ties, WebAt K C H' a ms ties → (∀ v2 H2, Le H' H2 → Rp K H2 v2 (.tup [.tup (ms.map .int), .tup (ties.map eP)]) → Q v2 H2) → Q2 (.ref a) H') → tl (fun cls d H' => cls = .ref CN ∧ d = none ∧ ∀ H2, Le H' H2 → Q (.str "number") H2) H Q2
section
variable {X : Cx} {C CB CN CD CG g : Addr} {cdg : Value} {q : Str}
theorem word_gives (T : KTxt X.mg) (W : WTxt X.K C) (ec : ExcC X.K CN) (hmN : X.mg "NoNumber" = some (.ref CN)) (hmG : X.mg "TagError" = some (.ref CG)) (xT : PySem.W.exmOne X.K (.ref CN) (.ref CG) = some true) (kN : PySem.W.kitOne X.K (.ref CN) (.ref CN) = some true) (kV : PySem.W.kitOne X.K (.ref CN) (.type "ValueError") = some true) :
    LamX.GivesTo X N__law_number_word "_law_number_word" (defScope s__law_number_word) g cdg (defBody s__law_number_word) "_law_call" q (TWord X.K C CN) := by
  intro f c' s H Q tl act hc h
  refine ⟨_, pss_cons (ps_try_as (X := (cxOf C8.CX0 X.prog X.w X.K X.mg X.base N__law_number_word "_law_number_word" (defScope s__law_number_word) g cdg X.A X.stack s H C8.E0).nox) (i := 3) (c := .ref CG)
      (tb := fun W D σ H => ∃ Ech : XK, (∀ cls d σ' H', σ'.length = 4 → Ech cls d H' → W cls d σ' H') ∧ tSeq (tAsg (fun σZ HZ Q => σZ[0]? = some (some (.ref f)) ∧ HZ c' = some (LamX.CodeO c' q) ∧ tl Ech HZ Q) (gName 1)) (tAsg (tTup (tCons (tFld X.K (tVar 1) "memories") (tCons (tFld X.K (tVar 1) "ties") tNil))) (gName 2)) D σ H)
      (ts := fun a cls d => tAsg (tIf (tAnd (tB (tCB (rIsE3 X.K a cls d) (tCons (tVar 3) (tCons (tC (.ref CN)) tNil)))) (tB (tCB (rIsE3 X.K a cls d) (tCons (tVar 3) (tCons (tC (V.ty "ValueError")) tNil))))) (tC (.str "number")) (tC (.str "other"))) (gName 2))
      rfl rfl sc__law_number_word.nd rfl rfl ⟨rfl, by decide, Or.inl hmG⟩ LamX.takes0 (fun W pn xe tk _ => ?_)
      (fun a oe cls d pn hz hf => pss_one (ps_set (i := 2) sc__law_number_word.nd rfl (Or.inl rfl) (pe_ifExp (PW.pt (pw_and (pt_val (pe_callB (call_isE3 (K := X.K) hz hf) (by rfl) T.n_isinstance boot_isinstance (pa_cons (pv 3) (pa_cons (pe_gx hmN (by rfl)) pa_nil)))) (pw_and1 (pt_val (pe_callB (call_isE3 (K := X.K) hz hf) (by rfl) T.n_isinstance boot_isinstance (pa_cons (pv 3) (pa_cons (pe_bltn (v := V.ty "ValueError") (by rfl) T.n_ValueError (by rfl) rfl) pa_nil))))))) pe_str pe_str))))
      (pss_one (ps_ret (pv 2))), ?_⟩
  · refine ⟨fun pins s' σ H D I h' => ?_⟩
    obtain ⟨Ech, hW, h1⟩ := h'
    exact PSs.run (pss_cons (ps_set (i := 1) sc__law_number_word.nd rfl (Or.inl rfl) (act (fun c d σ H => σ.length = 4 → W c d σ H) pn xe Ech _ _ (takes_len tk rfl) (fun cls d σ' H' e l => hW cls d σ' H' l e))) (pss_one (ps_set (i := 2) sc__law_number_word.nd rfl (Or.inl rfl) (pe_tup (pa_cons (kpe_fld (K := X.K) (pv 1) rfl) (pa_cons (kpe_fld (K := X.K) (pv 1) rfl) pa_nil)))))) pins s' σ H D I h1
  · refine ⟨fun cls d H' => cls = .ref CN ∧ d = none ∧ ∀ H2, Le H' H2 → Q (.str "number") H2, ?_, ?_⟩
    · rintro cls d σ' H' hl ⟨rfl, rfl, q⟩
      refine ⟨true, xT, fun _ a na => ?_, fun h => nomatch h⟩
      obtain ⟨a0, a1, a2, a3, rfl⟩ : ∃ a0 a1 a2 a3, σ' = [a0, a1, a2, a3] := by
        match σ', hl with
        | [a0, a1, a2, a3], _ => exact ⟨a0, a1, a2, a3, rfl⟩
      refine s_asgD (K := X.K) (d := .str "number") (ep_if (b := true) (eb_and (a := true) (b := true) (et_B (K := X.K) fun H3 e3 Q q => ⟨.ref a, rfl, CN, .ref CN, .ref CN, true, rfl, ec, .inl rfl, rfl, (fun u h => h), kN, q _ _ H3 (Le.refl _) rfl (.bl _)⟩) fun _ => et_B (K := X.K) fun H3 e3 Q q => ⟨.ref a, rfl, CN, V.ty "ValueError", .type "ValueError", true, rfl, ec, .inl rfl, rfl, (fun u h => h), kV, q _ _ H3 (Le.refl _) rfl (.bl _)⟩) (fun _ => ed_str) fun h => nomatch h) fun u H4 e4 r4 => ?_
      have eu := rp_str r4
      subst eu
      exact s_retD (K := X.K) (d := .str "number") (ed_var rfl (.str _)) fun z H5 e5 r5 => by
        have ez := rp_str r5
        subst ez
        exact q H5 (e4.trans e5)
    · refine ⟨rfl, hc, ?_⟩
      refine h _ fun H1 a ms ties x qk => ?_
      refine s_asgD (K := X.K) (ed_tup (ds := [.tup (ms.map .int), .tup (ties.map eP)]) (ea_cons (ed_mem W x (ed_var rfl (.obj _))) (ea_cons (ed_ties W x (ed_var rfl (.obj _))) ea_nil)) (by show 2 ≤ 100000; decide)) fun u H4 e4 r4 => ?_
      exact s_retD (K := X.K) (ed_var rfl r4) fun z H5 e5 r5 => qk z H5 (e4.trans e5) r5
end
end W1

set_option maxRecDepth 100000
set_option maxHeartbeats 4000000
/-! what stands though tables of code objects grow -/
namespace W1
open PySem PyProof.Rows L2
/-- H without its tables -/
def noT (H : Hp) : Hp := fun b => match H b with
  | some (.tbl _) => none
  | o => o
def LeN (H H' : Hp) : Prop := Le (noT H) H'
section
variable {K : PySem.W.Frag} {H H1 H' : Hp}
theorem noT_some {a : Addr} {o : HO} (h : noT H a = some o) : H a = some o ∧ ∀ ps, o ≠ .tbl ps := by
  unfold noT at h
  split at h
  · cases h
  · rename_i x hx
    refine ⟨h, fun ps e => ?_⟩
    rw [e] at h
    exact hx ps h
theorem noT_of {a : Addr} {o : HO} (h : H a = some o) (n : ∀ ps, o ≠ .tbl ps) : noT H a = some o := by
  unfold noT
  rw [h]
  cases o with
  | tbl ps => exact absurd rfl (n ps)
  | _ => rfl
theorem noT_none {a : Addr} (h : H a = none) : noT H a = none := by
  unfold noT
  rw [h]
theorem LeN.of (e : Le H H') : LeN H H' := fun a o h => e a o (noT_some h).1
theorem LeN.refl (H : Hp) : LeN H H := LeN.of (Le.refl H)
theorem LeN.noT (e : LeN H H') : Le (noT H) (W1.noT H') := fun a o h => by
  rcases e a o h with h1 | h1
  · exact .inl (noT_of h1 (noT_some h).2)
  · obtain ⟨c, p, x, s, n, p', x', s', n', e1, e2, u, v⟩ := h1
    exact .inr ⟨c, p, x, s, n, p', x', s', n', e1, noT_of e2 (fun ps z => HO.noConfusion z), u, v⟩
theorem LeN.trans (a : LeN H H1) (b : LeN H1 H') : LeN H H' := Le.trans (LeN.noT a) b
theorem sqt_noT {a : Addr} {xs : List V} (h : SqT K H a xs) : SqT K (W1.noT H) a xs := by
  rcases h with (h | ⟨o, h⟩) | h
  · exact .inl (.inl (noT_of h fun ps z => HO.noConfusion z))
  · exact .inl (.inr ⟨o, noT_of h fun ps z => HO.noConfusion z⟩)
  · exact .inr h
mutual
theorem Rp.noT {v : V} {d : D} : Rp K H v d → Rp K (W1.noT H) v d
  | .non => .non
  | .bl b => .bl b
  | .int i => .int i
  | .str x => .str x
  | .obj v => .obj v
  | .tup h r => .tup (sqt_noT h) (Rps.noT r)
  | .lst h n r => .lst (noT_of h fun ps z => HO.noConfusion z) n (Rps.noT r)
theorem Rps.noT {vs : List V} {ds : List D} : Rps K H vs ds → Rps K (W1.noT H) vs ds
  | .nil => .nil
  | .cons h r => .cons (Rp.noT h) (Rps.noT r)
end
theorem Rp.leN (e : LeN H H') {v : V} {d : D} (r : Rp K H v d) : Rp K H' v d := Rp.le e (Rp.noT r)
theorem Rps.leN (e : LeN H H') {vs : List V} {ds : List D} (r : Rps K H vs ds) : Rps K H' vs ds := Rps.le e (Rps.noT r)
theorem LeN.ins (e : LeN H H') {a C dx : Addr} {fs : List (Str × V)} (h : H a = some (.ins C dx fs)) : H' a = some (.ins C dx fs) := Le.ins e (noT_of h fun ps z => HO.noConfusion z)
theorem LeN.ext (e : LeN H H') {a : Addr} {φ : Heap → Prop} (h : H a = some (.ext φ)) : H' a = some (.ext φ) := Le.ext e (noT_of h fun ps z => HO.noConfusion z)
theorem LeN.lst (e : LeN H H') {a : Addr} {xs : List V} (h : H a = some (.lst xs)) (n : NotH xs) : H' a = some (.lst xs) := Le.lst e (noT_of h fun ps z => HO.noConfusion z) n
theorem LeN.sqt (e : LeN H H') {a : Addr} {xs : List V} (h : SqT K H a xs) : SqT K H' a xs := Le.sqt e (sqt_noT h)
theorem hand_leN (e : LeN H H') {h : Addr} (a : Hand H h) : Hand H' h := by
  refine Hand.le e ?_
  obtain ⟨c, cells, p, x, s, n, a⟩ := a
  exact ⟨c, cells, p, x, s, n, noT_of a.hand fun ps z => HO.noConfusion z, noT_of a.cell fun ps z => HO.noConfusion z, a.p0, a.x0, a.pos⟩
end
section
open LamX
variable {K : PySem.W.Frag} {H H1 H' : Hp}
theorem LeN.extN2 (e : ExtN H H') : LeN H H' := fun a o h => .inl (e a o (noT_some h).1 (noT_some h).2)
theorem ob_leN (e : LeN H H') {v : V} (h : Ob H v) : Ob H' v := by
  refine Ob.le e ?_
  obtain ⟨a, rfl, h⟩ := h
  rcases h with ⟨xs, h⟩ | h
  · exact ⟨a, rfl, .inl ⟨xs, noT_of h fun ps z => HO.noConfusion z⟩⟩
  · exact ⟨a, rfl, .inr (noT_of h fun ps z => HO.noConfusion z)⟩
theorem th_leN (e : LeN H H') {d : D} (h : Th H d) : Th H' d := by
  induction h with
  | sc h => exact .sc h
  | tup hl _ ih => exact .tup hl ih
  | ob h => exact .ob (ob_leN e h)
theorem tabs_le {T : List (Addr × Str)} (t : Tabs T H) (e : Le H H') : Tabs T H' := fun p hp => by
  obtain ⟨ps, h1, h2, h3⟩ := t p hp
  refine ⟨ps, ?_, h2, fun pos cv hc => ?_⟩
  · rcases e _ _ h1 with h | ⟨_, _, _, _, _, _, _, _, _, z, _⟩
    · exact h
    · cases z
  · obtain ⟨c, e1, e2⟩ := h3 pos cv hc
    exact ⟨c, e1, e.ext e2⟩
theorem tabs_upd {T : List (Addr × Str)} {l : Addr} {xs : List V} {o : HO} (t : Tabs T H) (hl : H l = some (.lst xs)) : Tabs T (L2.upd H l o) := fun p hp => by
  obtain ⟨ps, h1, h2, h3⟩ := t p hp
  refine ⟨ps, ?_, h2, fun pos cv hc => ?_⟩
  · rw [upd_ne fun z => by rw [z, hl] at h1; cases h1]
    exact h1
  · obtain ⟨c, e1, e2⟩ := h3 pos cv hc
    refine ⟨c, e1, ?_⟩
    rw [upd_ne fun z => by rw [z, hl] at e2; cases e2]
    exact e2
theorem LeN.mut {p : Addr} {o : HO} (e : LeN H H') (h : H p = none) : LeN H (L2.upd H' p o) := Le.mut e (noT_none h)
theorem LeN.le (e : LeN H H1) (e2 : Le H1 H') : LeN H H' := LeN.trans e (LeN.of e2)
end
end W1

set_option maxRecDepth 100000
set_option maxHeartbeats 4000000
/-! the word called on a lambda; a def whose code is known -/
namespace W1
open PySem PyProof.Rows L2
/-- a def of the text whose code object stands at cc -/
def GDefC (K : PySem.W.Frag) (mg : Str → Option Value) (x : Str) (st : Stmt) (ps : List Str) (cc : Addr) : Prop := ∃ (f : Addr) (oc : Value) (od an : Option Addr) (kV doc pm ct : Value) (osl : Array (Option Value)),
  mg x = some (.ref f) ∧ K.lookup f = some ⟨oc, od, .func (PySem.W.fnOf x x (defArgs st) (defBody st) (defScope st) .none kV doc pm an (.ref cc) ct), osl⟩ ∧ PySem.W.codeIn K (.ref cc) x = true ∧ PySem.W.keepIn K (.ref f) = true ∧
  Binds K (PySem.W.fnOf x x (defArgs st) (defBody st) (defScope st) .none kV doc pm an (.ref cc) ct) ps []
theorem defC {P : Program} {w : World} {K : PySem.W.Frag} {mg : Str → Option Value} {base : Heap} {x : Str} {st : Stmt} {N ps : List Str} {k : Nat} {sp : Sp} {cc : Addr} (g : GDefC K mg x st ps cc) (S : FnScope N ps (defScope st)) (hl : ∀ vs H Q E, sp vs H Q E → vs.length = ps.length)
    (body : ∀ (A : Around) (outer : List Env) (s : Shared) (f : Addr) (H : Hp) (vs : List V) (Q : VK) (E : XK), Room k (A.deeper (envOfC x (defScope st) s.heap.objs.size f (.ref cc))) → sp vs H Q E →
      ∃ t, PSs (cxOf CX0 P w K mg base N x (defScope st) f (.ref cc) A outer s H E).nox (defBody st) t ∧ t { nx := fun _ H' => Q .non H', rt := Q } (start N vs) H) : Def P w K mg base (k + 1) x ps sp := by
  obtain ⟨f, oc, od, an, kV, doc, pm, ct, osl, hm, lk, hcd, hk, hb⟩ := g
  refine ⟨f, _, hm, hk, hb, fn_of lk hcd S hl fun A outer s H vs Q E hr hsp => ?_⟩
  obtain ⟨t, h, q⟩ := body A outer s f H vs Q E hr hsp
  exact ⟨t, h.nox, q⟩
structure WordF (K : PySem.W.Frag) (mg : Str → Option Value) (base : Heap) (C CN CG cc Pt : Addr) : Prop where
  T : KTxt mg
  W : WTxt K C
  ec : ExcC K CN
  hmN : mg "NoNumber" = some (.ref CN)
  hmG : mg "TagError" = some (.ref CG)
  xT : PySem.W.exmOne K (.ref CN) (.ref CG) = some true
  kN : PySem.W.kitOne K (.ref CN) (.ref CN) = some true
  kV : PySem.W.kitOne K (.ref CN) (.type "ValueError") = some true
  G : GDef K mg "_law_number_word" s__law_number_word ["_law_call"]
  TB : LamX.TabB base mg cc Pt
theorem pe_word {X : Cx} {C CN CG cc Pt : Addr} {k : Nat} {params : Arguments} {body : Expr} {scope : Scope} {t : XK → TE} {p lpos pos : Pos} (F : WordF X.K X.mg X.base C CN CG cc Pt) (hcode : X.env.code = .ref cc) (hr : Room (k + 2) X.A) (L : LamX.LamS X.env.scope scope)
    (hbody : ∀ (A : Around) (outer : List Env) (s : Shared) (H : Hp) (E : XK) (f c' : Addr), Room k (A.deeper (LamX.lamEnv X scope s.heap.objs.size f c')) → PE (LamX.lamCx X A outer s H E scope f c') body (t E))
    (hg : Gl X "_law_number_word" := by rfl) (hdef : defaultsOf params X.env = ([], []) := by rfl)
    (hbind : ∀ (q : Str) (cl : List (Str × Addr)) (pm cv ctv : Value), bindArgs (PySem.W.kla_fn "<lambda>" q params body scope cl pm cv ctv) ⟨[], []⟩ = pure [] := by intros; rfl) :
    PE X (.Call (.Name "_law_number_word" p) [.Lambda params body scope lpos] [] pos) (LamX.tLam [(Pt, X.env.qual ++ "<lambda>")] (TWord X.K C CN) t) := by
  obtain ⟨g, fd, hm, Fn, hb⟩ := F.G
  obtain ⟨oc, od, kV, doc, pm, an, cdv, ct, osl, rfl, lk, hcd⟩ := Fn.ex
  exact LamX.pe_lamcall hg hm Fn.kp lk hcd hb sc__law_number_word rfl (by first | exact Or.inl rfl | exact Or.inr (Or.inl rfl)) (word_gives F.T F.W F.ec F.hmN F.hmG F.xT F.kN F.kV) F.TB hcode (List.mem_singleton.mpr rfl) (fun p hp _ => by rw [List.mem_singleton.mp hp]) hr L hdef hbind hbody
def wD (ms : List Int) (ties : List (Int × Int)) : D := .tup [.tup (ms.map .int), .tup (ties.map eP)]
theorem word_rd {K : PySem.W.Frag} {C CN : Addr} {T : List (Addr × Str)} {σ : L2.St} {H : Hp} {A : TA} {ds : List D} {R : List D → Hp → Out → Prop} {PD : D → Prop} {Q : VK} (hT : LamX.Tabs T H) (hA : ∀ H1, LeN H H1 → EDA K A σ H1 ds)
    (hR : ∀ H1, LeN H H1 → (R ds H1 (.err CN none) ∧ PD (.str "number")) ∨ ∃ ms PT, R ds H1 (.ret (webP K C ms PT)) ∧ ∀ l, PT l → PD (wD ms l))
    (q : ∀ v d H2, LeN H H2 → LamX.Tabs T H2 → PD d → Rp K H2 v d → Q v H2) : LamX.tLam T (TWord K C CN) (fun E => tCall (spX K R) [] E A) σ H Q := by
  refine ⟨hT, fun H1 eN T1 Q2 hq => ?_⟩
  have e1 := LeN.extN2 eN
  refine hA H1 e1 H1 (Le.refl _) _ fun vs ds' H2 e2 p r => ?_
  have p' : ds' = ds := p
  subst p'
  have e12 := e1.le e2
  have T2 := tabs_le T1 e2
  rcases hR H2 e12 with ⟨h, pd⟩ | ⟨ms, PT, h, pd⟩
  · refine ⟨ds', _, by rw [List.append_nil]; exact r, h, fun P0 e0 => Out.noConfusion e0, fun C' f' e0 => ?_⟩
    cases e0
    exact fun H3 e3 => ⟨rfl, rfl, fun H4 e4 => q _ _ H4 (e12.le (e3.trans e4)) (tabs_le T2 (e3.trans e4)) pd (.str _)⟩
  · refine ⟨ds', _, by rw [List.append_nil]; exact r, h, fun P0 e0 v d H3 e3 p3 r3 => ?_, fun C f e0 => Out.noConfusion e0⟩
    cases e0
    obtain ⟨a, ties, rfl, pt, x⟩ := p3
    have ev := rp_obj r3
    subst ev
    exact hq H3 a ms ties x fun v2 H4 e4 r4 => q v2 _ H4 (e12.le (e3.trans e4)) (tabs_le T2 (e3.trans e4)) (pd ties pt) r4
end W1

set_option maxRecDepth 100000
set_option maxHeartbeats 4000000
/-! the makers judged -/
namespace W1
open PySem PyProof.Rows L2
local macro_rules | `(tactic| walk_at "rp") => `(tactic| first | assumption | exact Rp.int _ | exact Rp.bl _ | exact Rp.str _ | exact Rp.non | exact Rp.obj _ | (refine Rp.le (by assumption) ?_; walk_at "rp"))
local macro_rules | `(tactic| walk_at "ed") => `(tactic| first
  | exact ed_int | exact ed_str | exact ed_bl | exact ed_non
  | (refine ed_var rfl ?_; walk_at "rp")
  | (refine ed_ixT (ds := [_, _]) ?_ ed_int (by decide) rfl; walk_at "ed")
  | (refine ed_I0 ?_ ?_ <;> walk_at "ed")
  | (refine ed_B0 ?_ ?_ <;> walk_at "ed")
  | (refine ed_eqS ?_ ?_ rfl rfl rfl <;> walk_at "ed")
  | assumption)
local macro_rules | `(tactic| walk_at "ea") => `(tactic| first | exact ea_nil | (refine ea_cons ?_ ?_; walk_at "ed"; walk_at "ea"))

abbrev qLam : Str := (envOfC "_law_makers_right" (defScope s__law_makers_right) 0 0 .none).qual ++ "<lambda>"
def spMk (K : PySem.W.Frag) (Pt : Addr) : Sp := fun vs H Q _ => ∃ h : Addr, vs = [.ref h] ∧ Hand H h ∧ LamX.Tabs [(Pt, qLam)] H ∧ ∀ H2, LeN H H2 → LamX.Tabs [(Pt, qLam)] H2 → Q (.bl true) H2
section
variable {K : PySem.W.Frag} {σ : L2.St} {H : Hp} {ta tb te : TE} {A ra : TA} {vs : List Nat}
theorem ep_lcRn {α : Type} {enc : α → D} (E : Enc enc) {m : Nat} (Z : α → Prop) {j : Nat} (h : EA K ra σ H (fun ds _ => ∃ n : Nat, ds = [.int (n : Int)] ∧ n ≤ m)) (hz : m ≤ 50000) (hw : ∀ x, wipe ((wipe σ vs).set j (some x)) vs = wipe σ vs)
    (he : ∀ (i : Nat) H1, Le H H1 → EP K te ((wipe σ vs).set j (some (.int (i : Int)))) H1 (fun d _ => ∃ a, d = enc a ∧ Z a)) :
    EP K (tLc (iRng1 ra) (gName j) tYes te vs) σ H (fun d _ => ∃ zs : List α, d = .lst (zs.map enc) ∧ zs.length ≤ m ∧ ∀ a ∈ zs, Z a) := fun H1 e Q q => h H1 e _ fun ws ds H2 e2 p r => by
  obtain ⟨n, rfl, hn⟩ := p
  obtain ⟨v, rfl, rv⟩ := rps1 r
  have ev := rp_int rv
  subst ev
  exact (ep_lcR (ra := fun _ H Q => Q [.int (n : Int)] H) E (n := n) Z (fun H3 e3 Q q => q _ _ H3 (Le.refl _) rfl (.cons (.int _) .nil)) (by omega) hw fun i H3 e3 hi => he i H3 ((e.trans e2).trans e3)) H2 (Le.refl _) Q fun v d H3 e3 p r => q v d H3 (e2.trans e3) (by
    obtain ⟨zs, h1, h2, h3⟩ := p
    exact ⟨zs, h1, by omega, h3⟩) r
/-- a list whose first item is a number -/
theorem ep_allI {n : Nat} (h1 : EP K te σ H (fun d _ => ∃ r : Int, d = .int r)) (hA : EA K A σ H (AllA ThP n)) (hz : n + 1 ≤ 100000) : EP K (tLst (tCons te A)) σ H (AllL ThP (n + 1)) :=
  ep_lst (PA := fun ds H => ∃ (r : Int) (rest : List D), ds = .int r :: rest ∧ AllA ThP n rest H) (EA_weak (ep_cons h1 hA) fun ds H2 ⟨d, r, H3, e, _, ⟨k, ek⟩, p⟩ => ⟨k, r, by rw [e, ek], p⟩) (fun ds H2 ⟨k, r, e, p⟩ => by rw [e, List.length_cons, p.1]; exact hz)
    (fun ds H2 xs ⟨k, r, e, p⟩ rr => by
      subst e
      intro c p x s n e
      subst e
      cases rr with
      | cons r1 _ =>
        have := rp_int r1
        cases this) fun ds H2 ⟨k, r, e, p⟩ H3 e3 => ⟨ds, rfl, by rw [e, List.length_cons, p.1], fun d hd => by
      rw [e] at hd
      rcases List.mem_cons.mp hd with rfl | hd
      · exact .sc rfl
      · exact (p.2 d hd).le e3⟩
theorem allL_mono {n : Nat} : Mono (AllL ThP n) := fun d H H' e ⟨xs, h1, h2⟩ => ⟨xs, h1, h2.mono th_mono e⟩
end
/-! ### what is due, what is told -/
abbrev nmb : D := .str "number"
def RowP (d m x : D) : Prop := ((btw 1 60 d && btw 0 30 m) = false ∧ x = nmb) ∨ ∃ (n : Nat) (k : Int), d = .int (n : Int) ∧ m = .int k ∧ 1 ≤ n ∧ n ≤ 60 ∧ 0 ≤ k ∧ k ≤ 30 ∧ x = wD (List.replicate n k) (rowL n)
def RingP (d m x : D) : Prop := ((btw 3 60 d && btw 0 30 m) = false ∧ x = nmb) ∨ ∃ (n : Nat) (k : Int) (l : List (Int × Int)), d = .int (n : Int) ∧ m = .int k ∧ 3 ≤ n ∧ n ≤ 60 ∧ 0 ≤ k ∧ k ≤ 30 ∧ Srt l (ringL n) ∧ x = wD (List.replicate n k) l
def GridP (dw dh dm x : D) : Prop := (¬ GridG dw dh dm ∧ x = nmb) ∨ ∃ w h m : Int, dw = .int w ∧ dh = .int h ∧ dm = .int m ∧ 1 ≤ w ∧ w ≤ 60 ∧ 1 ≤ h ∧ w * h ≤ 60 ∧ 0 ≤ m ∧ m ≤ 30 ∧ x = wD (List.replicate (w * h).toNat m) ((pairsL (w * h).toNat).filter (gridB w))
def SideP (ds dm x : D) : Prop := (¬ SidG ds dm ∧ x = nmb) ∨ ∃ (zs : List Int) (m : Int), ds = .tup (zs.map .int) ∧ dm = .int m ∧ 1 ≤ zs.length ∧ zs.length ≤ 8 ∧ (∀ z ∈ zs, 1 ≤ z ∧ z ≤ 60) ∧ zs.sum ≤ 60 ∧ 0 ≤ m ∧ m ≤ 30 ∧ x = wD (List.replicate zs.sum.toNat m) ((pairsL zs.sum.toNat).filter (sideB (sidesF 0 zs)))
def WX (x : D) : Prop := x = nmb ∨ ∃ ms ties, x = wD ms ties ∧ ms.length ≤ 50000 ∧ ties.length ≤ 50000
theorem RowP.uniq {d m x y : D} (a : RowP d m x) (b : RowP d m y) : x = y := by
  rcases a with ⟨h1, rfl⟩ | ⟨n, k, rfl, rfl, n1, n2, k1, k2, rfl⟩
  · rcases b with ⟨_, rfl⟩ | ⟨n, k, rfl, rfl, n1, n2, k1, k2, rfl⟩
    · rfl
    · rw [btw_iff.mpr ⟨by omega, by omega⟩, btw_iff.mpr ⟨k1, k2⟩] at h1
      cases h1
  · rcases b with ⟨h1, rfl⟩ | ⟨n', k', e1, e2, _, _, _, _, rfl⟩
    · rw [btw_iff.mpr ⟨by omega, by omega⟩, btw_iff.mpr ⟨k1, k2⟩] at h1
      cases h1
    · injection e1 with e1
      injection e2 with e2
      have e3 : n = n' := by omega
      subst e2 e3
      rfl
theorem RingP.uniq {d m x y : D} (a : RingP d m x) (b : RingP d m y) : x = y := by
  rcases a with ⟨h1, rfl⟩ | ⟨n, k, l, rfl, rfl, n1, n2, k1, k2, s, rfl⟩
  · rcases b with ⟨_, rfl⟩ | ⟨n, k, l, rfl, rfl, n1, n2, k1, k2, s, rfl⟩
    · rfl
    · rw [btw_iff.mpr ⟨by omega, by omega⟩, btw_iff.mpr ⟨k1, k2⟩] at h1
      cases h1
  · rcases b with ⟨h1, rfl⟩ | ⟨n', k', l', e1, e2, _, _, _, _, s', rfl⟩
    · rw [btw_iff.mpr ⟨by omega, by omega⟩, btw_iff.mpr ⟨k1, k2⟩] at h1
      cases h1
    · injection e1 with e1
      injection e2 with e2
      have e3 : n = n' := by omega
      subst e2 e3
      rw [s.same s' (nd_ringL n1)]
theorem GridP.uniq {dw dh dm x y : D} (a : GridP dw dh dm x) (b : GridP dw dh dm y) : x = y := by
  rcases a with ⟨h1, rfl⟩ | ⟨w, h, m, rfl, rfl, rfl, a1, a2, a3, a4, a5, a6, rfl⟩
  · rcases b with ⟨_, rfl⟩ | ⟨w, h, m, rfl, rfl, rfl, a1, a2, a3, a4, a5, a6, rfl⟩
    · rfl
    · exact absurd ⟨w, h, m, rfl, rfl, rfl, a1, a2, a3, a4, a5, a6⟩ h1
  · rcases b with ⟨h1, rfl⟩ | ⟨w', h', m', e1, e2, e3, _, _, _, _, _, _, rfl⟩
    · exact absurd ⟨w, h, m, rfl, rfl, rfl, a1, a2, a3, a4, a5, a6⟩ h1
    · injection e1 with e1
      injection e2 with e2
      injection e3 with e3
      subst e1 e2 e3
      rfl
theorem SideP.uniq {ds dm x y : D} (a : SideP ds dm x) (b : SideP ds dm y) : x = y := by
  rcases a with ⟨h1, rfl⟩ | ⟨zs, m, rfl, rfl, a1, a2, a3, a4, a5, a6, rfl⟩
  · rcases b with ⟨_, rfl⟩ | ⟨zs, m, rfl, rfl, a1, a2, a3, a4, a5, a6, rfl⟩
    · rfl
    · exact absurd ⟨⟨zs, rfl, a1, a2, a3, a4⟩, m, rfl, a5, a6⟩ h1
  · rcases b with ⟨h1, rfl⟩ | ⟨zs', m', e1, e3, _, _, _, _, _, _, rfl⟩
    · exact absurd ⟨⟨zs, rfl, a1, a2, a3, a4⟩, m, rfl, a5, a6⟩ h1
    · injection e1 with e1
      injection e3 with e3
      have e1' : zs = zs' := map_inj2 (fun a b h => by injection h) e1
      subst e1' e3
      rfl
theorem RowP.wx {d m x : D} (a : RowP d m x) : WX x := by
  rcases a with ⟨_, rfl⟩ | ⟨n, k, _, _, n1, n2, _, _, rfl⟩
  · exact .inl rfl
  · exact .inr ⟨_, _, rfl, by rw [List.length_replicate]; omega, by rw [len_rowL]; omega⟩
theorem RingP.wx {d m x : D} (a : RingP d m x) : WX x := by
  rcases a with ⟨_, rfl⟩ | ⟨n, k, l, _, _, n1, n2, _, _, s, rfl⟩
  · exact .inl rfl
  · refine .inr ⟨_, _, rfl, by rw [List.length_replicate]; omega, ?_⟩
    rw [s.perm.length_eq]
    unfold ringL
    rw [List.length_append, len_rowL, List.length_singleton]
    omega
theorem GridP.wx {dw dh dm x : D} (a : GridP dw dh dm x) : WX x := by
  rcases a with ⟨_, rfl⟩ | ⟨w, h, m, _, _, _, a1, a2, a3, a4, a5, a6, rfl⟩
  · exact .inl rfl
  · exact .inr ⟨_, _, rfl, by rw [List.length_replicate]; omega, Nat.le_trans (len_filter (by omega)) (by decide)⟩
theorem SideP.wx {ds dm x : D} (a : SideP ds dm x) : WX x := by
  rcases a with ⟨_, rfl⟩ | ⟨zs, m, _, _, a1, a2, a3, a4, a5, a6, rfl⟩
  · exact .inl rfl
  · exact .inr ⟨_, _, rfl, by rw [List.length_replicate]; omega, Nat.le_trans (len_filter (by omega)) (by decide)⟩
theorem WX.noL {x : D} (a : WX x) : NoL x := by
  rcases a with rfl | ⟨ms, ties, rfl, _, _⟩
  · exact .str _
  · exact .tup fun d hd => by
      simp only [List.mem_cons, List.not_mem_nil, or_false] at hd
      rcases hd with rfl | rfl
      · exact .tup (noL_ints _)
      · exact .tup (enc_P.nl _)
theorem WX.dp {x : D} (a : WX x) : Dp 4 x := by
  rcases a with rfl | ⟨ms, ties, rfl, h1, h2⟩
  · exact True.intro
  · exact dpWt (n := 0) h1 h2
theorem dp4 {a b c d : D} (h1 : WX a) (h2 : WX b) (h3 : WX c) (h4 : WX d) : Dp 5 (.lst [a, b, c, d]) := ⟨by show 4 ≤ 50000; decide, fun x hx => by
  simp only [List.mem_cons, List.not_mem_nil, or_false] at hx
  rcases hx with rfl | rfl | rfl | rfl
  · exact h1.dp
  · exact h2.dp
  · exact h3.dp
  · exact h4.dp⟩
theorem tell_row {K : PySem.W.Frag} {C CN : Addr} {H : Hp} {d m : D} (h1 : Th H d) (h2 : Th H m) : (R_roww K C CN [d, m] H (.err CN none) ∧ RowP d m nmb) ∨ ∃ ms PT, R_roww K C CN [d, m] H (.ret (webP K C ms PT)) ∧ ∀ l, PT l → RowP d m (wD ms l) := by
  cases hb : (btw 1 60 d && btw 0 30 m) with
  | false =>
    refine .inl ⟨⟨d, m, rfl, h1, h2, fun _ => rfl, fun n k e1 e2 a1 a2 a3 a4 => ?_⟩, .inl ⟨hb, rfl⟩⟩
    rw [e1, e2, btw_iff.mpr ⟨by omega, by omega⟩, btw_iff.mpr ⟨a3, a4⟩] at hb
    cases hb
  | true =>
    rw [Bool.and_eq_true] at hb
    obtain ⟨i, rfl, i1, i2⟩ := btw_int hb.1
    obtain ⟨k, rfl, k1, k2⟩ := btw_int hb.2
    obtain ⟨n, rfl⟩ : ∃ n : Nat, i = (n : Int) := ⟨i.toNat, by omega⟩
    refine .inr ⟨List.replicate n k, fun l => l = rowL n, ⟨_, _, rfl, h1, h2, fun h => ?_, fun n' k' e1 e2 _ _ _ _ => ?_⟩, fun l hl => .inr ⟨n, k, rfl, rfl, by omega, by omega, k1, k2, by rw [show l = rowL n from hl]⟩⟩
    · rw [hb.1, hb.2] at h
      cases h
    · injection e1 with e1
      injection e2 with e2
      have e3 : n = n' := by omega
      subst e2 e3
      rfl
theorem tell_ring {K : PySem.W.Frag} {C CN : Addr} {H : Hp} {d m : D} (h1 : Th H d) (h2 : Th H m) : (R_ringw K C CN [d, m] H (.err CN none) ∧ RingP d m nmb) ∨ ∃ ms PT, R_ringw K C CN [d, m] H (.ret (webP K C ms PT)) ∧ ∀ l, PT l → RingP d m (wD ms l) := by
  cases hb : (btw 3 60 d && btw 0 30 m) with
  | false =>
    refine .inl ⟨⟨d, m, rfl, h1, h2, fun _ => rfl, fun n k e1 e2 a1 a2 a3 a4 => ?_⟩, .inl ⟨hb, rfl⟩⟩
    rw [e1, e2, btw_iff.mpr ⟨by omega, by omega⟩, btw_iff.mpr ⟨a3, a4⟩] at hb
    cases hb
  | true =>
    rw [Bool.and_eq_true] at hb
    obtain ⟨i, rfl, i1, i2⟩ := btw_int hb.1
    obtain ⟨k, rfl, k1, k2⟩ := btw_int hb.2
    obtain ⟨n, rfl⟩ : ∃ n : Nat, i = (n : Int) := ⟨i.toNat, by omega⟩
    refine .inr ⟨List.replicate n k, fun l => Srt l (ringL n), ⟨_, _, rfl, h1, h2, fun h => ?_, fun n' k' e1 e2 _ _ _ _ => ?_⟩, fun l hl => .inr ⟨n, k, l, rfl, rfl, by omega, by omega, k1, k2, hl, rfl⟩⟩
    · rw [hb.1, hb.2] at h
      cases h
    · injection e1 with e1
      injection e2 with e2
      have e3 : n = n' := by omega
      subst e2 e3
      rfl
theorem tell_grid {K : PySem.W.Frag} {C CN : Addr} {H : Hp} {dw dh m : D} (h1 : Th H dw) (h2 : Th H dh) (h3 : Th H m) : (R_gridw K C CN [dw, dh, m] H (.err CN none) ∧ GridP dw dh m nmb) ∨ ∃ ms PT, R_gridw K C CN [dw, dh, m] H (.ret (webP K C ms PT)) ∧ ∀ l, PT l → GridP dw dh m (wD ms l) := by
  by_cases hb : GridG dw dh m
  · obtain ⟨w, h, k, rfl, rfl, rfl, a1, a2, a3, a4, a5, a6⟩ := hb
    obtain ⟨N, hN⟩ : ∃ N : Nat, w * h = (N : Int) := ⟨(w * h).toNat, (Int.toNat_of_nonneg (Int.mul_nonneg (by omega) (by omega))).symm⟩
    have hNm : ((w * h).toNat : Int).fmod w = 0 := by
      rw [hN, Int.toNat_natCast, ← hN, Int.fmod_eq_emod_of_nonneg _ (by omega)]
      exact Int.mul_emod_right w h
    refine .inr ⟨List.replicate (w * h).toNat k, fun l => Srt l (besL w (w * h).toNat ++ belL w (w * h).toNat), ⟨_, _, _, rfl, h1, h2, h3, fun h => absurd ⟨w, _, k, rfl, rfl, rfl, a1, a2, a3, a4, a5, a6⟩ h, fun w' h' k' e1 e2 e3 _ _ _ _ _ _ => ?_⟩, fun l hl => .inr ⟨w, h, k, rfl, rfl, rfl, a1, a2, a3, a4, a5, a6, by rw [grid_eq a1 hNm hl]⟩⟩
    injection e1 with e1
    injection e2 with e2
    injection e3 with e3
    subst e1 e2 e3
    rfl
  · exact .inl ⟨⟨dw, dh, m, rfl, h1, h2, h3, fun _ => rfl, fun w h k e1 e2 e3 a1 a2 a3 a4 a5 a6 => absurd ⟨w, h, k, e1, e2, e3, a1, a2, a3, a4, a5, a6⟩ hb⟩, .inl ⟨hb, rfl⟩⟩
theorem tell_side {K : PySem.W.Frag} {C CN : Addr} {H : Hp} {d m : D} (h1 : Th H d) (h2 : Th H m) : (R_sidedw K C CN [d, m] H (.err CN none) ∧ SideP d m nmb) ∨ ∃ ms PT, R_sidedw K C CN [d, m] H (.ret (webP K C ms PT)) ∧ ∀ l, PT l → SideP d m (wD ms l) := by
  by_cases hb : SidG d m
  · obtain ⟨⟨zs, rfl, a1, a2, a3, a4⟩, k, rfl, a5, a6⟩ := hb
    refine .inr ⟨List.replicate zs.sum.toNat k, fun l => l = (pairsL zs.sum.toNat).filter (sideB (sidesF 0 zs)), ⟨_, _, rfl, h1, h2, fun h => absurd ⟨⟨zs, rfl, a1, a2, a3, a4⟩, k, rfl, a5, a6⟩ h, fun zs' k' e1 e3 _ _ _ _ _ _ => ?_⟩, fun l hl => .inr ⟨zs, k, rfl, rfl, a1, a2, a3, a4, a5, a6, by rw [show l = _ from hl]⟩⟩
    injection e1 with e1
    injection e3 with e3
    have e1' : zs = zs' := map_inj2 (fun a b h => by injection h) e1
    subst e1' e3
    rfl
  · exact .inl ⟨⟨d, m, rfl, h1, h2, fun _ => rfl, fun zs k e1 e3 a1 a2 a3 a4 a5 a6 => absurd ⟨⟨zs, e1, a1, a2, a3, a4⟩, k, e3, a5, a6⟩ hb⟩, .inl ⟨hb, rfl⟩⟩
end W1

set_option maxRecDepth 100000
set_option maxHeartbeats 4000000
/-! the makers judged: the reading -/
namespace W1
open PySem PyProof.Rows L2
local macro_rules | `(tactic| walk_at "rp") => `(tactic| first | assumption | exact Rp.int _ | exact Rp.bl _ | exact Rp.str _ | exact Rp.non | exact Rp.obj _ | (refine Rp.le (by assumption) ?_; walk_at "rp"))
local macro_rules | `(tactic| walk_at "ed") => `(tactic| first
  | exact ed_int | exact ed_str | exact ed_bl | exact ed_non
  | (refine ed_var rfl ?_; walk_at "rp")
  | (refine ed_ixT (ds := [_, _]) ?_ ed_int (by decide) rfl; walk_at "ed")
  | (refine ed_I0 ?_ ?_ <;> walk_at "ed")
  | (refine ed_B0 ?_ ?_ <;> walk_at "ed")
  | (refine ed_eqS ?_ ?_ rfl rfl rfl <;> walk_at "ed")
  | assumption)
local macro_rules | `(tactic| walk_at "ea") => `(tactic| first | exact ea_nil | (refine ea_cons ?_ ?_; walk_at "ed"; walk_at "ea"))

theorem q_asgL1 {te : TE} {tz : TS} {i : Nat} {D1 : Ends} {σ : L2.St} {H : Hp} (h : te σ H fun v H1 => [v].length ≤ sizeLine ∧ ∀ p, H1 p = none → tz D1 (σ.set i (some (.ref p))) (upd H1 p (.lst [v]))) : tSeq (tAsg (tLst (tCons te tNil)) (gName i)) tz D1 σ H := h
theorem q_appR {K : PySem.W.Frag} {te : TE} {tz : TS} {i : Nat} {D1 : Ends} {σ : L2.St} {H : Hp} {l : Addr} {vs : List V} (hs : σ[i]? = some (some (.ref l))) (hl : H l = some (.lst vs)) (h : te σ H fun v H2 => rAppend (.ref l) [v] H2 fun _ H3 => tz D1 σ H3) : tSeq (tDrop (tBM K "list" rAppend (tVar i) (tCons te tNil))) tz D1 σ H := ⟨.ref l, hs, .inl ⟨rfl, vs, Evl.sq_of hl⟩, h⟩
theorem app_r {l : Addr} {vs : List V} {y : V} {H2 : Hp} {Q : VK} (h : H2 l = some (.lst vs)) (z : vs.length < 100000) (q : Q .non (upd H2 l (.lst (vs ++ [y])))) : rAppend (.ref l) [y] H2 Q := ⟨l, vs, y, rfl, rfl, h, Evl.sz_lt z, q⟩
theorem leN_fresh {H H' : Hp} {p : Addr} (e : LeN H H') (h : H' p = none) : W1.noT H p = none := Le.fresh e h
def lenB : D → Bool
  | .tup xs => btw 1 8 (.int (xs.length : Int))
  | _ => false
def intO : D → Int
  | .int i => i
  | _ => 0
def sumB (xs : List D) : Bool := decide ((xs.map intO).sum < 61)
theorem sumB_int (zs : List Int) : sumB (zs.map .int) = decide (zs.sum < 61) := by
  unfold sumB
  rw [List.map_map, show (intO ∘ D.int) = id from rfl, List.map_id]
def prodB : D → D → Bool
  | .int w, .int h => decide (w * h < 61)
  | _, _ => false
section
variable {P : Program} {w : World} {K : PySem.W.Frag} {mg : Str → Option Value} {base : Heap} {C CN CG cc Pt : Addr}
theorem ok_makers (T : KTxt mg) (FW : WordF K mg base C CN CG cc Pt) (g : GDefC K mg "_law_makers_right" s__law_makers_right ["_law_hand_here"] cc)
    (G_law_draw : Def P w K mg base 1 "_law_draw" ["_law_hand_here", "_law_many"] (spD K R_draw)) (G_law_any : Def P w K mg base 2 "_law_any" ["_law_hand_here", "_law_items"] (spD K R_any)) (G_law_int : Def P w K mg base 1 "_law_int" ["_law_thing", "_law_least", "_law_most"] (spD K R_lint))
    (G_law_grid_ties : Def P w K mg base 2 "_law_grid_ties" ["_law_wide", "_law_high"] (spD K R_gties)) (G_law_side_ties : Def P w K mg base 2 "_law_side_ties" ["_law_sizes"] (spD K R_sties)) (G_law_is : Def P w K mg base 6 "_law_is" ["_law_told", "_law_due"] (spD K (R_is 5)))
    (Grow_web : DefX P w K mg base 7 "row_web" ["many", "memory"] (spX K (R_roww K C CN))) (Gring_web : DefX P w K mg base 7 "ring_web" ["many", "memory"] (spX K (R_ringw K C CN))) (Ggrid_web : DefX P w K mg base 7 "grid_web" ["wide", "high", "memory"] (spX K (R_gridw K C CN))) (Gsided_web : DefX P w K mg base 7 "sided_web" ["sizes", "memory"] (spX K (R_sidedw K C CN))) :
    Def P w K mg base 10 "_law_makers_right" ["_law_hand_here"] (spMk K Pt) := by
  refine defC g sc__law_makers_right (fun vs H Q E h => ?_) fun A outer s f H vs Q E hr h => ?_
  · obtain ⟨h, rfl, _⟩ := h
    rfl
  obtain ⟨h, rfl, hh, hT, q⟩ := h
  refine ⟨_, (pss_cons (ps_set (i := 1) sc__law_makers_right.nd rfl (Or.inl rfl) (pe_lst (pa_cons pe_non (pa_cons pe_bl (pa_cons pe_str (pa_cons (pe_tup (pa_cons pe_int pa_nil)) (pa_cons (pe_lst pa_nil) (pa_cons (pe_un un_neg pe_int) (pa_cons (pe_op op_pow pe_int pe_int) (pa_cons pe_int (pa_cons pe_int pa_nil)))))))))))
    (pss_cons (ps_set (i := 2) sc__law_makers_right.nd rfl (Or.inr rfl) (pe_def G_law_any (hr.mono (by decide)) (pa_cons (pv 0) (pa_cons (pe_lst (pa_cons (pe_op op_add pe_int (pe_def G_law_draw (hr.mono (by decide)) (pa_cons (pv 0) (pa_cons pe_int pa_nil)))) (pa_cons pe_int (pa_cons pe_int (pa_cons pe_int (pa_cons (pe_def G_law_any (hr.mono (by decide)) (pa_cons (pv 0) (pa_cons (pv 1) pa_nil))) pa_nil)))))) pa_nil))))
    (pss_cons (ps_set (i := 3) sc__law_makers_right.nd rfl (Or.inr rfl) (pe_def G_law_any (hr.mono (by decide)) (pa_cons (pv 0) (pa_cons (pe_lst (pa_cons (pe_op op_add pe_int (pe_def G_law_draw (hr.mono (by decide)) (pa_cons (pv 0) (pa_cons pe_int pa_nil)))) (pa_cons pe_int (pa_cons pe_int (pa_cons pe_bl pa_nil))))) pa_nil))))
    (pss_cons (ps_set (i := 4) sc__law_makers_right.nd rfl (Or.inr rfl) (pe_def G_law_any (hr.mono (by decide)) (pa_cons (pv 0) (pa_cons (pe_lst (pa_cons (pe_op op_add pe_int (pe_def G_law_draw (hr.mono (by decide)) (pa_cons (pv 0) (pa_cons pe_int pa_nil)))) (pa_cons pe_int (pa_cons pe_int (pa_cons pe_non pa_nil))))) pa_nil))))
    (pss_cons (ps_set (i := 5) sc__law_makers_right.nd rfl (Or.inr rfl) (pe_callTy (kc_tuple (K := K)) (by rfl) T.n_tuple boot_tuple (pa_cons (pe_lc (own := [("_law_side", 15)]) rfl sc__law_makers_right.nd (pi_range1 (by rfl) T.n_range (pa_cons (pe_op op_add pe_int (pe_def G_law_draw (hr.mono (by decide)) (pa_cons (pv 0) (pa_cons pe_int pa_nil)))) pa_nil)) (blkOk_by (N := N__law_makers_right) (sc := defScope s__law_makers_right) (by decide +kernel)) (fun _ _ _ _ _ => (pg_name (i := 15) sc__law_makers_right.nd rfl (Or.inl rfl))) (fun _ _ _ _ _ => pts_nil) (fun _ _ _ _ _ => (pe_op op_add pe_int (pe_def G_law_draw (hr.mono (by decide)) (pa_cons (pv 0) (pa_cons pe_int pa_nil)))))) pa_nil)))
    (pss_cons (ps_set (i := 5) sc__law_makers_right.nd rfl (Or.inr rfl) (pe_def G_law_any (hr.mono (by decide)) (pa_cons (pv 0) (pa_cons (pe_lst (pa_cons (pv 5) (pa_cons (pv 5) (pa_cons (pe_tup (pa_cons pe_int pa_nil)) (pa_cons (pe_tup (pa_cons pe_int (pa_cons pe_int pa_nil))) (pa_cons (pe_tup (pa_cons pe_int (pa_cons pe_int pa_nil))) (pa_cons (pe_op (kop_rep1 (K := K)) (pe_tup (pa_cons pe_int pa_nil)) pe_int) (pa_cons (pe_callTy (kc_list (K := K)) (by rfl) T.n_list boot_list (pa_cons (pv 5) pa_nil)) (pa_cons (pe_tup (pa_cons pe_bl (pa_cons pe_int pa_nil))) (pa_cons (pe_tup pa_nil) (pa_cons pe_non pa_nil))))))))))) pa_nil))))
    (pss_cons (ps_set (i := 6) sc__law_makers_right.nd rfl (Or.inr rfl) (pe_def G_law_any (hr.mono (by decide)) (pa_cons (pv 0) (pa_cons (pe_lst (pa_cons pe_int (pa_cons pe_int (pa_cons pe_int (pa_cons pe_int (pa_cons (pe_def G_law_any (hr.mono (by decide)) (pa_cons (pv 0) (pa_cons (pe_lst (pa_cons pe_int (pa_cons pe_bl (pa_cons pe_non (pa_cons (pe_un un_neg pe_int) (pa_cons pe_str pa_nil)))))) pa_nil))) pa_nil)))))) pa_nil))))
    (pss_cons (ps_par (i := 7) (j := 8) (by rfl) sc__law_makers_right.nd rfl rfl (by decide) rfl rfl (pa_cons (pe_def G_law_int (hr.mono (by decide)) (pa_cons (pv 6) (pa_cons pe_int (pa_cons pe_int pa_nil)))) (pa_cons (pe_def G_law_int (hr.mono (by decide)) (pa_cons (pv 2) (pa_cons pe_int (pa_cons pe_int pa_nil)))) pa_nil)) (by rfl))
    (pss_cons (ps_asg (pe_tup (pa_cons pe_str (pa_cons pe_str pa_nil))) (kpg_tup (K := K) (n := 2) rfl (pgs_cons (pg_name (i := 9) sc__law_makers_right.nd rfl (Or.inl rfl)) (pgs_cons (pg_name (i := 10) sc__law_makers_right.nd rfl (Or.inl rfl)) pgs_nil))))
    (Evl.pss_cut (ps_if (PW.pt (pw_and (pt_val (pv 7)) (pw_and1 (pt_val (pv 8)))))
      (pss_cons (ps_setLc (i := 11) (own := [("_law_room", 16)]) rfl sc__law_makers_right.nd rfl rfl (sw_true rfl rfl rfl (by decide +kernel)) (pi_range1 (by rfl) T.n_range (pa_cons (pe_op op_sub (pv 2) pe_int) pa_nil)) (blkOk_by (N := N__law_makers_right) (sc := defScope s__law_makers_right) (by decide +kernel)) (fun _ _ _ _ _ => (pg_name (i := 16) sc__law_makers_right.nd rfl (Or.inl rfl))) (fun _ _ _ _ _ => pts_nil) (fun _ _ _ _ _ => (pe_tup (pa_cons (pv 16) (pa_cons (pe_op op_add (pv 16) pe_int) pa_nil)))))
    (pss_cons (ps_set (i := 9) sc__law_makers_right.nd rfl (Or.inl rfl) (pe_tup (pa_cons (pe_op (kop_rep1 (K := K)) (pe_tup (pa_cons (pv 6) pa_nil)) (pv 2)) (pa_cons (pe_callTy (kc_tuple (K := K)) (by rfl) T.n_tuple boot_tuple (pa_cons (pv 11) pa_nil)) pa_nil))))
    (pss_one (ps_set (i := 10) sc__law_makers_right.nd rfl (Or.inl rfl) (pe_ifExp (pt_cmpR op_gt (pv 2) pe_int (nomark _)) (pe_tup (pa_cons (pe_op (kop_rep1 (K := K)) (pe_tup (pa_cons (pv 6) pa_nil)) (pv 2)) (pa_cons (pe_callTy (kc_tuple (K := K)) (by rfl) T.n_tuple boot_tuple (pa_cons (pe_callB (kcr_sortedP (K := K)) (by rfl) T.n_sorted boot_sorted (pa_cons (pe_op op_cat (pv 11) (pe_lst (pa_cons (pe_tup (pa_cons pe_int (pa_cons (pe_op op_sub (pv 2) pe_int) pa_nil))) pa_nil))) pa_nil)) pa_nil)) pa_nil))) (pv 10))))))
      pss_nil)
    (pss_cons (ps_asg (pe_tup (pa_cons pe_str (pa_cons pe_str pa_nil))) (kpg_tup (K := K) (n := 2) rfl (pgs_cons (pg_name (i := 12) sc__law_makers_right.nd rfl (Or.inl rfl)) (pgs_cons (pg_name (i := 13) sc__law_makers_right.nd rfl (Or.inl rfl)) pgs_nil))))
    (Evl.pss_cut (ps_if (PW.pt (pw_and (pt_val (pv 7)) (pw_and (pt_val (pe_def G_law_int (hr.mono (by decide)) (pa_cons (pv 3) (pa_cons pe_int (pa_cons pe_int pa_nil))))) (pw_and (pt_val (pe_def G_law_int (hr.mono (by decide)) (pa_cons (pv 4) (pa_cons pe_int (pa_cons pe_int pa_nil))))) (pw_and1 (pt_cmpR op_lt (pe_op op_mul (pv 3) (pv 4)) pe_int (nomark _)))))))
      (pss_one (ps_set (i := 12) sc__law_makers_right.nd rfl (Or.inl rfl) (pe_tup (pa_cons (pe_op (kop_rep1 (K := K)) (pe_tup (pa_cons (pv 6) pa_nil)) (pe_op op_mul (pv 3) (pv 4))) (pa_cons (pe_def G_law_grid_ties (hr.mono (by decide)) (pa_cons (pv 3) (pa_cons (pv 4) pa_nil))) pa_nil)))))
      pss_nil)
    (Evl.pss_cut (ps_if (PW.pt (pw_and (pt_val (pv 7)) (pw_and (pt_val (pe_callB (kc_isi (K := K)) (by rfl) T.n_isinstance boot_isinstance (pa_cons (pv 5) (pa_cons (pe_bltn (v := V.ty "tuple") (by rfl) T.n_tuple boot_tuple rfl) pa_nil)))) (pw_and1 (pt_chain op_le op_le pe_int (pe_callB (kc_len (K := K)) (by rfl) T.n_len boot_len (pa_cons (pv 5) pa_nil)) pe_int)))))
      (pss_one (ps_if (PW.pt (pw_and (pt_val (pe_callB (kc_all (K := K) rfl) (by rfl) T.n_all boot_all (pa_cons (pe_lc (own := [("_law_size", 17)]) rfl sc__law_makers_right.nd (kpi_tup (K := K) (pv 5)) (blkOk_by (N := N__law_makers_right) (sc := defScope s__law_makers_right) (by decide +kernel)) (fun _ _ _ _ _ => (pg_name (i := 17) sc__law_makers_right.nd rfl (Or.inl rfl))) (fun _ _ _ _ _ => pts_nil) (fun _ _ _ _ _ => (pe_def G_law_int (hr.mono (by decide)) (pa_cons (pv 17) (pa_cons pe_int (pa_cons pe_int pa_nil)))))) pa_nil))) (pw_and1 (pt_cmpR op_lt (pe_callB (kcr_sumT (K := K) rfl) (by rfl) T.n_sum boot_sum (pa_cons (pv 5) pa_nil)) pe_int (nomark _)))))
      (pss_one (ps_set (i := 13) sc__law_makers_right.nd rfl (Or.inl rfl) (pe_tup (pa_cons (pe_op (kop_rep1 (K := K)) (pe_tup (pa_cons (pv 6) pa_nil)) (pe_callB (kcr_sumT (K := K) rfl) (by rfl) T.n_sum boot_sum (pa_cons (pv 5) pa_nil))) (pa_cons (pe_def G_law_side_ties (hr.mono (by decide)) (pa_cons (pv 5) pa_nil)) pa_nil)))))
      pss_nil))
      pss_nil)
    (pss_cons (ps_set (i := 14) sc__law_makers_right.nd rfl (Or.inl rfl) (pe_lst (pa_cons (pe_word (k := 7) FW rfl (hr.mono (by decide)) (LamX.lamS_by (sc := defScope s__law_makers_right) (by decide +kernel)) (fun A outer s H E f c' hr2 => (pe_defX Grow_web (hr2.mono (by decide)) (passes_call (takes_of rfl rfl rfl rfl) (fun _ _ _ _ h => h)) (pa_cons (pv 2) (pa_cons (pv 6) pa_nil))))) pa_nil)))
    (pss_cons (ps_expr (pe_bm PySem.F.plainAttrs_list PySem.F.slot_list_append PySem.F.type_list_append mt_append (pv 14) (pa_cons (pe_word (k := 7) FW rfl (hr.mono (by decide)) (LamX.lamS_by (sc := defScope s__law_makers_right) (by decide +kernel)) (fun A outer s H E f c' hr2 => (pe_defX Gring_web (hr2.mono (by decide)) (passes_call (takes_of rfl rfl rfl rfl) (fun _ _ _ _ h => h)) (pa_cons (pv 2) (pa_cons (pv 6) pa_nil))))) pa_nil)))
    (pss_cons (ps_expr (pe_bm PySem.F.plainAttrs_list PySem.F.slot_list_append PySem.F.type_list_append mt_append (pv 14) (pa_cons (pe_word (k := 7) FW rfl (hr.mono (by decide)) (LamX.lamS_by (sc := defScope s__law_makers_right) (by decide +kernel)) (fun A outer s H E f c' hr2 => (pe_defX Ggrid_web (hr2.mono (by decide)) (passes_call (takes_of rfl rfl rfl rfl) (fun _ _ _ _ h => h)) (pa_cons (pv 3) (pa_cons (pv 4) (pa_cons (pv 6) pa_nil)))))) pa_nil)))
    (pss_cons (ps_expr (pe_bm PySem.F.plainAttrs_list PySem.F.slot_list_append PySem.F.type_list_append mt_append (pv 14) (pa_cons (pe_word (k := 7) FW rfl (hr.mono (by decide)) (LamX.lamS_by (sc := defScope s__law_makers_right) (by decide +kernel)) (fun A outer s H E f c' hr2 => (pe_defX Gsided_web (hr2.mono (by decide)) (passes_call (takes_of rfl rfl rfl rfl) (fun _ _ _ _ h => h)) (pa_cons (pv 5) (pa_cons (pv 6) pa_nil))))) pa_nil)))
    (pss_one (ps_ret (pe_def G_law_is (hr.mono (by decide)) (pa_cons (pv 14) (pa_cons (pe_lst (pa_cons (pv 9) (pa_cons (pv 10) (pa_cons (pv 12) (pa_cons (pv 13) pa_nil))))) pa_nil)))))))))))))))))))))), ?_⟩
  have one : ∀ {H2 : Hp} {σ : L2.St} {m : Int}, Le H H2 → σ[0]? = some (some (.ref h)) → 1 ≤ m ∧ m ≤ 1000000 → EP K (tOp (rI0 fun i j => .int (i + j)) (tC (.int 1)) (tCall (spD K R_draw) [] E0 (tCons (tVar 0) (tCons (tC (.int m)) tNil)))) σ H2 (fun d _ => ∃ r : Int, d = .int r ∧ 1 ≤ r ∧ r < 1 + m) := fun e s hm => ep_plus (ep_draw (hh.le e) (ea_cons (ed_var s (.obj _)) (ea_cons ed_int ea_nil)) hm)
  have weakI : ∀ {H2 : Hp} {σ : L2.St} {te : TE} {m : Int}, EP K te σ H2 (fun d _ => ∃ r : Int, d = .int r ∧ 1 ≤ r ∧ r < 1 + m) → EP K te σ H2 (fun d _ => ∃ r : Int, d = .int r) := fun h => h.weak fun d H4 _ ⟨r, e, _⟩ => ⟨r, e⟩
  have intT : ∀ {H2 : Hp} {σ : L2.St} {te : TE}, EP K te σ H2 (fun d _ => ∃ r : Int, d = .int r) → EP K te σ H2 ThP := fun h => h.weak fun d H4 _ ⟨r, e⟩ => by subst e; exact .sc rfl
  have tI : ∀ {H2 : Hp} {σ : L2.St} {i : Int}, EP K (tC (.int i)) σ H2 ThP := ep_th ed_int (th_sc rfl)
  have itT : ∀ {xs : List Int}, xs.length ≤ 50000 → ∀ H, Th H (.tup (xs.map .int)) := fun hl H => th_ints hl
  -- odd
  refine q_asg (K := K) (P := AllL ThP 9) (ep_allL th_mono (ea_allC th_mono (ep_th ed_non (th_sc rfl)) (ea_allC th_mono (ep_th ed_bl (th_sc rfl)) (ea_allC th_mono (ep_th ed_str (th_sc rfl)) (ea_allC th_mono (ep_th (ed_tup (ds := [.int 3]) (ea_cons ed_int ea_nil) (by show 1 ≤ 100000; decide)) (itT (xs := [3]) (by decide)))
    (ea_allC th_mono (ep_obT (ep_lstO (P := fun ds _ => ds = []) ea_nil (fun ds H p => by rw [p]; exact Nat.zero_le _))) (ea_allC th_mono (ep_th (ed_neg ed_int) (th_sc rfl)) (ea_allC th_mono (ep_th (ed_I (f := fun i j => i ^ j.toNat) ed_int ed_int ⟨by decide, by decide, by decide⟩) (th_sc rfl)) (ea_allC th_mono tI (ea_allC th_mono tI ea_all0))))))))) (by decide) (by decide)) fun v1 d1 H1 e1 p1 r1 => ?_
  -- many
  refine q_asg (K := K) (P := ThP) (ep_anyH (n := 5) th_mono (hh.le e1) (ed_var rfl (.obj _)) (ep_allI (weakI (one e1 rfl (by decide))) (ea_allC th_mono tI (ea_allC th_mono tI (ea_allC th_mono tI (ea_allC th_mono (ep_anyH (n := 9) th_mono (hh.le e1) (ed_var rfl (.obj _)) (ep_var allL_mono rfl r1 p1) (by decide) (by decide)) ea_all0)))) (by decide)) (by decide) (by decide)) fun v2 d2 H2 e2 p2 r2 => ?_
  have e02 := e1.trans e2
  -- wide
  refine q_asg (K := K) (P := ThP) (ep_anyH (n := 4) th_mono (hh.le e02) (ed_var rfl (.obj _)) (ep_allL th_mono (ea_allC th_mono (intT (weakI (one e02 rfl (by decide)))) (ea_allC th_mono tI (ea_allC th_mono tI (ea_allC th_mono (ep_th ed_bl (th_sc rfl)) ea_all0)))) (by decide) (by decide)) (by decide) (by decide)) fun v3 d3 H3 e3 p3 r3 => ?_
  have e03 := e02.trans e3
  -- high
  refine q_asg (K := K) (P := ThP) (ep_anyH (n := 4) th_mono (hh.le e03) (ed_var rfl (.obj _)) (ep_allL th_mono (ea_allC th_mono (intT (weakI (one e03 rfl (by decide)))) (ea_allC th_mono tI (ea_allC th_mono tI (ea_allC th_mono (ep_th ed_non (th_sc rfl)) ea_all0)))) (by decide) (by decide)) (by decide) (by decide)) fun v4 d4 H4 e4 p4 r4 => ?_
  have e04 := e03.trans e4
  -- sizes
  refine q_asg (K := K) (P := fun d _ => ∃ ds, d = .tup ds ∧ ∃ zs : List Int, ds = zs.map .int ∧ zs.length ≤ 9) (ep_tupOf (EP.weak (ep_lcRn enc_int (m := 9) (fun _ => True) (EA_weak (ep_cons (one e04 rfl (by decide)) ea_nil) fun ds H2 ⟨d, r, H3, ee, _, ⟨k, ek, k1, k2⟩, er⟩ => ⟨k.toNat, by rw [ee, ek, show r = [] from er, Int.toNat_of_nonneg (by omega)], by omega⟩) (by decide) (fun _ => rfl) fun i H5 e5 => (one (e04.trans e5) rfl (by decide)).weak fun d H6 _ ⟨r, er, _⟩ => ⟨r, er, True.intro⟩) fun d H5 _ ⟨zs, ez, hz, _⟩ => ⟨_, ez, zs, rfl, hz⟩)) fun v5 d5 H5 e5 p5 r5 => ?_
  obtain ⟨_, rfl, zs0, rfl, hz0⟩ := p5
  have e05 := e04.trans e5
  have sz : ∀ {H2 : Hp} {σ : L2.St}, Le H5 H2 → σ[5]? = some (some v5) → ED K (tVar 5) σ H2 (.tup (zs0.map .int)) := fun e s => ed_var s (r5.le e)
  have two : ∀ {H2 : Hp} {σ : L2.St} {ta tb : TE} {d1 d2 : D}, ED K ta σ H2 d1 → ED K tb σ H2 d2 → sca d1 = true → sca d2 = true → EP K (tTup (tCons ta (tCons tb tNil))) σ H2 ThP := fun {H2 σ ta tb d1 d2} a b h1 h2 => ep_th (ed_tup (ds := [d1, d2]) (ea_cons a (ea_cons b ea_nil)) (by show 2 ≤ 100000; decide)) (th_scs (fun d hd => by
    simp only [List.mem_cons, List.not_mem_nil, or_false] at hd
    rcases hd with rfl | rfl
    · exact h1
    · exact h2) (by show 2 ≤ 50000; decide))
  refine q_asg (K := K) (P := ThP) (ep_anyH (n := 10) th_mono (hh.le e05) (ed_var rfl (.obj _)) (ep_allL th_mono (ea_allC th_mono (ep_th (sz (Le.refl _) rfl) (itT (by omega))) (ea_allC th_mono (ep_th (sz (Le.refl _) rfl) (itT (by omega))) (ea_allC th_mono (ep_th (ed_tup (ds := [.int 60]) (ea_cons ed_int ea_nil) (by show 1 ≤ 100000; decide)) (itT (xs := [60]) (by decide)))
    (ea_allC th_mono (two ed_int ed_int rfl rfl) (ea_allC th_mono (two ed_int ed_int rfl rfl) (ea_allC th_mono (ep_th (ed_rep1 (ds := [.int 1]) (ed_tup (ds := [.int 1]) (ea_cons ed_int ea_nil) (by show 1 ≤ 100000; decide)) ed_int (fun e => nomatch e) (by decide) (by show 1 ≤ 1000; decide)) (itT (xs := [1, 1, 1, 1, 1, 1, 1, 1, 1]) (by decide)))
    (ea_allC th_mono (ep_obT (ep_lstOfO ((sz (Le.refl _) rfl).weak fun d H6 _ p => ⟨_, p⟩))) (ea_allC th_mono (two ed_bl ed_int rfl rfl) (ea_allC th_mono (ep_th (ed_tup (ds := []) ea_nil (by decide)) (itT (xs := []) (by decide))) (ea_allC th_mono (ep_th ed_non (th_sc rfl)) ea_all0)))))))))) (by decide) (by decide)) (by decide) (by decide)) fun v5' d5 H6 e6 p5 r5' => ?_
  clear sz r5
  have e06 := e05.trans e6
  -- memory
  refine q_asg (K := K) (P := ThP) (ep_anyH (n := 5) th_mono (hh.le e06) (ed_var rfl (.obj _)) (ep_allI (ed_int.weak fun d H7 _ p => ⟨_, p⟩) (ea_allC th_mono tI (ea_allC th_mono tI (ea_allC th_mono tI (ea_allC th_mono (ep_anyH (n := 5) th_mono (hh.le e06) (ed_var rfl (.obj _)) (ep_allI (ed_int.weak fun d H7 _ p => ⟨_, p⟩) (ea_allC th_mono (ep_th ed_bl (th_sc rfl)) (ea_allC th_mono (ep_th ed_non (th_sc rfl)) (ea_allC th_mono (ep_th (ed_neg ed_int) (th_sc rfl)) (ea_allC th_mono (ep_th ed_str (th_sc rfl)) ea_all0)))) (by decide)) (by decide) (by decide)) ea_all0)))) (by decide)) (by decide) (by decide)) fun v6 d6 H7 e7 p6 r6 => ?_
  have e07 := e06.trans e7
  replace p2 := p2.le ((((e3.trans e4).trans e5).trans e6).trans e7)
  replace r2 := r2.le ((((e3.trans e4).trans e5).trans e6).trans e7)
  replace p3 := p3.le (((e4.trans e5).trans e6).trans e7)
  replace r3 := r3.le (((e4.trans e5).trans e6).trans e7)
  replace p4 := p4.le ((e5.trans e6).trans e7)
  replace r4 := r4.le ((e5.trans e6).trans e7)
  replace p5 := p5.le e7
  replace r5' := r5'.le e7
  have lint : ∀ {H2 : Hp} {σ : L2.St} {te : TE} {d : D} {l m : Int}, Le H7 H2 → ED K te σ H2 d → Th H7 d → ED K (tCall (spD K R_lint) [] E0 (tCons te (tCons (tC (.int l)) (tCons (tC (.int m)) tNil)))) σ H2 (.bl (btw l m d)) := fun {H2 σ te d l m} e h t => ed_call (ea_cons h (ea_cons ed_int (ea_cons ed_int ea_nil))) fun H3 e3 => ⟨d, l, m, rfl, (t.le (e.trans e3)).tk, rfl⟩
  refine q_par2 (K := K) (PA := fun ds _ => ds = [.bl (btw 0 30 d6), .bl (btw 1 60 d2)]) (ea_cons (lint (Le.refl _) (ed_var rfl r6) p6) (ea_cons (lint (Le.refl _) (ed_var rfl r2) p2) ea_nil)) (fun ds H8 p => by rw [p]; rfl) fun v7 v8 d7 d8 H8 e8 p r7 r8 => ?_
  injection p with pa pb
  injection pb with pb _
  subst pa pb
  have ev7 := rp_bl r7
  have ev8 := rp_bl r8
  subst ev7 ev8
  refine q_tup2 (K := K) (d1 := nmb) (d2 := nmb) (ed_tup (ds := [nmb, nmb]) (ea_cons ed_str (ea_cons ed_str ea_nil)) (by show 2 ≤ 100000; decide)) fun v9 v10 H9 e9 r9 r10 => ?_
  have e79 := e8.trans e9
  have i7 : ∀ {H2 : Hp} {σ : L2.St}, σ[7]? = some (some (.bl (btw 0 30 d6))) → EB (tB (tVar 7)) σ H2 (btw 0 30 d6) := fun s => et_B (K := K) (ed_var s (.bl _))
  have i8 : ∀ {H2 : Hp} {σ : L2.St}, σ[8]? = some (some (.bl (btw 1 60 d2))) → EB (tB (tVar 8)) σ H2 (btw 1 60 d2) := fun s => et_B (K := K) (ed_var s (.bl _))
  -- rows and rings
  refine q_cut (M := fun σ H' => ∃ x9 x10 x11 D9 D10, σ = [some (.ref h), some v1, some v2, some v3, some v4, some v5', some v6, some (.bl (btw 0 30 d6)), some (.bl (btw 1 60 d2)), some x9, some x10, x11, none, none, none, none, none, none] ∧ Le H9 H' ∧ Rp K H' x9 D9 ∧ Rp K H' x10 D10 ∧ RowP d2 d6 D9 ∧ RingP d2 d6 D10) ?_ ?_
  · refine s_ifB (b := btw 0 30 d6 && btw 1 60 d2) (eb_and (i7 rfl) fun _ => i8 rfl) (fun hb H10 e10 => ?_) fun hb H10 e10 => ?_
    · rw [Bool.and_eq_true] at hb
      obtain ⟨i, rfl, i1, i2⟩ := btw_int hb.2
      obtain ⟨k, rfl, k1, k2⟩ := btw_int hb.1
      obtain ⟨n, rfl⟩ : ∃ n : Nat, i = (n : Int) := ⟨i.toNat, by omega⟩
      have ev2 := rp_int r2
      have ev6 := rp_int r6
      subst ev2 ev6
      refine q_asgD (K := K) (d := .lst ((rowL n).map eP)) (ed_eq (ed_lcR enc_P (n := n - 1) (fun _ => true) (fun i : Nat => ((i : Int), (i : Int) + 1)) (ea_cons (ed_eq (ed_I0 (f := fun i j => i - j) (ed_var rfl (.int (n : Int))) ed_int) (congrArg D.int (by omega))) ea_nil) (by omega) (fun _ => rfl) (fun i H6 _ _ => et_yes) fun i H6 e6 hi _ => ed_tup (ds := [.int (i : Int), .int ((i : Int) + 1)]) (ea_cons (ed_var rfl (.int _)) (ea_cons (ed_I0 (f := fun i j => i + j) (ed_var rfl (.int _)) ed_int) ea_nil)) (by show 2 ≤ 100000; decide)) ?_) fun v11 H11 e11 r11 => ?_
      · rw [List.filter_eq_self.mpr (fun _ _ => rfl)]
        rfl
      have mem : ∀ {H2 : Hp} {σ : L2.St}, σ[6]? = some (some (.int k)) → σ[2]? = some (some (.int (n : Int))) → ED K (tOp (rRep1 K) (tTup (tCons (tVar 6) tNil)) (tVar 2)) σ H2 (.tup ((List.replicate n k).map .int)) := fun s6 s2 => ed_rep1m (ed_var s6 (.int _)) (ed_var s2 (.int _)) (by omega) (by omega)
      refine q_asgD (K := K) (d := wD (List.replicate n k) (rowL n)) (ed_tup (ds := [_, _]) (ea_cons (mem rfl rfl) (ea_cons (ed_tupOf (ed_var rfl r11)) ea_nil)) (by show 2 ≤ 100000; decide)) fun v9' H12 e12 q9 => ?_
      have row : RowP (.int (n : Int)) (.int k) (wD (List.replicate n k) (rowL n)) := .inr ⟨n, k, rfl, rfl, by omega, by omega, k1, k2, rfl⟩
      refine s_asg (K := K) (P := fun d _ => RingP (.int (n : Int)) (.int k) d) (ep_if (b := decide ((n : Int) > 2)) (et_test (K := K) (ed_B0 (f := fun i j => decide (i > j)) (ed_var rfl (.int _)) ed_int)) (fun hn => ?_) fun hn => ?_) fun v10' d10 H13 e13 p10 q10 => ⟨v9', v10', some v11, _, d10, rfl, ((e10.trans e11).trans e12).trans e13, q9.le e13, q10, row, p10⟩
      · rw [decide_eq_true_iff] at hn
        refine ep_tup (PA := fun ds _ => ∃ l, Srt l (ringL n) ∧ ds = [.tup ((List.replicate n k).map .int), .tup (l.map eP)]) (EA_weak (ep_cons (mem rfl rfl) (ep_cons (ep_tupOfP (ep_sortedP (ps := ringL n) (ed_eq (ed_cat (ed_var rfl (r11.le e12)) (ed_lst (ds := [eP (0, (n : Int) - 1)]) (ea_cons (ed_tup (ds := [.int 0, .int ((n : Int) - 1)]) (ea_cons ed_int (ea_cons (ed_I0 (f := fun i j => i - j) (ed_var rfl (.int _)) ed_int) ea_nil)) (by show 2 ≤ 100000; decide)) ea_nil) (by show 1 ≤ 100000; decide) rfl) ?_ ?_) ?_))) ea_nil)) ?_) (fun ds H2 ⟨l, _, e⟩ => by rw [e]; show 2 ≤ 100000; decide) fun ds H2 ⟨l, sl, e⟩ H3 _ => .inr ⟨n, k, l, rfl, rfl, by omega, by omega, k1, k2, sl, by rw [e]; rfl⟩
        · rw [List.length_map, len_rowL, List.length_singleton]
          omega
        · show Uni ((rowL n).map eP ++ [(0, (n : Int) - 1)].map eP)
          rw [← List.map_append]
          exact enc_P.un _
        · show D.lst ((rowL n).map eP ++ [(0, (n : Int) - 1)].map eP) = _
          rw [← List.map_append]
          rfl
        · rintro ds H2 ⟨a, r, H3, ee, _, pa, b, r', H4, ee', _, ⟨l, eb, sl⟩, er⟩
          exact ⟨l, sl, by rw [ee, ee', show r' = [] from er, show a = _ from pa, eb]⟩
      · rw [decide_eq_false_iff_not] at hn
        refine (ed_var rfl (r10.le ((e10.trans e11).trans e12))).weak fun d H13 _ p => .inl ⟨?_, p⟩
        cases h2 : btw 3 60 (.int (n : Int)) with
        | false => rfl
        | true =>
          rw [btw_iff] at h2
          omega
    · have hb1 : (btw 1 60 d2 && btw 0 30 d6) = false := by rw [Bool.and_comm]; exact hb
      refine ⟨v9, v10, none, _, _, rfl, e10, r9.le e10, r10.le e10, .inl ⟨hb1, rfl⟩, .inl ⟨?_, rfl⟩⟩
      cases h2 : (btw 3 60 d2 && btw 0 30 d6) with
      | false => rfl
      | true =>
        rw [Bool.and_eq_true] at h2
        obtain ⟨i, rfl, i1, i2⟩ := btw_int h2.1
        rw [btw_iff.mpr ⟨by omega, i2⟩, h2.2] at hb1
        cases hb1
  rintro σ H10 ⟨x9, x10, x11, D9, D10, rfl, e10, q9, q10, P9, P10⟩
  clear r9 r10
  -- grids
  refine q_tup2 (K := K) (d1 := nmb) (d2 := nmb) (ed_tup (ds := [nmb, nmb]) (ea_cons ed_str (ea_cons ed_str ea_nil)) (by show 2 ≤ 100000; decide)) fun v12 v13 H11 e11 r12 r13 => ?_
  have e711 := (e79.trans e10).trans e11
  refine q_cut (M := fun σ H' => ∃ x12 D12, σ = [some (.ref h), some v1, some v2, some v3, some v4, some v5', some v6, some (.bl (btw 0 30 d6)), some (.bl (btw 1 60 d2)), some x9, some x10, x11, some x12, some v13, none, none, none, none] ∧ Le H11 H' ∧ Rp K H' x12 D12 ∧ GridP d3 d4 d6 D12) ?_ ?_
  · refine s_ifB (b := btw 0 30 d6 && (btw 1 60 d3 && (btw 1 60 d4 && prodB d3 d4))) (eb_and (i7 rfl) fun _ => eb_and (et_B (K := K) (lint e711 (ed_var rfl (r3.le e711)) p3)) fun h3 => eb_and (et_B (K := K) (lint e711 (ed_var rfl (r4.le e711)) p4)) fun h4 => ?_) (fun hb H12 e12 => ?_) fun hb H12 e12 => ?_
    · obtain ⟨a, rfl, a1, a2⟩ := btw_int h3
      obtain ⟨b, rfl, b1, b2⟩ := btw_int h4
      exact et_test (K := K) (ed_B0 (f := fun i j => decide (i < j)) (ed_I (f := fun i j => i * j) (ed_var rfl (r3.le e711)) (ed_var rfl (r4.le e711)) (.inl (by omega))) ed_int)
    · rw [Bool.and_eq_true, Bool.and_eq_true, Bool.and_eq_true] at hb
      obtain ⟨k, rfl, k1, k2⟩ := btw_int hb.1
      obtain ⟨a, rfl, a1, a2⟩ := btw_int hb.2.1
      obtain ⟨b, rfl, b1, b2⟩ := btw_int hb.2.2.1
      have hp := of_decide_eq_true (show decide (a * b < 61) = true from hb.2.2.2)
      have ev3 := rp_int r3
      have ev4 := rp_int r4
      have ev6 := rp_int r6
      subst ev3 ev4 ev6
      have pos : 1 ≤ a * b := by
        have : 1 * 1 ≤ a * b := Int.mul_le_mul a1 b1 (by decide) (by omega)
        omega
      obtain ⟨N, hN⟩ : ∃ N : Nat, a * b = (N : Int) := ⟨(a * b).toNat, by omega⟩
      refine s_asgD (K := K) (d := wD (List.replicate (a * b).toNat k) ((pairsL (a * b).toNat).filter (gridB a))) (ed_tup (ds := [_, _]) (ea_cons (ed_rep1m (n := (a * b).toNat) (ed_var rfl (.int k)) (ed_eq (ed_I (f := fun i j => i * j) (ed_var rfl (.int a)) (ed_var rfl (.int b)) (.inl (by omega))) (congrArg D.int (by omega))) (by omega) (by omega)) (ea_cons (ed_call (ea_cons (ed_var rfl (.int a)) (ea_cons (ed_var rfl (.int b)) ea_nil)) fun H13 _ => ⟨a, b, rfl, a1, b1, by omega, rfl⟩) ea_nil)) (by show 2 ≤ 100000; decide)) fun x12 H13 e13 q12 => ?_
      exact ⟨x12, _, rfl, e12.trans e13, q12, .inr ⟨a, b, k, rfl, rfl, rfl, a1, a2, b1, by omega, k1, k2, rfl⟩⟩
    · refine ⟨v12, _, rfl, e12, r12.le e12, .inl ⟨?_, rfl⟩⟩
      rintro ⟨w, h, m, rfl, rfl, rfl, a1, a2, a3, a4, a5, a6⟩
      have : h ≤ 60 := by
        have : 1 * h ≤ w * h := Int.mul_le_mul_of_nonneg_right a1 (by omega)
        omega
      rw [btw_iff.mpr ⟨a5, a6⟩, btw_iff.mpr ⟨a1, a2⟩, btw_iff.mpr ⟨a3, this⟩, show prodB (.int w) (.int h) = true from decide_eq_true (by omega)] at hb
      cases hb
  rintro σ H12 ⟨x12, D12, rfl, e12, q12, P12⟩
  clear r12
  have e712 := e711.trans e12
  -- sides
  refine q_cut (M := fun σ H' => ∃ x13 D13, σ = [some (.ref h), some v1, some v2, some v3, some v4, some v5', some v6, some (.bl (btw 0 30 d6)), some (.bl (btw 1 60 d2)), some x9, some x10, x11, some x12, some x13, none, none, none, none] ∧ Le H12 H' ∧ Rp K H' x13 D13 ∧ SideP d5 d6 D13) ?_ ?_
  · have no : ∀ {H' : Hp}, Le H12 H' → ¬ SidG d5 d6 → ∃ x13 D13, [some (.ref h), some v1, some v2, some v3, some v4, some v5', some v6, some (.bl (btw 0 30 d6)), some (.bl (btw 1 60 d2)), some x9, some x10, x11, some x12, some v13, none, none, none, none] = [some (.ref h), some v1, some v2, some v3, some v4, some v5', some v6, some (.bl (btw 0 30 d6)), some (.bl (btw 1 60 d2)), some x9, some x10, x11, some x12, some x13, none, none, none, none] ∧ Le H12 H' ∧ Rp K H' x13 D13 ∧ SideP d5 d6 D13 := fun e n => ⟨v13, nmb, rfl, e, r13.le (e12.trans e), .inl ⟨n, rfl⟩⟩
    refine s_ifB (b := btw 0 30 d6 && (tupB d5 && lenB d5)) (eb_and (i7 rfl) fun _ => eb_and (et_B (K := K) (ed_isTup (ed_var rfl (r5'.le e712)) (p5.le e712).tk)) fun h5 => ?_) (fun hb H13 e13 => ?_) fun hb H13 e13 => ?_
    · obtain ⟨xs, rfl⟩ : ∃ xs, d5 = .tup xs := by
        cases d5 with
        | tup xs => exact ⟨xs, rfl⟩
        | _ => cases h5
      exact et_test (K := K) (ed_chain (f := fun i j => decide (i ≤ j)) (g := fun i j => decide (i ≤ j)) ed_int (ed_lenT (ed_var rfl (r5'.le e712))) ed_int)
    · rw [Bool.and_eq_true, Bool.and_eq_true] at hb
      obtain ⟨k, rfl, k1, k2⟩ := btw_int hb.1
      obtain ⟨xs, rfl⟩ : ∃ xs, d5 = .tup xs := by
        cases d5 with
        | tup xs => exact ⟨xs, rfl⟩
        | _ => cases hb.2.1
      have hl : btw 1 8 (.int (xs.length : Int)) = true := hb.2.2
      rw [btw_iff] at hl
      have e713 := e712.trans e13
      have ev6 := rp_int r6
      subst ev6
      obtain ⟨hz5, hi5⟩ := p5.items
      refine s_ifB (b := xs.all (btw 1 60) && sumB xs) (eb_and (et_B (K := K) (ed_allT (g := btw 1 60) (ed_var rfl (r5'.le e713)) hz5 (fun _ => rfl) fun b v H14 e14 hb' r => lint (e713.trans e14) (ed_var rfl r) (hi5 b hb'))) fun ha => ?_) (fun hc H14 e14 => ?_) fun hc H14 e14 => no (e13.trans e14) ?_
      · obtain ⟨zs, rfl, a3⟩ := ints_of ha
        refine et_test (K := K) (ed_eq (ed_B0 (f := fun i j => decide (i < j)) (i := zs.sum) (fun H3 e3 Q q => ?_) ed_int) ?_)
        · obtain ⟨a, ys, rfl, s, rr⟩ := rp_tup (r5'.le (e713.trans e3))
          have ey := ints_rps rr
          subst ey
          exact ⟨_, rfl, a, zs, rfl, s, q _ _ H3 (Le.refl _) rfl (.int _)⟩
        · rw [sumB_int]
      · rw [Bool.and_eq_true] at hc
        obtain ⟨zs, rfl, a3⟩ := ints_of hc.1
        have hs := hc.2
        rw [sumB_int, decide_eq_true_iff] at hs
        rw [List.length_map] at hl
        have pos := sum_pos (zs := zs) fun z hz' => (a3 z hz').1
        have e714 := e713.trans e14
        refine s_asgD (K := K) (d := wD (List.replicate zs.sum.toNat k) ((pairsL zs.sum.toNat).filter (sideB (sidesF 0 zs)))) (ed_tup (ds := [_, _]) (ea_cons (ed_rep1m (n := zs.sum.toNat) (ed_var rfl (.int k)) (ed_eq (d := .int zs.sum) (fun H3 e3 Q q => ?_) (show D.int zs.sum = D.int ((zs.sum.toNat : Nat) : Int) from congrArg D.int (by omega))) (by omega) (by omega)) (ea_cons (ed_call (ea_cons (ed_var rfl (r5'.le e714)) ea_nil) fun H15 _ => ⟨zs, rfl, by omega, by omega, a3, by omega, rfl⟩) ea_nil)) (by show 2 ≤ 100000; decide)) fun x13 H15 e15 q13 => ?_
        · obtain ⟨a, ys, rfl, s, rr⟩ := rp_tup (r5'.le (e714.trans e3))
          have ey := ints_rps rr
          subst ey
          exact ⟨_, rfl, a, zs, rfl, s, q _ _ H3 (Le.refl _) rfl (.int _)⟩
        · exact ⟨x13, _, rfl, (e13.trans e14).trans e15, q13, .inr ⟨zs, k, rfl, rfl, by omega, by omega, a3, by omega, k1, k2, rfl⟩⟩
      · rintro ⟨⟨zs, e, a1, a2, a3, a4⟩, _⟩
        injection e with e
        subst e
        have : (zs.map D.int).all (btw 1 60) = true := by
          rw [List.all_eq_true]
          intro d hd
          obtain ⟨z, hz, rfl⟩ := List.mem_map.mp hd
          exact btw_iff.mpr (a3 z hz)
        rw [this, sumB_int, show decide (zs.sum < 61) = true from decide_eq_true (by omega)] at hc
        cases hc
    · refine no e13 ?_
      rintro ⟨⟨zs, rfl, a1, a2, a3, a4⟩, m, rfl, m0, m1⟩
      rw [btw_iff.mpr ⟨m0, m1⟩, show lenB (.tup (zs.map .int)) = true from by show btw 1 8 (.int (((zs.map D.int).length : Nat) : Int)) = true; rw [List.length_map, btw_iff]; omega] at hb
      cases hb
  rintro σ H13 ⟨x13, D13, rfl, e13, q13, P13⟩
  clear r13
  have e713 := e712.trans e13
  have hT13 : LamX.Tabs [(Pt, qLam)] H13 := tabs_le hT (e07.trans e713)
  replace q9 := q9.le ((e11.trans e12).trans e13)
  replace q10 := q10.le ((e11.trans e12).trans e13)
  replace q12 := q12.le e13
  replace r2 := r2.le e713
  replace r3 := r3.le e713
  replace r4 := r4.le e713
  replace r5' := r5'.le e713
  replace r6 := r6.le e713
  replace p2 := p2.le e713
  replace p3 := p3.le e713
  replace p4 := p4.le e713
  replace p5 := p5.le e713
  replace p6 := p6.le e713
  -- told
  refine q_asgL1 (word_rd (T := [(Pt, qLam)]) (ds := [d2, d6]) (PD := RowP d2 d6) hT13 (fun H1 e => ea_cons (ed_var rfl (r2.leN e)) (ea_cons (ed_var rfl (r6.leN e)) ea_nil)) (fun H1 e => tell_row (th_leN e p2) (th_leN e p6)) fun u1 t1 H14 e14 T14 P1 u1r => ⟨Evl.sz_of (by show 1 ≤ 100000; decide), fun l nl => ?_⟩)
  have n13 := leN_fresh e14 nl
  have eA : LeN H13 (upd H14 l (.lst [u1])) := e14.le (Le.new nl)
  have TA := tabs_le T14 (Le.new (o := .lst [u1]) nl)
  have hA : upd H14 l (.lst [u1]) l = some (.lst [u1]) := upd_same
  replace u1r := u1r.le (Le.new (o := .lst [u1]) nl)
  refine q_appR (K := K) (l := l) rfl hA (word_rd (T := [(Pt, qLam)]) (ds := [d2, d6]) (PD := RingP d2 d6) TA (fun H1 e => ea_cons (ed_var rfl (r2.leN (eA.trans e))) (ea_cons (ed_var rfl (r6.leN (eA.trans e))) ea_nil)) (fun H1 e => tell_ring (th_leN (eA.trans e) p2) (th_leN (eA.trans e) p6)) fun u2 t2 H15 e15 T15 P2 u2r => ?_)
  have hA' := e15.lst hA (notH_len (by show 1 ≠ 5; decide))
  refine app_r hA' (by show 1 < 100000; decide) ?_
  have eB : LeN H13 (upd H15 l (.lst ([u1] ++ [u2]))) := Le.mut (eA.trans e15) n13
  have TB := tabs_upd (o := .lst ([u1] ++ [u2])) T15 hA'
  have hB : upd H15 l (.lst ([u1] ++ [u2])) l = some (.lst ([u1] ++ [u2])) := upd_same
  replace u1r := (u1r.leN e15).upd (o := .lst ([u1] ++ [u2])) hA' P1.wx.noL
  replace u2r := u2r.upd (o := .lst ([u1] ++ [u2])) hA' P2.wx.noL
  refine q_appR (K := K) (l := l) rfl hB (word_rd (T := [(Pt, qLam)]) (ds := [d3, d4, d6]) (PD := GridP d3 d4 d6) TB (fun H1 e => ea_cons (ed_var rfl (r3.leN (eB.trans e))) (ea_cons (ed_var rfl (r4.leN (eB.trans e))) (ea_cons (ed_var rfl (r6.leN (eB.trans e))) ea_nil))) (fun H1 e => tell_grid (th_leN (eB.trans e) p3) (th_leN (eB.trans e) p4) (th_leN (eB.trans e) p6)) fun u3 t3 H16 e16 T16 P3 u3r => ?_)
  have hB' := e16.lst hB (notH_len (by show 2 ≠ 5; decide))
  refine app_r hB' (by show 2 < 100000; decide) ?_
  have eC : LeN H13 (upd H16 l (.lst (([u1] ++ [u2]) ++ [u3]))) := Le.mut (eB.trans e16) n13
  have TC := tabs_upd (o := .lst (([u1] ++ [u2]) ++ [u3])) T16 hB'
  have hC : upd H16 l (.lst (([u1] ++ [u2]) ++ [u3])) l = some (.lst (([u1] ++ [u2]) ++ [u3])) := upd_same
  replace u1r := (u1r.leN e16).upd (o := .lst (([u1] ++ [u2]) ++ [u3])) hB' P1.wx.noL
  replace u2r := (u2r.leN e16).upd (o := .lst (([u1] ++ [u2]) ++ [u3])) hB' P2.wx.noL
  replace u3r := u3r.upd (o := .lst (([u1] ++ [u2]) ++ [u3])) hB' P3.wx.noL
  refine q_appR (K := K) (l := l) rfl hC (word_rd (T := [(Pt, qLam)]) (ds := [d5, d6]) (PD := SideP d5 d6) TC (fun H1 e => ea_cons (ed_var rfl (r5'.leN (eC.trans e))) (ea_cons (ed_var rfl (r6.leN (eC.trans e))) ea_nil)) (fun H1 e => tell_side (th_leN (eC.trans e) p5) (th_leN (eC.trans e) p6)) fun u4 t4 H17 e17 T17 P4 u4r => ?_)
  have hC' := e17.lst hC (notH_len (by show 3 ≠ 5; decide))
  refine app_r hC' (by show 3 < 100000; decide) ?_
  have eD : LeN H13 (upd H17 l (.lst ((([u1] ++ [u2]) ++ [u3]) ++ [u4]))) := Le.mut (eC.trans e17) n13
  have TD := tabs_upd (o := .lst ((([u1] ++ [u2]) ++ [u3]) ++ [u4])) T17 hC'
  have hD : upd H17 l (.lst ((([u1] ++ [u2]) ++ [u3]) ++ [u4])) l = some (.lst ((([u1] ++ [u2]) ++ [u3]) ++ [u4])) := upd_same
  replace u1r := (u1r.leN e17).upd (o := .lst ((([u1] ++ [u2]) ++ [u3]) ++ [u4])) hC' P1.wx.noL
  replace u2r := (u2r.leN e17).upd (o := .lst ((([u1] ++ [u2]) ++ [u3]) ++ [u4])) hC' P2.wx.noL
  replace u3r := (u3r.leN e17).upd (o := .lst ((([u1] ++ [u2]) ++ [u3]) ++ [u4])) hC' P3.wx.noL
  replace u4r := u4r.upd (o := .lst ((([u1] ++ [u2]) ++ [u3]) ++ [u4])) hC' P4.wx.noL
  have s1 := P9.uniq P1
  have s2 := P10.uniq P2
  have s3 := P12.uniq P3
  have s4 := P13.uniq P4
  subst s1 s2 s3 s4
  generalize upd H17 l (.lst ((([u1] ++ [u2]) ++ [u3]) ++ [u4])) = G at *
  refine s_retD (K := K) (d := .bl true) (ed_is (n := 5) (d := .lst [D9, D10, D12, D13]) (ed_var rfl (.lst hD (notH_len (by show 4 ≠ 5; decide)) (.cons u1r (.cons u2r (.cons u3r (.cons u4r .nil)))))) (ed_lstN (ds := [D9, D10, D12, D13]) (ea_cons (ed_var rfl (q9.leN eD)) (ea_cons (ed_var rfl (q10.leN eD)) (ea_cons (ed_var rfl (q12.leN eD)) (ea_cons (ed_var rfl (q13.leN eD)) ea_nil)))) (by show 4 ≤ 100000; decide) (by show 4 ≠ 5; decide)) (dp4 P9.wx P10.wx P12.wx P13.wx)) fun z H18 e18 r18 => ?_
  have ez := rp_bl r18
  subst ez
  exact q H18 (((LeN.of (e07.trans e713)).trans eD).le e18) (tabs_le TD e18)
end
end W1

set_option maxRecDepth 100000
set_option maxHeartbeats 4000000
/-! the law -/
namespace W1
open PySem PyProof.Rows L2
local macro_rules | `(tactic| walk_at "rp") => `(tactic| first | assumption | exact Rp.int _ | exact Rp.bl _ | exact Rp.str _ | exact Rp.non | exact Rp.obj _ | (refine Rp.le (by assumption) ?_; walk_at "rp"))
local macro_rules | `(tactic| walk_at "ed") => `(tactic| first
  | exact ed_int | exact ed_str | exact ed_bl | exact ed_non
  | (refine ed_var rfl ?_; walk_at "rp")
  | (refine ed_ixT (ds := [_, _]) ?_ ed_int (by decide) rfl; walk_at "ed")
  | (refine ed_I0 ?_ ?_ <;> walk_at "ed")
  | (refine ed_B0 ?_ ?_ <;> walk_at "ed")
  | (refine ed_eqS ?_ ?_ rfl rfl rfl <;> walk_at "ed")
  | assumption)
local macro_rules | `(tactic| walk_at "ea") => `(tactic| first | exact ea_nil | (refine ea_cons ?_ ?_; walk_at "ed"; walk_at "ea"))

abbrev s_law : Stmt := topS 66
abbrev N_law : List Str := ["_law_script", "_law_hand_here", "_law_turn", "_law_parts_here", "_law_web", "_law_again", "_law_bent_here", "_law_due", "_law_told", "_law_other", "_law_room"]
theorem sc_law : FnScope N_law ["_law_script"] (defScope s_law) := ⟨rfl, rfl, rfl, by decide +kernel, rfl, by decide +kernel, by decide +kernel⟩
/-- a class's own == -/
def OQ (P : Program) (w : World) (K : PySem.W.Frag) (mg : Str → Option Value) (base : Heap) (C : Addr) (sp : Sp) : Prop := ∃ f fd, OwnC K C f ∧ FnOk P w K mg base CX0 2 f fd ["self", "other"] sp ∧ Binds K fd ["self", "other"] []
theorem kop_oeq {X : Cx} {K : PySem.W.Frag} {C : Addr} {sp : Sp} (O : OQ X.prog X.w X.K X.mg X.base C sp) (hr : Room 3 X.A) (h : X.K = K := by rfl) : OpR X (compareOp .Eq) (rOwn K false C sp) := by
  subst h
  obtain ⟨f, fd, O, F, hb⟩ := O
  exact op_ownEq O F hb (hr.mono (by decide))
theorem kop_one {X : Cx} {K : PySem.W.Frag} {C : Addr} {sp : Sp} (O : OQ X.prog X.w X.K X.mg X.base C sp) (hr : Room 3 X.A) (h : X.K = K := by rfl) : OpR X (compareOp .NotEq) (rOwn K true C sp) := by
  subst h
  obtain ⟨f, fd, O, F, hb⟩ := O
  exact op_ownNe O F hb hr
/-- what is known of the two classes -/
structure LawO (K : PySem.W.Frag) (C CP : Addr) : Prop where
  ow : OwnT K C
  op : OwnT K CP
  nWP : PySem.W.notFirst K C (.ref CP) = true
  nPW : PySem.W.notFirst K CP (.ref C) = true
  nWt : PySem.W.notFirst K C (.type "tuple") = true
  nWi : PySem.W.notFirst K C (.type "int") = true
  kPW : PySem.W.kitOne K (.ref CP) (.ref C) = some false
  kWP : PySem.W.kitOne K (.ref C) (.ref CP) = some false
  ktW : PySem.W.kitOne K (.type "tuple") (.ref C) = some false
  kiW : PySem.W.kitOne K (.type "int") (.ref C) = some false
theorem notFirst_self (K : PySem.W.Frag) (C : Addr) : PySem.W.notFirst K C (.ref C) = true := by
  unfold PySem.W.notFirst
  simp
section
variable {K : PySem.W.Frag} {σ : L2.St} {H : Hp} {ta tb : TE} {C CP a b : Addr} {ms ms2 : List Int} {ties ties2 : List (Int × Int)}
theorem webAt_ins (x : WebAt K C H a ms ties) : ∃ dx fs, H a = some (.ins C dx fs) := by
  obtain ⟨dx, m, t, n, h, _⟩ := x.ob
  exact ⟨dx, _, h⟩
theorem ep_ifA {t : TT} {P : Pd} (h : ET t σ H fun _ => True) (h1 : EP K ta σ H P) (h2 : EP K tb σ H P) : EP K (tIf t ta tb) σ H P := fun H1 e Q q => h H1 e _ fun x H2 e2 _ => by
  cases x with
  | true =>
    show ta σ H2 Q
    exact h1 H2 (e.trans e2) Q fun v d H3 e3 p3 r3 => q v d H3 (e2.trans e3) p3 r3
  | false =>
    show tb σ H2 Q
    exact h2 H2 (e.trans e2) Q fun v d H3 e3 p3 r3 => q v d H3 (e2.trans e3) p3 r3
theorem s_ifOr2 {t1 t2 t3 : TT} {tu : TS} {D1 : Ends} (h1 : EB t1 σ H false) (h2 : ∀ H1, Le H H1 → EB t2 σ H1 false) (h3 : ∀ H1, Le H H1 → t3 σ H1 fun b H2 => if b = true then tu D1 σ H2 else D1.nx σ H2) : tIfS (tOr t1 (tOr t2 t3)) tu tNext D1 σ H := h1 H (Le.refl _) _ fun x H1 e1 p => by
  subst p
  exact h2 H1 e1 H1 (Le.refl _) _ fun y H2 e2 p => by
    subst p
    exact h3 H2 (e1.trans e2)
theorem ep_ofF {PL : List D → Prop} (h : EF K ta σ H PL) : EP K ta σ H (fun d _ => ∃ ds, d = .lst ds ∧ PL ds) := fun H1 e Q q => h H1 e Q fun p vs ds H2 np e2 hp nh rr pl => q (.ref p) (.lst ds) H2 e2 ⟨ds, rfl, pl⟩ (.lst hp nh rr)
theorem near_sort {ms : List Int} {ties : List (Int × Int)} {r : Int} {ns : List Int} (ok : PartsOk ms ties) (n : Near ties r ns) : ns = rawNear ties r := by
  refine List.Perm.eq_of_pairwise (le := (· ≤ ·)) (fun a b _ _ h1 h2 => Int.le_antisymm h1 h2) n.up ?_ n.perm
  unfold rawNear
  rw [List.pairwise_map]
  have up : ties.Pairwise W1.ltP := (pairs_up ms.length ms.length).sublist ok.sub
  have m : ∀ p ∈ ties, p.1 < p.2 := fun p hp => (mem_pairsL.mp (ok.sub.subset hp)).2.1
  refine (List.Pairwise.imp_of_mem (S := fun p q => p.1 + p.2 - r ≤ q.1 + q.2 - r) (fun {p q} hp hq h => ?_) (up.filter _))
  rw [List.mem_filter, decide_eq_true_iff] at hp hq
  have m1 := m p hp.1
  have m2 := m q hq.1
  have h1 := hp.2
  have h2 := hq.2
  simp only [List.mem_cons, List.not_mem_nil, or_false] at h1 h2
  unfold W1.ltP at h
  omega
theorem resD_sca (dm dt : D) : sca (resD dm dt) = true := by
  unfold resD partD
  split
  · unfold tiesPart
    split
    · cases firstBad (lenD dm) _ with
      | none => rfl
      | some i => rfl
    · rfl
  · rfl
def isNon : D → Bool
  | .non => true
  | _ => false
theorem isNon_eq {d : D} (h : isNon d = true) : d = .non := by
  cases d <;> first | rfl | cases h
theorem ed_isNB {d1 : D} (ha : ED K ta σ H d1) (n : ∀ v, d1 ≠ .obj v) : ED K (tOp (fun x y H Q => y = .non ∧ Q (.bl (decide (x = .non))) H) ta (tC .non)) σ H (.bl (isNon d1)) := ed_eq (ed_isN ha n) (by cases d1 <;> rfl)
theorem dp_sca {d : D} (h : sca d = true) : Dp 5 d := by
  cases d <;> first | exact True.intro | cases h
theorem sca_obj {d : D} (h : sca d = true) : ∀ v, d ≠ .obj v := fun v e => by
  rw [e] at h
  cases h
theorem resD_non {dm dt : D} (h : resD dm dt = .non) : ∃ ms ties, dm = .tup (List.map D.int ms) ∧ dt = .tup (List.map eP ties) ∧ PartsOk ms ties := by
  refine part_good ?_
  unfold resD at h
  cases hp : partD dm dt with
  | none => rfl
  | some x =>
    exfalso
    rw [hp] at h
    have e : x = .non := h
    subst e
    unfold partD tiesPart at hp
    split at hp
    · split at hp
      · cases hf : firstBad (lenD dm) _ with
        | none =>
          rw [hf] at hp
          cases hp
        | some i =>
          rw [hf] at hp
          cases hp
      · cases hp
    · cases hp
/-- two webs -/
theorem ed_webCmp (neg : Bool) (O : OwnT K C) (h1 : EP K ta σ H fun d H => ∃ a, d = .obj (.ref a) ∧ WebAt K C H a ms ties) (h2 : EP K tb σ H fun d H => ∃ b, d = .obj (.ref b) ∧ WebAt K C H b ms2 ties2) : ED K (tOp (rOwn K neg C (spEqW K C)) ta tb) σ H (.bl (if neg then !eqW ms ties ms2 ties2 else eqW ms ties ms2 ties2)) :=
  ep_op h1 h2 fun x y d1 d2 H1 H2 _ e12 p1 p2 r1 r2 Q q => by
    obtain ⟨a, rfl, x1⟩ := p1
    obtain ⟨b, rfl, x2⟩ := p2
    have ea := rp_obj r1
    have eb := rp_obj r2
    subst ea eb
    have x1' := x1.le e12
    obtain ⟨dx, fs, i1⟩ := webAt_ins x1'
    obtain ⟨dy, fy, i2⟩ := webAt_ins x2
    exact ⟨a, dx, fs, .ref C, rfl, i1, O.ty i2, notFirst_self K C, a, ms, ties, .ref b, rfl, x1', .inl ⟨b, ms2, ties2, rfl, x2, fun H' e => ⟨_, rfl, q _ _ H' e rfl (.bl _)⟩⟩⟩
/-- a web and something else -/
theorem ed_webNo (neg : Bool) {P2 : Pd} {t : Value} (h1 : EP K ta σ H fun d H => ∃ a, d = .obj (.ref a) ∧ WebAt K C H a ms ties) (h2 : EP K tb σ H P2) (hP : ∀ d H v, P2 d H → Rp K H v d → TyX K H v t) (hn : PySem.W.notFirst K C t = true) (hk : PySem.W.kitOne K t (.ref C) = some false) : ED K (tOp (rOwn K neg C (spEqW K C)) ta tb) σ H (.bl neg) :=
  ep_op h1 h2 fun x y d1 d2 H1 H2 _ e12 p1 p2 r1 r2 Q q => by
    obtain ⟨a, rfl, x1⟩ := p1
    have ea := rp_obj r1
    subst ea
    have x1' := x1.le e12
    obtain ⟨dx, fs, i1⟩ := webAt_ins x1'
    have ty := hP _ _ _ p2 r2
    exact ⟨a, dx, fs, t, rfl, i1, ty, hn, a, ms, ties, y, rfl, x1', .inr ⟨t, ty, hk, fun H' e => ⟨_, rfl, q _ _ H' e (by cases neg <;> rfl) (.bl _)⟩⟩⟩
/-- a program and something else -/
theorem ed_progNo (neg : Bool) {P2 : Pd} {t : Value} (h1 : EP K ta σ H fun d H => ∃ a dx fs, d = .obj (.ref a) ∧ H a = some (.ins CP dx fs)) (h2 : EP K tb σ H P2) (hP : ∀ d H v, P2 d H → Rp K H v d → TyX K H v t) (hn : PySem.W.notFirst K CP t = true) (hk : PySem.W.kitOne K t (.ref CP) = some false) : ED K (tOp (rOwn K neg CP (spEqP K CP)) ta tb) σ H (.bl neg) :=
  ep_op h1 h2 fun x y d1 d2 H1 H2 _ e12 p1 p2 r1 r2 Q q => by
    obtain ⟨a, dx, fs, rfl, i1⟩ := p1
    have ea := rp_obj r1
    subst ea
    have ty := hP _ _ _ p2 r2
    exact ⟨a, dx, fs, t, rfl, e12.ins i1, ty, hn, a, y, t, rfl, ty, hk, fun H' e => ⟨_, rfl, q _ _ H' e (by cases neg <;> rfl) (.bl _)⟩⟩
end
theorem sqL_le {K : PySem.W.Frag} {H H' : Hp} {a : Addr} {ns : List Int} (e : Le H H') (h : SqL K H a (ns.map V.int)) : SqL K H' a (ns.map V.int) := by
  rcases h with (h | ⟨o, h⟩) | h
  · exact .inl (.inl (e.lst h (notH_ints _)))
  · exact .inl (.inr ⟨o, e.frz h⟩)
  · exact .inr h
def spLaw (K : PySem.W.Frag) (Pt : Addr) : Sp := fun vs H Q _ => ∃ (a : Addr) (ns : List Int), vs = [.ref a] ∧ SqL K H a (ns.map V.int) ∧ ns.length ≤ 63 ∧ LamX.Tabs [(Pt, qLam)] H ∧ ∀ H', Q (.bl true) H'
section
variable {P : Program} {w : World} {K : PySem.W.Frag} {mg : Str → Option Value} {base : Heap} {C CB CP Pt : Addr}
theorem ok_law {f : Addr} {fd : FuncData} (T : KTxt mg) (W : WTxt K C) (M : WMk P w K mg base C CB) (MP : PMkP P w K mg base CP) (LO : LawO K C CP) (OW : OQ P w K mg base C (spEqW K C)) (OP : OQ P w K mg base CP (spEqP K CP)) (F : Fun K "law" "law" s_law f fd)
    (G_law_hand : Def P w K mg base 1 "_law_hand" ["_law_script"] (spD K (R_hand K))) (G_law_draw : Def P w K mg base 1 "_law_draw" ["_law_hand_here", "_law_many"] (spD K R_draw)) (G_law_parts : Def P w K mg base 2 "_law_parts" ["_law_hand_here", "_law_most", "_law_memory"] (spD K R_parts))
    (G_law_made : Def P w K mg base 7 "_law_made" ["_law_parts_here"] (spD K (R_made K C))) (G_law_is : Def P w K mg base 6 "_law_is" ["_law_told", "_law_due"] (spD K (R_is 5))) (Gtied : Def P w K mg base 5 "tied" ["web", "room"] (spD K (R_tied K C)))
    (G_law_near : Def P w K mg base 1 "_law_near" ["_law_parts_here", "_law_room"] (spF K R_near)) (G_law_bent : Def P w K mg base 4 "_law_bent" ["_law_hand_here", "_law_parts_here"] (spD K R_bent)) (G_law_wrong : Def P w K mg base 2 "_law_wrong" ["_law_memories", "_law_ties"] (spD K R_wrong))
    (G_law_told_part : Def P w K mg base 8 "_law_told_part" ["_law_memories", "_law_ties"] (spD K R_told)) (G_law_makers_right : Def P w K mg base 10 "_law_makers_right" ["_law_hand_here"] (spMk K Pt)) : FnOk P w K mg base CX0 11 f fd ["_law_script"] (spLaw K Pt) := by
  refine F.ok sc_law (fun vs H Q E h => ?_) (fun cdv A outer s H vs Q E hr h => ?_)
  · obtain ⟨a, ns, rfl, _⟩ := h
    rfl
  obtain ⟨a, ns, rfl, hS, hl, hT, q⟩ := h
  refine ⟨_, (pss_cons (ps_set (i := 1) sc_law.nd rfl (Or.inl rfl) (pe_def G_law_hand (hr.mono (by decide)) (pa_cons (pv 0) pa_nil)))
    (pss_cons (ps_for PassesOwn.never rfl (pi_range1 (by rfl) T.n_range (pa_cons pe_int pa_nil)) (pg_name (i := 2) sc_law.nd rfl (Or.inl rfl))
      (pss_cons (ps_set (i := 3) sc_law.nd rfl (Or.inr rfl) (pe_def G_law_parts (hr.mono (by decide)) (pa_cons (pv 1) (pa_cons (pe_ifExp (pt_cmpR op_eq (pe_def G_law_draw (hr.mono (by decide)) (pa_cons (pv 1) (pa_cons pe_int pa_nil))) pe_int (nomark _)) pe_int pe_int) (pa_cons pe_int pa_nil)))))
    (pss_cons (ps_set (i := 4) sc_law.nd rfl (Or.inr rfl) (pe_def G_law_made (hr.mono (by decide)) (pa_cons (pv 3) pa_nil)))
    (pss_cons (ps_if (PW.pt (pw_or (pt_not (pt_val (pe_def G_law_is (hr.mono (by decide)) (pa_cons (pe_lst (pa_cons (kpe_fld (K := K) (pv 4) rfl) (pa_cons (kpe_fld (K := K) (pv 4) rfl) pa_nil))) (pa_cons (pe_callTy (kc_list (K := K)) (by rfl) T.n_list boot_list (pa_cons (pv 3) pa_nil)) pa_nil))))) (pw_or1 (pt_cmpR (kop_one (K := K) OW (hr.mono (by decide))) (pv 4) (pe_mkW (K := K) M (hr.mono (by decide)) passF (pa_cons (pe_ix (kix_tup (K := K)) (pv 3) pe_int (fun _ _ => rfl)) (pa_cons (pe_callTy (kc_tuple (K := K)) (by rfl) T.n_tuple boot_tuple (pa_cons (pe_callTy (kc_list (K := K)) (by rfl) T.n_list boot_list (pa_cons (pe_ix (kix_tup (K := K)) (pv 3) pe_int (fun _ _ => rfl)) pa_nil)) pa_nil)) pa_nil))) (nomark _)))))
      (pss_one (ps_ret pe_bl))
      pss_nil)
    (pss_cons (ps_if (pt_not (pt_val (pe_callB (kc_all (K := K) rfl) (by rfl) T.n_all boot_all (pa_cons (pe_lc (own := [("_law_room", 10)]) rfl sc_law.nd (pi_range1 (by rfl) T.n_range (pa_cons (pe_callB (kc_len (K := K)) (by rfl) T.n_len boot_len (pa_cons (pe_ix (kix_tup (K := K)) (pv 3) pe_int (fun _ _ => rfl)) pa_nil)) pa_nil)) (blkOk_by (N := N_law) (sc := defScope s_law) (by decide +kernel)) (fun _ _ _ _ _ => (pg_name (i := 10) sc_law.nd rfl (Or.inl rfl))) (fun _ _ _ _ _ => pts_nil) (fun _ _ _ _ _ => (pe_def G_law_is (hr.mono (by decide)) (pa_cons (pe_def Gtied (hr.mono (by decide)) (pa_cons (pv 4) (pa_cons (pv 10) pa_nil))) (pa_cons (pe_callTy (kc_tuple (K := K)) (by rfl) T.n_tuple boot_tuple (pa_cons (pe_def G_law_near (hr.mono (by decide)) (pa_cons (pv 3) (pa_cons (pv 10) pa_nil))) pa_nil)) pa_nil))))) pa_nil))))
      (pss_one (ps_ret pe_bl))
      pss_nil)
    (pss_cons (ps_for PassesOwn.never rfl (pi_range1 (by rfl) T.n_range (pa_cons pe_int pa_nil)) (pg_name (i := 5) sc_law.nd rfl (Or.inl rfl))
      (pss_cons (ps_set (i := 6) sc_law.nd rfl (Or.inl rfl) (pe_def G_law_bent (hr.mono (by decide)) (pa_cons (pv 1) (pa_cons (pv 3) pa_nil))))
    (pss_cons (ps_par (i := 7) (j := 8) (by rfl) sc_law.nd rfl rfl (by decide) rfl rfl (pa_cons (pe_def G_law_wrong (hr.mono (by decide)) (pa_cons (pe_ix (kix_tup (K := K)) (pv 6) pe_int (fun _ _ => rfl)) (pa_cons (pe_ix (kix_tup (K := K)) (pv 6) pe_int (fun _ _ => rfl)) pa_nil))) (pa_cons (pe_def G_law_told_part (hr.mono (by decide)) (pa_cons (pe_ix (kix_tup (K := K)) (pv 6) pe_int (fun _ _ => rfl)) (pa_cons (pe_ix (kix_tup (K := K)) (pv 6) pe_int (fun _ _ => rfl)) pa_nil))) pa_nil)) (by rfl))
    (pss_one (ps_if (PW.pt (pw_or (pt_not (pt_val (pe_def G_law_is (hr.mono (by decide)) (pa_cons (pv 8) (pa_cons (pv 7) pa_nil))))) (pw_or1 (PW.pt (pw_and (pt_cmpR op_isN (pv 7) pe_non (nomark _)) (pw_and1 (pt_cmpR op_ne (pe_cmpR (kop_oeq (K := K) OW (hr.mono (by decide))) (pe_mkW (K := K) M (hr.mono (by decide)) passF (pa_cons (pe_ix (kix_tup (K := K)) (pv 6) pe_int (fun _ _ => rfl)) (pa_cons (pe_ix (kix_tup (K := K)) (pv 6) pe_int (fun _ _ => rfl)) pa_nil))) (pv 4) (nomark _)) (pe_cmpR (kop_eqD (K := K) hr.units) (pv 6) (pv 3) (nomark _)) (nomark _))))))))
      (pss_one (ps_ret pe_bl))
      pss_nil)))))
    (pss_cons (ps_set (i := 9) sc_law.nd rfl (Or.inl rfl) (pe_mkP MP (hr.mono (by decide)) (pa_cons (pe_tup pa_nil) pa_nil)))
    (pss_cons (ps_if (PW.pt (pw_or (pt_cmpR (kop_oeq (K := K) OW (hr.mono (by decide))) (pv 4) (pv 9) (nomark _)) (pw_or (pt_cmpR (kop_oeq (K := K) OP (hr.mono (by decide))) (pv 9) (pv 4) (nomark _)) (pw_or (pt_not (pt_cmpR (kop_one (K := K) OW (hr.mono (by decide))) (pv 4) (pv 9) (nomark _))) (pw_or1 (pt_not (pt_cmpR (kop_one (K := K) OP (hr.mono (by decide))) (pv 9) (pv 4) (nomark _))))))))
      (pss_one (ps_ret pe_bl))
      pss_nil)
    (pss_one (ps_if (PW.pt (pw_or (pt_cmpR (kop_oeq (K := K) OW (hr.mono (by decide))) (pv 4) (pv 3) (nomark _)) (pw_or (pt_cmpR (kop_oeq (K := K) OW (hr.mono (by decide))) (pv 4) pe_int (nomark _)) (pw_or1 (pt_not (pt_val (pe_def G_law_makers_right (hr.mono (by decide)) (pa_cons (pv 1) pa_nil))))))))
      (pss_one (ps_ret pe_bl))
      pss_nil))))))))))
    (pss_one (ps_ret pe_bl)))), ?_⟩
  -- hand
  refine q_asg (K := K) (P := fun d H2 => ∃ h, d = .obj (.ref h) ∧ Hand H2 h) (ed_call (ea_cons (ed_var rfl (.obj (.ref a))) ea_nil) fun H1 e1 => ⟨a, ns, rfl, sqL_le e1 hS, hl, rfl⟩) fun v1 d H1 e1 p1 r1 => ?_
  obtain ⟨h, rfl, hh⟩ := p1
  have ev := rp_obj r1
  subst ev
  refine q_forR1 (K := K) (n := 3) (ea_cons ed_int ea_nil) (by omega) fun H2 e2 => ?_
  refine ⟨fun i σ H' => ∃ y2 y3 y4 y5 y6 y7 y8 y9 y10, σ = [some (.ref a), some (.ref h), y2, y3, y4, y5, y6, y7, y8, y9, y10] ∧ Hand H' h ∧ LamX.Tabs [(Pt, qLam)] H',
    ⟨none, none, none, none, none, none, none, none, none, rfl, hh.le e2, tabs_le hT (e1.trans e2)⟩, ?_, fun σ' H' _ => s_retD (K := K) ed_bl fun v H3 _ r => by rw [rp_bl r]; exact q H3⟩
  rintro i σ' H3 hi ⟨y2, y3, y4, y5, y6, y7, y8, y9, y10, rfl, hh3, hT3⟩
  have dr : ∀ {σ : L2.St} {H' : Hp} {n : Int}, Le H3 H' → σ[1]? = some (some (.ref h)) → 1 ≤ n ∧ n ≤ 1000000 → EP K (tCall (spD K R_draw) [] E0 (tCons (tVar 1) (tCons (tC (.int n)) tNil))) σ H' (fun d _ => ∃ r : Int, d = .int r ∧ 0 ≤ r ∧ r < n) := fun e s1 hn => ep_draw (hh3.le e) (ea_cons (ed_var s1 (.obj _)) (ea_cons ed_int ea_nil)) hn
  -- parts
  refine q_asg (K := K) (P := fun d _ => ∃ ms ties, d = eW ms ties ∧ PartsOk ms ties) (ep_call (PA := fun ds _ => ∃ m : Int, ds = [.obj (.ref h), .int m, .int 30] ∧ 1 ≤ m ∧ m ≤ 60) (EA_weak (ep_cons (P := is (.obj (.ref h))) (ed_var rfl (.obj (.ref h))) (ep_cons (P := fun d _ => ∃ m : Int, d = .int m ∧ 1 ≤ m ∧ m ≤ 60) (ep_ifA (et_eq0 (K := K) (EP.anyI (dr (Le.refl _) rfl (by omega)))) (ed_int.weak fun d _ _ p => ⟨60, p, by omega, by omega⟩) (ed_int.weak fun d _ _ p => ⟨12, p, by omega, by omega⟩)) (ep_cons (P := is (.int 30)) ed_int ea_nil))) ?_) ?_) fun v3 d3 H4 e4 p3 r3 => ?_
  · rintro ds H4 ⟨d1, t1, _, rfl, _, p1, d2, t2, _, rfl, _, ⟨m, rfl, m1, m2⟩, d3, t3, _, rfl, _, p3, rfl⟩
    exact ⟨m, by rw [show d1 = _ from p1, show d3 = _ from p3], m1, m2⟩
  · rintro ds H4 e4 ⟨m, rfl, m1, m2⟩
    exact ⟨_, ⟨h, m, 30, rfl, hh3.le e4, m1, m2, by omega, by omega, rfl⟩, fun d H5 _ ⟨ms, ties, ed, ok, _⟩ => ⟨ms, ties, ed, ok⟩⟩
  obtain ⟨ms, ties, rfl, ok⟩ := p3
  have few := ok.few
  have some1 := ok.some
  have len := ok.len
  -- web
  refine q_asg (K := K) (P := fun d H => ∃ a, d = .obj (.ref a) ∧ WebAt K C H a ms ties) (ed_call (ea_cons (ed_var rfl r3) ea_nil) fun H5 _ => ⟨ms, ties, rfl, ok, rfl⟩) fun v4 d4 H5 e5 p4 r4 => ?_
  obtain ⟨wa, rfl, x⟩ := p4
  have ev := rp_obj r4
  subst ev
  have p0 : ∀ {H' : Hp} {σ : L2.St}, Le H5 H' → σ[3]? = some (some v3) → ED K (tOp (rIxT K) (tVar 3) (tC (.int 0))) σ H' (.tup (ms.map .int)) := fun e s => ed_ixT (ds := [.tup (ms.map .int), .tup (ties.map eP)]) (ed_var s (r3.le (e5.trans e))) ed_int (by decide) rfl
  have p1 : ∀ {H' : Hp} {σ : L2.St}, Le H5 H' → σ[3]? = some (some v3) → ED K (tOp (rIxT K) (tVar 3) (tC (.int 1))) σ H' (.tup (ties.map eP)) := fun e s => ed_ixT (ds := [.tup (ms.map .int), .tup (ties.map eP)]) (ed_var s (r3.le (e5.trans e))) ed_int (by decide) rfl
  have wb : ∀ {H' : Hp} {σ : L2.St}, Le H5 H' → σ[4]? = some (some (.ref wa)) → EP K (tVar 4) σ H' (fun d H => ∃ a, d = .obj (.ref a) ∧ WebAt K C H a ms ties) := fun e s => (ed_var s (.obj (.ref wa))).weak fun d H6 e6 p => ⟨wa, p, x.le (e.trans e6)⟩
  refine q_whenB (b := false) (eb_or (a := false) (b := false) (eb_eq (eb_not (et_B (K := K) (ed_is (n := 5) (d := .lst [.tup (ms.map .int), .tup (ties.map eP)]) (ed_lst (ds := [_, _]) (ea_cons (ed_mem W x (ed_var rfl (.obj _))) (ea_cons (ed_ties W x (ed_var rfl (.obj _))) ea_nil)) (by show 2 ≤ 100000; decide) rfl) (ed_lstOfT (ds := [.tup (ms.map .int), .tup (ties.map eP)]) (ed_var rfl (r3.le e5)) (.inr fun d hd => ?_)) (dpW (by omega) (by omega))))) rfl) fun _ => eb_eq (et_test (K := K) (ed_webCmp true LO.ow (wb (Le.refl _) rfl) (ep_mkW (ea_cons (p0 (Le.refl _) rfl) (ea_cons (ed_tupOf (ed_lstOfT (p1 (Le.refl _) rfl) (enc_P.un _))) ea_nil)) ok))) (by rw [eqW_refl]; rfl)) (fun h => nomatch h) fun _ H6 e6 => ?_
  · simp only [List.mem_cons, List.not_mem_nil, or_false] at hd
    rcases hd with rfl | rfl
    · exact ⟨fun i e => (by cases e), fun v e => (by cases e)⟩
    · exact ⟨fun i e => (by cases e), fun v e => (by cases e)⟩
  -- tied
  refine q_whenB (b := false) (eb_eq (eb_not (et_B (K := K) (ed_all (bs := (List.range ms.length).map fun _ => true) (ed_eq (ed_lcR enc_bl (n := ms.length) (fun _ => true) (fun _ => true) (ea_cons (ed_eq (ed_lenT (p0 e6 rfl)) (by rw [List.length_map])) ea_nil) (by omega) (fun _ => rfl) (fun i H7 _ _ => et_yes) fun i H7 e7 hi _ => ?_) ?_)))) ?_) (fun h => nomatch h) fun _ H7 e7 => ?_
  · refine ed_is (n := 5) (d := .tup ((rawNear ties (i : Int)).map .int)) (ed_call (ea_cons (ed_var rfl (.obj (.ref wa))) (ea_cons (ed_var rfl (.int (i : Int))) ea_nil)) fun H8 e8 => ⟨wa, ms, ties, i, rfl, x.le ((e6.trans e7).trans e8), by omega, by omega, rfl⟩) ?_ (dpI (n := 3) ?_)
    · refine EP.weak (ep_tupOf (ep_ofF (ef_call (R := R_near) (ea_cons (ed_var rfl (r3.le ((e5.trans e6).trans e7))) (ea_cons (ed_var rfl (.int (i : Int))) ea_nil)) fun H8 _ => ⟨ms, ties, i, rfl, len, rfl⟩))) fun d H8 _ ⟨ds, ed, ns, es, nr⟩ => ?_
      rw [ed, es, near_sort ok nr]
    · unfold rawNear
      rw [List.length_map]
      exact Nat.le_trans (List.length_filter_le _ _) (by omega)
  · rw [List.filter_eq_self.mpr (fun _ _ => rfl)]
  · rw [Bool.not_eq_false', List.all_eq_true]
    intro b hb
    obtain ⟨_, _, rfl⟩ := List.mem_map.mp hb
    rfl
  -- bent
  have e57 := e6.trans e7
  have e37 := (e4.trans e5).trans e57
  refine q_forR1 (K := K) (n := 4) (ea_cons ed_int ea_nil) (by omega) fun H8 e8 => ?_
  refine ⟨fun j σ H' => ∃ y5 y6 y7 y8 y9 y10, σ = [some (.ref a), some (.ref h), some (.int (i : Int)), some v3, some (.ref wa), y5, y6, y7, y8, y9, y10] ∧ Le H8 H', ⟨_, _, _, _, _, _, rfl, Le.refl _⟩, ?_, ?_⟩
  · rintro j σ' H9 hj ⟨z5, z6, z7, z8, z9, z10, rfl, e9⟩
    have e39 := (e37.trans e8).trans e9
    have e59 := (e57.trans e8).trans e9
    refine q_asg (K := K) (P := PairP) (ed_call (ea_cons (ed_var rfl (.obj (.ref h))) (ea_cons (ed_var rfl (r3.le (e5.trans e59))) ea_nil)) fun H10 e10 => ⟨h, ms, ties, rfl, hh3.le (e39.trans e10), ok, rfl⟩) fun v6 d6 H10 e10 p6 r6 => ?_
    obtain ⟨dm, dt, rfl, tm, tt⟩ := p6
    have b0 : ∀ {H' : Hp} {σ : L2.St}, Le H10 H' → σ[6]? = some (some v6) → ED K (tOp (rIxT K) (tVar 6) (tC (.int 0))) σ H' dm := fun e s => ed_ixT (ds := [dm, dt]) (ed_var s (r6.le e)) ed_int (by decide) rfl
    have b1 : ∀ {H' : Hp} {σ : L2.St}, Le H10 H' → σ[6]? = some (some v6) → ED K (tOp (rIxT K) (tVar 6) (tC (.int 1))) σ H' dt := fun e s => ed_ixT (ds := [dm, dt]) (ed_var s (r6.le e)) ed_int (by decide) rfl
    refine q_par2 (K := K) (PA := fun ds _ => ds = [resD dm dt, resD dm dt]) (ea_cons (ed_call (ea_cons (b0 (Le.refl _) rfl) (ea_cons (b1 (Le.refl _) rfl) ea_nil)) fun H11 e11 => ⟨dm, dt, rfl, tm.le e11, tt.le e11, rfl⟩) (ea_cons (ed_call (ea_cons (b0 (Le.refl _) rfl) (ea_cons (b1 (Le.refl _) rfl) ea_nil)) fun H11 e11 => ⟨dm, dt, rfl, tm.le e11, tt.le e11, rfl⟩) ea_nil)) (fun ds H11 p => by rw [p]; rfl) fun v7 v8 d7 d8 H11 e11 p r7 r8 => ?_
    injection p with pa pb
    injection pb with pb _
    subst pa pb
    refine s_ifB (b := false) (eb_or (a := false) (b := false) (eb_eq (eb_not (et_B (K := K) (ed_is (n := 5) (ed_var rfl r8) (ed_var rfl r7) (dp_sca (resD_sca dm dt))))) rfl) fun _ => eb_eq (eb_and (b := false) (et_test (K := K) (ed_isNB (ed_var rfl r7) (sca_obj (resD_sca dm dt)))) fun hn => ?_) (Bool.and_false _)) (fun h => nomatch h) fun _ H12 e12 => ?_
    · have hr := isNon_eq hn
      obtain ⟨ms2, ties2, rfl, rfl, ok2⟩ := resD_non hr
      have e511 := (e59.trans e10).trans e11
      refine eb_eq (et_test (K := K) (ed_neS (d1 := .bl (eqW ms2 ties2 ms ties)) (d2 := .bl (eqW ms2 ties2 ms ties)) (ed_webCmp false LO.ow (ep_mkW (ea_cons (b0 e11 rfl) (ea_cons (b1 e11 rfl) ea_nil)) ok2) (wb e511 rfl)) (ed_eqWW (ed_var rfl (r6.le e11)) (ed_var rfl (r3.le (e5.trans e511)))) rfl rfl rfl)) ?_
      rw [decide_eq_true rfl]
      rfl
    · exact ⟨_, _, _, _, _, _, rfl, (((e9.trans e10).trans e11).trans e12)⟩
  rintro σ' H9 ⟨z5, z6, z7, z8, z9, z10, rfl, e9⟩
  have e39 := (e37.trans e8).trans e9
  have e59 := (e57.trans e8).trans e9
  -- a program
  refine q_asg (K := K) (P := fun d H => ∃ a dx fs, d = .obj (.ref a) ∧ H a = some (.ins CP dx fs)) (ep_mkP (ea_cons (ed_tup (ds := []) ea_nil (by decide)) ea_nil)) fun v9 d9 H10 e10 p9 r9 => ?_
  obtain ⟨pa, dx, fs, rfl, i9⟩ := p9
  have ev := rp_obj r9
  subst ev
  have pg : ∀ {H' : Hp} {σ : L2.St}, Le H10 H' → σ[9]? = some (some (.ref pa)) → EP K (tVar 9) σ H' (fun d H => ∃ a dx fs, d = .obj (.ref a) ∧ H a = some (.ins CP dx fs)) := fun e s => (ed_var s (.obj (.ref pa))).weak fun d H6 e6 p => ⟨pa, dx, fs, p, (e.trans e6).ins i9⟩
  have tyP : ∀ d H v, (∃ a dx fs, d = D.obj (.ref a) ∧ H a = some (.ins CP dx fs)) → Rp K H v d → TyX K H v (.ref CP) := fun d H v ⟨a, dx, fs, e, i⟩ r => by
    subst e
    rw [rp_obj r]
    exact LO.op.ty i
  have tyW : ∀ d H v, (∃ a, d = D.obj (.ref a) ∧ WebAt K C H a ms ties) → Rp K H v d → TyX K H v (.ref C) := fun d H v ⟨a, e, x⟩ r => by
    subst e
    rw [rp_obj r]
    obtain ⟨dx, fs, i⟩ := webAt_ins x
    exact LO.ow.ty i
  have e510 := e59.trans e10
  refine q_whenB (b := false) (eb_or (a := false) (b := false) (et_test (K := K) (ed_webNo false (wb e510 rfl) (pg (Le.refl _) rfl) tyP LO.nWP LO.kPW)) fun _ => eb_or (a := false) (b := false) (et_test (K := K) (ed_progNo false (pg (Le.refl _) rfl) (wb e510 rfl) tyW LO.nPW LO.kWP)) fun _ => eb_or (a := false) (b := false) (eb_eq (eb_not (et_test (K := K) (ed_webNo true (wb e510 rfl) (pg (Le.refl _) rfl) tyP LO.nWP LO.kPW))) rfl) fun _ => eb_eq (eb_not (et_test (K := K) (ed_progNo true (pg (Le.refl _) rfl) (wb e510 rfl) tyW LO.nPW LO.kWP))) rfl) (fun h => nomatch h) fun _ H11 e11 => ?_
  have e511 := e510.trans e11
  -- other things, makers
  refine s_ifOr2 (et_test (K := K) (ed_webNo (t := .type "tuple") false (wb e511 rfl) (ed_var rfl (r3.le (e5.trans e511))) (fun d H v p r => ?_) LO.nWt LO.ktW)) (fun H12 e12 => et_test (K := K) (ed_webNo (t := .type "int") false (wb (e511.trans e12) rfl) ed_int (fun d H v p r => ?_) LO.nWi LO.kiW)) fun H12 e12 => ?_
  · rw [show d = eW ms ties from p] at r
    exact tyx_of (fun u e => by cases e) r
  · rw [show d = .int 0 from p] at r
    exact tyx_of (fun u e => by cases e) r
  · have e312 := ((e39.trans e10).trans e11).trans e12
    refine ⟨.ref h, rfl, h, rfl, hh3.le e312, tabs_le hT3 e312, fun H13 eL T13 => ⟨true, rfl, ?_⟩⟩
    exact ⟨_, _, _, _, _, _, _, _, _, rfl, hand_leN eL (hh3.le e312), T13⟩
end
end W1

set_option maxRecDepth 100000
set_option maxHeartbeats 4000000
namespace W1
open PySem PySem.Spec PyProof.Rows L2
/-- what of the text a def must have -/
def Fact (K : PySem.W.Frag) (x : Str) (st : Stmt) : Prop := ∃ (f : Addr) (od an : Option Addr) (sl : Array (Option Value)) (oc kV dc pm cd ct : Value), PySem.W.nsIn K mainGlobals x = some (some (.ref f)) ∧
  K.lookup f = some ⟨oc, od, .func (PySem.W.fnOf x x (defArgs st) (defBody st) (defScope st) .none kV dc pm an cd ct), sl⟩ ∧ PySem.W.codeIn K cd x = true ∧ PySem.W.keepIn K (.ref f) = true
theorem fact_mk {K : PySem.W.Frag} {x : Str} {st : Stmt} {f : Addr} {od an : Option Addr} {sl : Array (Option Value)} {oc kV dc pm cd ct : Value} (a : PySem.W.nsIn K mainGlobals x = some (some (.ref f)))
    (l : K.lookup f = some ⟨oc, od, .func (PySem.W.fnOf x x (defArgs st) (defBody st) (defScope st) .none kV dc pm an cd ct), sl⟩) (c : PySem.W.codeIn K cd x = true) (k : PySem.W.keepIn K (.ref f) = true) : Fact K x st := ⟨f, od, an, sl, oc, kV, dc, pm, cd, ct, a, l, c, k⟩
theorem Fact.g {K : PySem.W.Frag} {h : Heap} {mg : Str → Option Value} {x : Str} {st : Stmt} {ps : List Str} (F : Fact K x st) (X : K.In h) (G : h.Ns mainGlobals mg)
    (hb : ∀ (kV doc pm : Value) (an : Option Addr) (cdv ct : Value) (us : List Value), us.length = ps.length → bindArgs (PySem.W.fnOf x x (defArgs st) (defBody st) (defScope st) .none kV doc pm an cdv ct) ⟨us, []⟩ = pure (ps.zip us)) : GDef K mg x st ps := by
  obtain ⟨f, od, an, sl, oc, kV, dc, pm, cd, ct, a, l, c, k⟩ := F
  have F := fun_mk (st := st) l c k
  exact ⟨f, _, PySem.W.mg_of X G a, F, F.binds hb⟩
def WebFact (K : PySem.W.Frag) : Prop := ∃ (C f : Addr) (od an : Option Addr) (sl : Array (Option Value)) (oc kV dc pm cd ct : Value), PySem.W.nsIn K mainGlobals "Web" = some (some (.ref C)) ∧ PySem.W.findIn K (.ref C) "__init__" = some (some (.ref f)) ∧ PySem.W.isFn K (.ref f) = true ∧
  K.lookup f = some ⟨oc, od, .func (PySem.W.fnOf "__init__" "Web.__init__" (defArgs s_Web___init__) (defBody s_Web___init__) (defScope s_Web___init__) .none kV dc pm an cd ct), sl⟩ ∧ PySem.W.codeIn K cd "Web.__init__" = true ∧ PySem.W.keepIn K (.ref f) = true ∧
  PySem.W.plainGet K C Str.empty = true ∧ PySem.W.hasDictIn K C = true ∧ PySem.W.plainOver K C = true ∧ PySem.W.findIn K (.ref C) "__setattr__" = some (some (.builtin "object.__setattr__")) ∧ PySem.W.makesIn K C = true ∧ PySem.W.keepIn K (.ref C) = true ∧
  PySem.W.findIn K (.ref C) "memories" = some none ∧ PySem.W.findIn K (.ref C) "ties" = some none ∧ PySem.W.findIn K (.ref C) "near" = some none
theorem web_mk {K : PySem.W.Frag} {C f : Addr} {od an : Option Addr} {sl : Array (Option Value)} {oc kV dc pm cd ct : Value} (aC : PySem.W.nsIn K mainGlobals "Web" = some (some (.ref C))) (ai : PySem.W.findIn K (.ref C) "__init__" = some (some (.ref f))) (ii : PySem.W.isFn K (.ref f) = true)
    (li : K.lookup f = some ⟨oc, od, .func (PySem.W.fnOf "__init__" "Web.__init__" (defArgs s_Web___init__) (defBody s_Web___init__) (defScope s_Web___init__) .none kV dc pm an cd ct), sl⟩) (ci : PySem.W.codeIn K cd "Web.__init__" = true) (ki : PySem.W.keepIn K (.ref f) = true)
    (pg : PySem.W.plainGet K C Str.empty = true) (hd : PySem.W.hasDictIn K C = true) (po : PySem.W.plainOver K C = true) (sa : PySem.W.findIn K (.ref C) "__setattr__" = some (some (.builtin "object.__setattr__"))) (mk : PySem.W.makesIn K C = true) (kc : PySem.W.keepIn K (.ref C) = true)
    (nM : PySem.W.findIn K (.ref C) "memories" = some none) (nT : PySem.W.findIn K (.ref C) "ties" = some none) (nN : PySem.W.findIn K (.ref C) "near" = some none) : WebFact K := ⟨C, f, od, an, sl, oc, kV, dc, pm, cd, ct, aC, ai, ii, li, ci, ki, pg, hd, po, sa, mk, kc, nM, nT, nN⟩
def NumFact (K : PySem.W.Frag) (x : Str) (n : Int) : Prop := ∃ u, PySem.W.nsIn K mainGlobals x = some (some u) ∧ RelV (.int n) u
theorem num_mk {K : PySem.W.Frag} {x : Str} {n : Int} {u : Value} (a : PySem.W.nsIn K mainGlobals x = some (some u)) (r : RelV (.int n) u) : NumFact K x n := ⟨u, a, r⟩
theorem NumFact.g {K : PySem.W.Frag} {h : Heap} {mg : Str → Option Value} {x : Str} {n : Int} (F : NumFact K x n) (X : K.In h) (G : h.Ns mainGlobals mg) : ∃ u, mg x = some u ∧ RelV (.int n) u := by
  obtain ⟨u, a, r⟩ := F
  exact ⟨u, PySem.W.mg_of X G a, r⟩
/-- what the written part says of an error class, told by one test -/
def clsB (K : PySem.W.Frag) (C D : Addr) : Bool :=
  decide (PySem.W.findIn K (.ref C) "__setattr__" = some (some (.builtin "object.__setattr__"))) && (decide (PySem.W.subIn K (.ref C) (.type "BaseException") = some true) && (decide (PySem.W.typeIn K (.ref C) = some (.type "type")) && (PySem.W.keepIn K (.ref C) &&
  (decide (PySem.W.findIn K (.ref C) "__getattribute__" = some (some (.builtin "BaseException.__getattribute__"))) && (decide (PySem.W.findIn K (.ref C) "__getattr__" = some none) && (PySem.W.hasDictIn K C && (decide (PySem.W.findIn K (.ref C) "__class__" = some (some (.builtin "object.__class__"))) &&
  (decide (PySem.W.specialIn K (.builtin "object.__class__") "__get__" = some (some (.builtin "getset_descriptor.__get__"))) && (decide (PySem.W.takesIn K (.builtin "object.__class__") = some true) && (decide (PySem.W.mroIn K C (.type "object") = some true) && (decide (PySem.W.mroIn K C (.ref D) = some true) &&
  (decide (PySem.W.ks_superIn K C D "__init__" = some (some (.builtin "ValueError.__init__"))) && (decide (PySem.W.subIn K (.ref C) (.type "ValueError") = some true) && decide (PySem.W.kitOne K (.ref C) (.type "ValueError") = some true))))))))))))))
structure CF (K : PySem.W.Frag) (x : Str) (C D : Addr) : Prop where
  a : PySem.W.nsIn K mainGlobals x = some (some (.ref C))
  ox : OexC K C
  xf : XfC K C
  ec : ExcC K C
  sc : PySem.W.mroIn K C (.ref D) = some true ∧ PySem.W.ks_superIn K C D "__init__" = some (some (.builtin "ValueError.__init__")) ∧ PySem.W.subIn K (.ref C) (.type "ValueError") = some true
  ve : PySem.W.kitOne K (.ref C) (.type "ValueError") = some true
theorem cf_mk {K : PySem.W.Frag} {x : Str} {C D : Addr} {nm q : Str} {N : Addr} {bs bm : List Value} {sn : List Str} {sub : List Value} {ab : Bool} {col : Option Bool} {dd : Option Addr} {k0 k1 k2 k3 k5 : Option Value} (a : PySem.W.nsIn K mainGlobals x = some (some (.ref C)))
    (lk : K.lookup C = some (excClassObj nm q C N bs bm true sn sub ab col dd k0 k1 k2 k3 k5 "ValueError.__new__")) (hb : PySem.HandSPX.refsVE bm = true) (b : clsB K C D = true) : CF K x C D := by
  unfold clsB at b
  simp only [Bool.and_eq_true, decide_eq_true_eq] at b
  obtain ⟨b1, b2, b3, b4, b5, b6, b7, b8, b9, b10, b11, b12, b13, b14, b15⟩ := b
  exact ⟨a, ⟨⟨nm, q, N, bs, bm, sn, sub, ab, col, dd, k0, k1, k2, k3, k5, lk, hb⟩, b1, b2, b3, b4⟩, ⟨b5, b6, b2, b7⟩, ⟨b5, b6, b2, b7, b8, b9, b10, b11⟩, ⟨b12, b13, b14⟩, b15⟩
structure FF (K : PySem.W.Frag) (x q f : Str) (st : Stmt) (C D : Addr) : Prop where
  c : CF K x C D
  no : PySem.W.findIn K (.ref C) f = some none
  ex : ∃ fi fd, PySem.W.findIn K (.ref C) "__init__" = some (some (.ref fi)) ∧ PySem.W.typeIn K (.ref fi) = some (.type "function") ∧ Fun K "__init__" q st fi fd
theorem ff_mk {K : PySem.W.Frag} {x q f : Str} {st : Stmt} {C D fi : Addr} {od an : Option Addr} {sl : Array (Option Value)} {oc kV dc pm cd ct : Value} (c : CF K x C D) (no : PySem.W.findIn K (.ref C) f = some none) (i : PySem.W.findIn K (.ref C) "__init__" = some (some (.ref fi))) (t : PySem.W.typeIn K (.ref fi) = some (.type "function"))
    (l : K.lookup fi = some ⟨oc, od, .func (PySem.W.fnOf "__init__" q (defArgs st) (defBody st) (defScope st) .none kV dc pm an cd ct), sl⟩) (k1 : PySem.W.codeIn K cd q = true) (k2 : PySem.W.keepIn K (.ref fi) = true) : FF K x q f st C D := ⟨c, no, fi, _, i, t, fun_mk l k1 k2⟩

/-- what the written part says of a class with its own ==, told by one test -/
def ownB (K : PySem.W.Frag) (C : Addr) : Bool :=
  decide (PySem.W.findIn K (.ref C) "__ne__" = some (some (.builtin "object.__ne__"))) && (decide (PySem.W.subIn K (.ref C) (.type "object") = some true) && (decide (PySem.W.findIn K (.ref C) "__class__" = some (some (.builtin "object.__class__"))) &&
  (decide (PySem.W.specialIn K (.builtin "object.__class__") "__get__" = some (some (.builtin "getset_descriptor.__get__"))) && (decide (PySem.W.takesIn K (.builtin "object.__class__") = some true) && (decide (PySem.W.kitOne K (.ref C) (.ref C) = some true) && decide (PySem.W.mroIn K C (.type "object") = some true))))))
structure EqF (K : PySem.W.Frag) (q : Str) (st : Stmt) (C : Addr) : Prop where
  cl : Cls K C
  b : ownB K C = true
  ex : ∃ fe fd, PySem.W.findIn K (.ref C) "__eq__" = some (some (.ref fe)) ∧ PySem.W.isFn K (.ref fe) = true ∧ Fun K "__eq__" q st fe fd
theorem eqf_mk {K : PySem.W.Frag} {q : Str} {st : Stmt} {C fe : Addr} {od an : Option Addr} {sl : Array (Option Value)} {oc kV dc pm cd ct : Value} (pg : PySem.W.plainGet K C Str.empty = true) (hd : PySem.W.hasDictIn K C = true) (po : PySem.W.plainOver K C = true) (sa : PySem.W.findIn K (.ref C) "__setattr__" = some (some (.builtin "object.__setattr__")))
    (b : ownB K C = true) (i : PySem.W.findIn K (.ref C) "__eq__" = some (some (.ref fe))) (t : PySem.W.isFn K (.ref fe) = true) (lf : K.lookup fe = some ⟨oc, od, .func (PySem.W.fnOf "__eq__" q (defArgs st) (defBody st) (defScope st) .none kV dc pm an cd ct), sl⟩) (k1 : PySem.W.codeIn K cd q = true) (k2 : PySem.W.keepIn K (.ref fe) = true) : EqF K q st C :=
  ⟨⟨pg, hd, po, sa⟩, b, fe, _, i, t, fun_mk lf k1 k2⟩
theorem EqF.own {K : PySem.W.Frag} {q : Str} {st : Stmt} {C : Addr} (e : EqF K q st C) : OwnT K C := by
  have b := e.b
  unfold ownB at b
  simp only [Bool.and_eq_true, decide_eq_true_eq] at b
  obtain ⟨_, _, b3, b4, b5, b6, b7⟩ := b
  exact ⟨e.cl, b3, b4, b5, b6, b7⟩
theorem EqF.oq {P : Program} {w : World} {K : PySem.W.Frag} {mg : Str → Option Value} {base : Heap} {q : Str} {st : Stmt} {C : Addr} {sp : Sp} (e : EqF K q st C) (hb : ∀ f fd, Fun K "__eq__" q st f fd → Binds K fd ["self", "other"] [])
    (F : ∀ f fd, Fun K "__eq__" q st f fd → FnOk P w K mg base CX0 2 f fd ["self", "other"] sp) : OQ P w K mg base C sp := by
  have b := e.b
  unfold ownB at b
  simp only [Bool.and_eq_true, decide_eq_true_eq] at b
  obtain ⟨b1, b2, _⟩ := b
  obtain ⟨fe, fd, i, t, FE⟩ := e.ex
  exact ⟨fe, fd, ⟨i, t, b1, b2⟩, F fe fd FE, hb fe fd FE⟩
def pairB (K : PySem.W.Frag) (C D : Addr) : Bool :=
  PySem.W.notFirst K C (.ref D) && (PySem.W.notFirst K D (.ref C) && (PySem.W.notFirst K C (.type "tuple") && (PySem.W.notFirst K C (.type "int") && (decide (PySem.W.kitOne K (.ref D) (.ref C) = some false) && (decide (PySem.W.kitOne K (.ref C) (.ref D) = some false) &&
  (decide (PySem.W.kitOne K (.type "tuple") (.ref C) = some false) && decide (PySem.W.kitOne K (.type "int") (.ref C) = some false)))))))
/-- a class with a making of its own -/
structure MkF (K : PySem.W.Frag) (x q : Str) (st : Stmt) (C : Addr) : Prop where
  a : PySem.W.nsIn K mainGlobals x = some (some (.ref C))
  ex : ∃ fi fd, Mk K C fi ∧ Fun K "__init__" q st fi fd
theorem mkf_mk {K : PySem.W.Frag} {x q : Str} {st : Stmt} {C fi : Addr} {od an : Option Addr} {sl : Array (Option Value)} {oc kV dc pm cd ct : Value} (a : PySem.W.nsIn K mainGlobals x = some (some (.ref C))) (m1 : PySem.W.makesIn K C = true) (m2 : PySem.W.findIn K (.ref C) "__init__" = some (some (.ref fi))) (m3 : PySem.W.isFn K (.ref fi) = true) (m4 : PySem.W.keepIn K (.ref C) = true)
    (lf : K.lookup fi = some ⟨oc, od, .func (PySem.W.fnOf "__init__" q (defArgs st) (defBody st) (defScope st) .none kV dc pm an cd ct), sl⟩) (k1 : PySem.W.codeIn K cd q = true) (k2 : PySem.W.keepIn K (.ref fi) = true) : MkF K x q st C := ⟨a, fi, _, ⟨m1, m2, m3, m4⟩, fun_mk lf k1 k2⟩
/-- a def whose code and table are told -/
structure FactC (K : PySem.W.Frag) (x : Str) (st : Stmt) (cc Pt : Addr) : Prop where
  ex : ∃ (f : Addr) (od an : Option Addr) (sl : Array (Option Value)) (oc kV dc pm ct : Value), PySem.W.nsIn K mainGlobals x = some (some (.ref f)) ∧ K.lookup f = some ⟨oc, od, .func (PySem.W.fnOf x x (defArgs st) (defBody st) (defScope st) .none kV dc pm an (.ref cc) ct), sl⟩ ∧ PySem.W.codeIn K (.ref cc) x = true ∧ PySem.W.keepIn K (.ref f) = true
  tab : ∃ (e : Value) (dd : Option Addr) (vs : Array Value) (sl : Array (Option Value)), K.lookup cc = some ⟨e, dd, .fields vs, sl⟩ ∧ vs[11]? = some (.ref Pt)
  hd : PySem.W.codeHdIn K cc Pt = true
  out : K.lookup Pt = none
theorem factC_mk {K : PySem.W.Frag} {x : Str} {st : Stmt} {f cc Pt : Addr} {od an dd : Option Addr} {sl sl2 : Array (Option Value)} {oc kV dc pm ct e : Value} {vs : Array Value} (a : PySem.W.nsIn K mainGlobals x = some (some (.ref f)))
    (lf : K.lookup f = some ⟨oc, od, .func (PySem.W.fnOf x x (defArgs st) (defBody st) (defScope st) .none kV dc pm an (.ref cc) ct), sl⟩) (c : PySem.W.codeIn K (.ref cc) x = true) (k : PySem.W.keepIn K (.ref f) = true) (lc : K.lookup cc = some ⟨e, dd, .fields vs, sl2⟩) (v : vs[11]? = some (.ref Pt)) (hd : PySem.W.codeHdIn K cc Pt = true) (out : K.lookup Pt = none) : FactC K x st cc Pt :=
  ⟨⟨f, od, an, sl, oc, kV, dc, pm, ct, a, lf, c, k⟩, ⟨e, dd, vs, sl2, lc, v⟩, hd, out⟩

theorem all_ok {l : PySem.W.OpenLaw} {w : World} {K : PySem.W.Frag} {h : Heap} {mg : Str → Option Value} {fa : Addr} {C CP CB CN C_TagError fT cda ccT cc Pt : Addr} {ocT kVT dcT pmT ctT ccl clC : Value} {odT anT cdd cld : Option Addr} {slT ccs csl : Array (Option Value)} {vsA : Array Value} {file : Str} {tf : Tok} (X : K.In h) (G : h.Ns mainGlobals mg) (hfa : mg "law" = some (.ref fa))
    (z_len : PySem.W.nsIn K mainGlobals "len" = some none)
    (z_abs : PySem.W.nsIn K mainGlobals "abs" = some none)
    (z_int : PySem.W.nsIn K mainGlobals "int" = some none)
    (z_range : PySem.W.nsIn K mainGlobals "range" = some none)
    (z_tuple : PySem.W.nsIn K mainGlobals "tuple" = some none)
    (z_list : PySem.W.nsIn K mainGlobals "list" = some none)
    (z_sorted : PySem.W.nsIn K mainGlobals "sorted" = some none)
    (z_set : PySem.W.nsIn K mainGlobals "set" = some none)
    (z_enumerate : PySem.W.nsIn K mainGlobals "enumerate" = some none)
    (z_isinstance : PySem.W.nsIn K mainGlobals "isinstance" = some none)
    (z_all : PySem.W.nsIn K mainGlobals "all" = some none)
    (z_max : PySem.W.nsIn K mainGlobals "max" = some none)
    (z_min : PySem.W.nsIn K mainGlobals "min" = some none)
    (z_bool : PySem.W.nsIn K mainGlobals "bool" = some none)
    (z_zip : PySem.W.nsIn K mainGlobals "zip" = some none)
    (z_str : PySem.W.nsIn K mainGlobals "str" = some none)
    (z_sum : PySem.W.nsIn K mainGlobals "sum" = some none)
    (z_ValueError : PySem.W.nsIn K mainGlobals "ValueError" = some none)
    (z_super : PySem.W.nsIn K mainGlobals "super" = some none)
    (v_r : NumFact K "MOST_ROOMS" 60) (v_m : NumFact K "MOST_MEMORY" 30) (v_s : NumFact K "MOST_SIDES" 8) (v_t : NumFact K "MOST_STATEMENTS" 60)
    (mW : MkF K "Web" "Web.__init__" s_Web___init__ C) (mP : MkF K "Program" "Program.__init__" s_Program___init__ CP) (eW : EqF K "Web.__eq__" s_Web___eq__ C) (eP : EqF K "Program.__eq__" s_Program___eq__ CP) (pB : pairB K C CP = true)
    (nM : PySem.W.findIn K (.ref C) "memories" = some none) (nT : PySem.W.findIn K (.ref C) "ties" = some none) (nN : PySem.W.findIn K (.ref C) "near" = some none) (nB : PySem.W.findIn K (.ref CP) "block" = some none)
    (aT : PySem.W.nsIn K mainGlobals "TagError" = some (some (.ref C_TagError))) (iT : PySem.W.findIn K (.ref C_TagError) "__init__" = some (some (.ref fT))) (tT : PySem.W.typeIn K (.ref fT) = some (.type "function"))
    (lT : K.lookup fT = some ⟨ocT, odT, .func (PySem.W.fnX "__init__" "TagError.__init__" (defArgs s_TagError___init__) (defBody s_TagError___init__) (defScope s_TagError___init__) [("__class__", ccT)] .none kVT dcT pmT anT (.ref cda) ctT), slT⟩) (kT : PySem.W.codeIn K (.ref cda) "TagError.__init__" = true)
    (lA : K.lookup cda = some ⟨ccl, cdd, .fields vsA, ccs⟩) (vA : vsA[2]? = some (.str file tf)) (fA : ((l.prog.main.file : Str) == file) = true) (lC : K.lookup ccT = some ⟨clC, cld, .cell (some (.ref C_TagError)), csl⟩)
    (cD : (PySem.W.clsIn K C_TagError).isSome = true) (opq : PySem.W.nsIn K cStatics "thirdparty.any" = some none) (top : (l.prog.main.scope.names.lookup ("super" : Str)).isSome = false)
    (c_NoNumber : CF K "NoNumber" CN C_TagError) (i_NoNumber : PySem.W.findIn K (.ref CN) "__init__" = some (some (.ref fT))) (x_NoNumber : PySem.W.exmOne K (.ref CN) (.ref C_TagError) = some true) (s_NoNumber : PySem.W.kitOne K (.ref CN) (.ref CN) = some true)
    (c_BadWeb : FF K "BadWeb" "BadWeb.__init__" "part" s_BadWeb___init__ CB C_TagError) (x_BadWeb : PySem.W.exmOne K (.ref CB) (.ref CB) = some true) (s_BadWeb : PySem.W.kitOne K (.ref CB) (.ref C_TagError) = some true)
    (h_mk : FactC K "_law_makers_right" s__law_makers_right cc Pt) (own : ∀ ga, mg "_law_makers_right" = some (.ref ga) → LamX.OwnTab K ga h)
    (h_is_integer : Fact K "is_integer" s_is_integer)
    (h_is_between : Fact K "is_between" s_is_between)
    (h_check_memories : Fact K "check_memories" s_check_memories)
    (h_check_ties : Fact K "check_ties" s_check_ties)
    (h_is_tie : Fact K "is_tie" s_is_tie)
    (h_near_lots : Fact K "near_lots" s_near_lots)
    (h_is_room : Fact K "is_room" s_is_room)
    (h_check_room : Fact K "check_room" s_check_room)
    (h_tied : Fact K "tied" s_tied)
    (h_check_number : Fact K "check_number" s_check_number)
    (h_row_ties : Fact K "row_ties" s_row_ties)
    (h_row_web : Fact K "row_web" s_row_web)
    (h_ring_web : Fact K "ring_web" s_ring_web)
    (h_grid_web : Fact K "grid_web" s_grid_web)
    (h_sided_web : Fact K "sided_web" s_sided_web)
    (h_check_sided : Fact K "check_sided" s_check_sided)
    (h_check_sizes : Fact K "check_sizes" s_check_sizes)
    (h_room_sides : Fact K "room_sides" s_room_sides)
    (h_check_block : Fact K "check_block" s_check_block)
    (h_first_wrong : Fact K "first_wrong" s_first_wrong)
    (h_count_statements : Fact K "count_statements" s_count_statements)
    (h__law_hand : Fact K "_law_hand" s__law_hand)
    (h__law_draw : Fact K "_law_draw" s__law_draw)
    (h__law_any : Fact K "_law_any" s__law_any)
    (h__law_is : Fact K "_law_is" s__law_is)
    (h__law_nested : Fact K "_law_nested" s__law_nested)
    (h__law_pairs : Fact K "_law_pairs" s__law_pairs)
    (h__law_parts : Fact K "_law_parts" s__law_parts)
    (h__law_made : Fact K "_law_made" s__law_made)
    (h__law_near : Fact K "_law_near" s__law_near)
    (h__law_int : Fact K "_law_int" s__law_int)
    (h__law_wrong : Fact K "_law_wrong" s__law_wrong)
    (h__law_told_part : Fact K "_law_told_part" s__law_told_part)
    (h__law_bent : Fact K "_law_bent" s__law_bent)
    (h__law_number_word : Fact K "_law_number_word" s__law_number_word)
    (h__law_grid_ties : Fact K "_law_grid_ties" s__law_grid_ties)
    (h__law_sides : Fact K "_law_sides" s__law_sides)
    (h__law_side_ties : Fact K "_law_side_ties" s__law_side_ties)
    (h_law : Fact K "law" s_law) :
    LamX.LawAtS l w K CX0 11 63 "_law_script" mg fa h := by
  have T : KTxt mg := ⟨⟨⟨PySem.W.mg_none_of X G z_len, PySem.W.mg_none_of X G z_abs, PySem.W.mg_none_of X G z_int, PySem.W.mg_none_of X G z_range, PySem.W.mg_none_of X G z_tuple, PySem.W.mg_none_of X G z_list, PySem.W.mg_none_of X G z_sorted, PySem.W.mg_none_of X G z_set, PySem.W.mg_none_of X G z_enumerate, PySem.W.mg_none_of X G z_isinstance, PySem.W.mg_none_of X G z_all, PySem.W.mg_none_of X G z_max, PySem.W.mg_none_of X G z_min, PySem.W.mg_none_of X G z_bool⟩, v_r.g X G, v_m.g X G⟩, PySem.W.mg_none_of X G z_zip, PySem.W.mg_none_of X G z_str, PySem.W.mg_none_of X G z_sum, PySem.W.mg_none_of X G z_ValueError, v_s.g X G, v_t.g X G⟩
  have TS : STxt mg := ⟨T.toTxt, T.n_zip⟩
  have g_is_integer := h_is_integer.g (ps := ["thing"]) X G fun _ _ _ _ _ _ us hl => match us, hl with | [_], _ => rfl
  have g_is_between := h_is_between.g (ps := ["least", "most", "thing"]) X G fun _ _ _ _ _ _ us hl => match us, hl with | [_, _, _], _ => rfl
  have g_check_memories := h_check_memories.g (ps := ["memories"]) X G fun _ _ _ _ _ _ us hl => match us, hl with | [_], _ => rfl
  have g_check_ties := h_check_ties.g (ps := ["many", "ties"]) X G fun _ _ _ _ _ _ us hl => match us, hl with | [_, _], _ => rfl
  have g_is_tie := h_is_tie.g (ps := ["many", "thing"]) X G fun _ _ _ _ _ _ us hl => match us, hl with | [_, _], _ => rfl
  have g_near_lots := h_near_lots.g (ps := ["many", "ties"]) X G fun _ _ _ _ _ _ us hl => match us, hl with | [_, _], _ => rfl
  have g_is_room := h_is_room.g (ps := ["web", "thing"]) X G fun _ _ _ _ _ _ us hl => match us, hl with | [_, _], _ => rfl
  have g_check_room := h_check_room.g (ps := ["web", "room"]) X G fun _ _ _ _ _ _ us hl => match us, hl with | [_, _], _ => rfl
  have g_tied := h_tied.g (ps := ["web", "room"]) X G fun _ _ _ _ _ _ us hl => match us, hl with | [_, _], _ => rfl
  have g_check_number := h_check_number.g (ps := ["least", "most", "thing"]) X G fun _ _ _ _ _ _ us hl => match us, hl with | [_, _, _], _ => rfl
  have g_row_ties := h_row_ties.g (ps := ["many"]) X G fun _ _ _ _ _ _ us hl => match us, hl with | [_], _ => rfl
  have g_row_web := h_row_web.g (ps := ["many", "memory"]) X G fun _ _ _ _ _ _ us hl => match us, hl with | [_, _], _ => rfl
  have g_ring_web := h_ring_web.g (ps := ["many", "memory"]) X G fun _ _ _ _ _ _ us hl => match us, hl with | [_, _], _ => rfl
  have g_grid_web := h_grid_web.g (ps := ["wide", "high", "memory"]) X G fun _ _ _ _ _ _ us hl => match us, hl with | [_, _, _], _ => rfl
  have g_sided_web := h_sided_web.g (ps := ["sizes", "memory"]) X G fun _ _ _ _ _ _ us hl => match us, hl with | [_, _], _ => rfl
  have g_check_sided := h_check_sided.g (ps := ["sizes", "memory"]) X G fun _ _ _ _ _ _ us hl => match us, hl with | [_, _], _ => rfl
  have g_check_sizes := h_check_sizes.g (ps := ["sizes"]) X G fun _ _ _ _ _ _ us hl => match us, hl with | [_], _ => rfl
  have g_room_sides := h_room_sides.g (ps := ["sizes"]) X G fun _ _ _ _ _ _ us hl => match us, hl with | [_], _ => rfl
  have g_check_block := h_check_block.g (ps := ["block"]) X G fun _ _ _ _ _ _ us hl => match us, hl with | [_], _ => rfl
  have g_first_wrong := h_first_wrong.g (ps := ["block", "depth"]) X G fun _ _ _ _ _ _ us hl => match us, hl with | [_, _], _ => rfl
  have g_count_statements := h_count_statements.g (ps := ["block"]) X G fun _ _ _ _ _ _ us hl => match us, hl with | [_], _ => rfl
  have g__law_hand := h__law_hand.g (ps := ["_law_script"]) X G fun _ _ _ _ _ _ us hl => match us, hl with | [_], _ => rfl
  have g__law_draw := h__law_draw.g (ps := ["_law_hand_here", "_law_many"]) X G fun _ _ _ _ _ _ us hl => match us, hl with | [_, _], _ => rfl
  have g__law_any := h__law_any.g (ps := ["_law_hand_here", "_law_items"]) X G fun _ _ _ _ _ _ us hl => match us, hl with | [_, _], _ => rfl
  have g__law_is := h__law_is.g (ps := ["_law_told", "_law_due"]) X G fun _ _ _ _ _ _ us hl => match us, hl with | [_, _], _ => rfl
  have g__law_nested := h__law_nested.g (ps := ["_law_hand_here"]) X G fun _ _ _ _ _ _ us hl => match us, hl with | [_], _ => rfl
  have g__law_pairs := h__law_pairs.g (ps := ["_law_many"]) X G fun _ _ _ _ _ _ us hl => match us, hl with | [_], _ => rfl
  have g__law_parts := h__law_parts.g (ps := ["_law_hand_here", "_law_most", "_law_memory"]) X G fun _ _ _ _ _ _ us hl => match us, hl with | [_, _, _], _ => rfl
  have g__law_made := h__law_made.g (ps := ["_law_parts_here"]) X G fun _ _ _ _ _ _ us hl => match us, hl with | [_], _ => rfl
  have g__law_near := h__law_near.g (ps := ["_law_parts_here", "_law_room"]) X G fun _ _ _ _ _ _ us hl => match us, hl with | [_, _], _ => rfl
  have g__law_int := h__law_int.g (ps := ["_law_thing", "_law_least", "_law_most"]) X G fun _ _ _ _ _ _ us hl => match us, hl with | [_, _, _], _ => rfl
  have g__law_wrong := h__law_wrong.g (ps := ["_law_memories", "_law_ties"]) X G fun _ _ _ _ _ _ us hl => match us, hl with | [_, _], _ => rfl
  have g__law_told_part := h__law_told_part.g (ps := ["_law_memories", "_law_ties"]) X G fun _ _ _ _ _ _ us hl => match us, hl with | [_, _], _ => rfl
  have g__law_bent := h__law_bent.g (ps := ["_law_hand_here", "_law_parts_here"]) X G fun _ _ _ _ _ _ us hl => match us, hl with | [_, _], _ => rfl
  have g__law_number_word := h__law_number_word.g (ps := ["_law_call"]) X G fun _ _ _ _ _ _ us hl => match us, hl with | [_], _ => rfl
  have g__law_grid_ties := h__law_grid_ties.g (ps := ["_law_wide", "_law_high"]) X G fun _ _ _ _ _ _ us hl => match us, hl with | [_, _], _ => rfl
  have g__law_sides := h__law_sides.g (ps := ["_law_sizes"]) X G fun _ _ _ _ _ _ us hl => match us, hl with | [_], _ => rfl
  have g__law_side_ties := h__law_side_ties.g (ps := ["_law_sizes"]) X G fun _ _ _ _ _ _ us hl => match us, hl with | [_], _ => rfl
  have W : WTxt K C := ⟨eW.cl, nM, nT, nN⟩
  have hmW := PySem.W.mg_of X G mW.a
  have hmP := PySem.W.mg_of X G mP.a
  have hmT := PySem.W.mg_of X G aT
  have LO : LawO K C CP := by
    unfold pairB at pB
    simp only [Bool.and_eq_true, decide_eq_true_eq] at pB
    obtain ⟨b1, b2, b3, b4, b5, b6, b7, b8⟩ := pB
    exact ⟨eW.own, eP.own, b1, b2, b3, b4, b5, b6, b7, b8⟩
  obtain ⟨fi, fdi, mkW, FI⟩ := mW.ex
  obtain ⟨fp, fdp, mkP, FP⟩ := mP.ex
  have bI : Binds K fdi ["self", "memories", "ties"] [] := FI.binds fun _ _ _ _ _ _ us hl => match us, hl with | [_, _, _], _ => rfl
  have bP : Binds K fdp ["self", "block"] [] := FP.binds fun _ _ _ _ _ _ us hl => match us, hl with | [_, _], _ => rfl
  obtain ⟨f, od, an, sl, oc, kV, dc, pm, cd, ct, a, lk, c, k⟩ := h_law
  have e := hfa.symm.trans (PySem.W.mg_of X G a)
  cases e
  have F := fun_mk (st := s_law) lk c k
  obtain ⟨mf, mod, man, msl, moc, mkV, mdc, mpm, mct, ma, mlk, mcd, mkp⟩ := h_mk.ex
  obtain ⟨te, tdd, tvs, tsl, tl, tv⟩ := h_mk.tab
  have hmm := PySem.W.mg_of X G ma
  have FM := fun_mk (st := s__law_makers_right) mlk mcd mkp
  have gM : GDefC K mg "_law_makers_right" s__law_makers_right ["_law_hand_here"] cc := ⟨mf, moc, mod, man, mkV, mdc, mpm, mct, msl, hmm, mlk, mcd, mkp, FM.binds fun _ _ _ _ _ _ us hl => match us, hl with | [_], _ => rfl⟩
  have empt := own mf hmm cc Pt _ _ te tdd tvs tsl mlk rfl rfl tl tv
  refine ⟨PySem.W.fnOf "law" "law" (defArgs s_law) (defBody s_law) (defScope s_law) .none kV dc pm an cd ct, [(cc, Pt)], spLaw K Pt, fun p hp => ?_, fun p hp => ?_, fun p hp => ?_, fun s v => .of_eq rfl, fun H a ns hl _ hH hS => ?_, fun base _ _ TB => ?_⟩
  · rw [List.mem_singleton.mp hp]
    exact empt
  · rw [List.mem_singleton.mp hp]
    exact h_mk.out
  · rw [List.mem_singleton.mp hp]
    exact PySem.W.codeHd_of_K X h_mk.hd
  · refine ⟨a, ns, rfl, hS, hl, fun p hp => ?_, fun _ => rfl⟩
    rw [List.mem_singleton.mp hp]
    exact LamX.TabS.nil (hH (cc, Pt) (List.mem_singleton.mpr rfl))
  have TB1 := TB (cc, Pt) (List.mem_singleton.mpr rfl)
  have S : SupF l.prog K mg C_TagError fT (PySem.W.fnX "__init__" "TagError.__init__" (defArgs s_TagError___init__) (defBody s_TagError___init__) (defScope s_TagError___init__) [("__class__", ccT)] .none kVT dcT pmT anT (.ref cda) ctT) :=
    ⟨⟨ocT, odT, slT, kVT, dcT, pmT, anT, cda, ctT, ccT, rfl, lT, kT, ⟨ccl, cdd, vsA, ccs, file, tf, lA, vA, fA⟩, ⟨clC, cld, csl, lC⟩⟩, Option.isSome_iff_exists.mp cD, opq, PySem.W.mg_none_of X G z_super, top⟩
  have ST := sup_ok (w := w) (base := base) (k := 0) S
  have bT : Binds K (PySem.W.fnX "__init__" "TagError.__init__" (defArgs s_TagError___init__) (defBody s_TagError___init__) (defScope s_TagError___init__) [("__class__", ccT)] .none kVT dcT pmT anT (.ref cda) ctT) ["self"] [] := .all fun us hl => match us, hl with | [_], _ => rfl
  have N : NC l.prog w K mg base "NoNumber" CN C_TagError := ⟨PySem.W.mg_of X G c_NoNumber.a, ⟨c_NoNumber.ox, c_NoNumber.sc.1, c_NoNumber.sc.2.1, c_NoNumber.sc.2.2⟩, ⟨c_NoNumber.ox.exC, c_NoNumber.ox.tyC⟩, fT, _, i_NoNumber, tT, ST, bT⟩
  have B : FC l.prog w K mg base "BadWeb" "part" CB := by
    obtain ⟨bi, bd, i, t, FB⟩ := c_BadWeb.ex
    exact ⟨PySem.W.mg_of X G c_BadWeb.c.a, c_BadWeb.c.ox, c_BadWeb.c.xf, c_BadWeb.no, bi, bd, i, t, ok_BadWeb FB, FB.binds fun _ _ _ _ _ _ us hl => match us, hl with | [_, _], _ => rfl⟩
  have G1 := ok_isint (P := l.prog) (w := w) (base := base) T.toTxt g_is_integer
  have G2 := ok_btw T.toTxt g_is_between G1
  have G3 := ok_cmem T.toGTxt B g_check_memories G2
  have G4 := ok_istie T.toTxt g_is_tie G2
  have G5 := ok_cties T.toGTxt B g_check_ties G4
  have G6 := ok_nlots (P := l.prog) (w := w) (base := base) T.toGTxt g_near_lots
  have M : WMk l.prog w K mg base C CB := ⟨hmW, fi, fdi, mkW, ok_web T.toGTxt W FI G3 G5 G6, bI⟩
  have G7 := ok_isroom T.toGTxt W g_is_room G2
  have G8 := ok_chroom g_check_room G7
  have G9 := ok_tied W g_tied G8
  have Q1 := ok_fw (P := l.prog) (w := w) (base := base) T.toGTxt g_first_wrong
  have Q2 := ok_cs (P := l.prog) (w := w) (base := base) T g_count_statements
  have Q3 := ok_cb T g_check_block Q1 Q2
  have MP : PMkP l.prog w K mg base CP := ⟨hmP, fp, fdp, mkP, ok_prog T.toGTxt eP.cl nB FP Q3, bP⟩
  have OW : OQ l.prog w K mg base C (spEqW K C) := eW.oq (fun f fd F => F.binds fun _ _ _ _ _ _ us hl => match us, hl with | [_, _], _ => rfl) fun f fd F => ok_webEq T.toGTxt W eW.own hmW F
  have OP : OQ l.prog w K mg base CP (spEqP K CP) := eP.oq (fun f fd F => F.binds fun _ _ _ _ _ _ us hl => match us, hl with | [_, _], _ => rfl) fun f fd F => ok_progEq T.toGTxt hmP F
  have R1 := ok_cnum T N g_check_number G2
  have R2 := ok_rowt (P := l.prog) (w := w) (base := base) T g_row_ties
  have R3 := ok_roww T M g_row_web R1 R2
  have R4 := ok_ringw T M g_ring_web R1 R2
  have R5 := ok_gridw T M g_grid_web R1
  have R6 := ok_csizes T N g_check_sizes G2 R1
  have R7 := ok_csided T g_check_sided R6 R1
  have R8 := ok_rsides (P := l.prog) (w := w) (base := base) T g_room_sides
  have R9 := ok_sidedw T M g_sided_web R7 R8
  have L1 := ok_hand (P := l.prog) (w := w) (base := base) T.toTxt g__law_hand
  have L2' := ok_draw (P := l.prog) (w := w) (base := base) T.toTxt g__law_draw
  have L3 := ok_any T.toTxt g__law_any L2'
  have L4 := ok_pairs (P := l.prog) (w := w) (base := base) T.toTxt g__law_pairs
  have L5 := ok_parts T.toTxt g__law_parts L2' L4
  have L6 := ok_made M g__law_made
  have L7 := ok_near (P := l.prog) (w := w) (base := base) T.toTxt g__law_near
  have L8 := ok_is (P := l.prog) (w := w) (base := base) TS g__law_is 5
  have L9 := ok_nested TS g__law_nested L3
  have L10 := ok_lint (P := l.prog) (w := w) (base := base) T.toTxt g__law_int
  have L11 := ok_wrong T.toTxt g__law_wrong L10
  have L12 := ok_told T W M B c_BadWeb.c.ec (PySem.W.mg_of X G c_BadWeb.c.a) hmT x_BadWeb s_BadWeb g__law_told_part L8
  have L13 := ok_bent T g__law_bent L2' L3 L9
  have L14 := ok_gties T.toTxt g__law_grid_ties L4
  have L15 := ok_sides (P := l.prog) (w := w) (base := base) T.toTxt g__law_sides
  have L16 := ok_sties T.toTxt g__law_side_ties L4 L15
  have FW : WordF K mg base C CN C_TagError cc Pt := ⟨T, W, c_NoNumber.ec, PySem.W.mg_of X G c_NoNumber.a, hmT, x_NoNumber, s_NoNumber, c_NoNumber.ve, g__law_number_word, TB1⟩
  have L17 := ok_makers T FW gM L2' L3 L10 L14 L16 L8 R3 R4 R5 R9
  exact ok_law T W M MP LO OW OP F L1 L2' L5 L6 L8 G9 L7 L13 L11 L12 L17
/-- the end, where another def's table must be known -/
theorem walk_tab {l : PySem.W.OpenLaw} {q : Program} {loose : List Str} {XP : (Str → Option Value) → Heap → Prop} {YP : World → Heap → Prop} {d : DefRec} {K : Params → PySem.W.Frag} {nm : Str} (hm : l.most = some 63) (h0 : d.params.defaults = []) (hin : ((recsOf q).any fun e => e.name == nm) = true)
    (hK : ∀ (w : World) (h : Heap), YP w h → (K w.params).In h)
    (F : ∀ (w : World) (mg : Str → Option Value) (fa : Addr) (h : Heap), (K w.params).In h → h.Ns mainGlobals mg → mg d.name = some (.ref fa) → (∀ ga, mg nm = some (.ref ga) → LamX.OwnTab (K w.params) ga h) → LamX.LawAtS l w (K w.params) CX0 11 63 "_law_script" mg fa h) :
    PySem.W.WalkO q loose XP YP l.row.toRowW d [] (fun f vs => PySem.call f vs) := by
  refine Att.attach_callB hm h0 fun w sa sb m1 m2 fl ob pv cv dv la us is T Y h1 h2 h3 h4 h5 h6 h7 h8 h9 => ?_
  have inK := hK w _ Y
  have tabs : ∀ ga, m1 nm = some (.ref ga) → LamX.OwnTab (K w.params) ga sb.heap := fun ga hga c P o1 fd1 e dd vs1 sl k1 k2 k3 k4 k5 => by
    obtain ⟨r, hr, hrn⟩ := List.any_eq_true.mp hin
    obtain ⟨a', o', fd', c', P', t1, t2, t3, t4, _, ⟨⟨oc, vc, t5, _, t6, t7⟩, t8⟩⟩ := T.T.tab r hr
    rw [show r.name = nm from beq_iff_eq.mp hrn, hga] at t1
    cases t1
    rw [inK _ _ k1] at t2
    cases t2
    rw [k2] at t3
    cases t3
    rw [k3] at t4
    cases t4
    rw [inK _ _ k4] at t5
    cases t5
    cases t6
    rw [k5] at t7
    cases t7
    exact t8
  obtain ⟨fd, cs, sp, y1, y2, y3, y4, y5, y6⟩ := F w m1 fl _ inK T.T.g h4 tabs
  exact LamX.law_callTs inK T.T.g T.T.b T.T.builtins T.T.nolimit h9 y1 y2 y3 T.T.bmain h5 h6 (Nat.le_trans h7 (by decide)) ⟨rfl, by decide, by decide⟩ y6 y4 (fun H hH hS => y5 H la is h7 h8 hH hS) fun _ _ _ z => z
end W1

set_option maxRecDepth 100000
open PySem PySem.W PyProof.Rows
local macro_rules | `(tactic| walk_at "fact") => `(tactic| (refine' W1.fact_mk ?a ?l ?c ?k; (case a => k_is); (case l => k_is); (case c => k_is); (case k => k_is)))
local macro_rules | `(tactic| walk_at "cf") => `(tactic| (refine' W1.cf_mk ?a ?lk ?hb ?b; (case a => k_is); (case lk => k_is); (case hb => first | rfl | decide +kernel | k_is); (case b => first | kernel_rfl | rfl | decide +kernel)))
local macro_rules | `(tactic| walk_at "ff") => `(tactic| (refine' W1.ff_mk ?c ?no ?i ?t ?l ?k1 ?k2; (case c => walk_at "cf"); (case no => k_is); (case i => k_is); (case t => k_is); (case l => k_is); (case k1 => k_is); (case k2 => k_is)))
local macro_rules | `(tactic| walk_at "mf") => `(tactic| (refine' W1.mkf_mk ?a ?m1 ?m2 ?m3 ?m4 ?lf ?k1 ?k2; (case a => k_is); (case m1 => k_is); (case m2 => k_is); (case m3 => k_is); (case m4 => k_is); (case lf => k_is); (case k1 => k_is); (case k2 => k_is)))
local macro_rules | `(tactic| walk_at "ef") => `(tactic| (refine' W1.eqf_mk ?pg ?hd ?po ?sa ?b ?i ?t ?lf ?k1 ?k2; (case pg => k_is); (case hd => k_is); (case po => k_is); (case sa => k_is); (case b => first | kernel_rfl | rfl | decide +kernel); (case i => k_is); (case t => k_is); (case lf => k_is); (case k1 => k_is); (case k2 => k_is)))
local macro_rules | `(tactic| walk_at "tf") => `(tactic| (refine' W1.factC_mk ?a ?lf ?c ?k ?lc ?v ?hd ?out; (case a => k_is); (case lf => k_is); (case c => k_is); (case k => k_is); (case lc => k_is); (case v => first | rfl | k_is); (case hd => first | kernel_rfl | rfl | k_is); (case out => first | kernel_rfl | rfl | k_is)))
set_option maxHeartbeats 0 in
theorem PySem.Challenge.cw_staletags_k01_webs_judged_and_made_holds : PySem.Challenge.rw_staletags_k01_webs_judged_and_made.Holds := by
  w_on; o_law; k_head; (case hw => w_witness2)
  k_fill
  refine W1.walk_tab (l := PySem.Challenge.rw_staletags_k01_webs_judged_and_made) (nm := "_law_makers_right") rfl rfl ?R (fun w h Y => PySem.W.km_in_of Y) ?F
  case R => first | kernel_rfl | rfl | decide +kernel
  case F =>
    intro w mg fa h KX G hmg own
    refine' W1.all_ok (l := PySem.Challenge.rw_staletags_k01_webs_judged_and_made) KX G hmg ?z_len ?z_abs ?z_int ?z_range ?z_tuple ?z_list ?z_sorted ?z_set ?z_enumerate ?z_isinstance ?z_all ?z_max ?z_min ?z_bool ?z_zip ?z_str ?z_sum ?z_ValueError ?z_super ?vr ?vm ?vs ?vt ?mW ?mP ?eW ?eP ?pB ?nM ?nT ?nN ?nB ?aT ?iT ?tT ?lT ?kT ?lA ?vA ?fA ?lC ?cD ?opq ?top ?cN ?iN ?xN ?sN ?cB ?xB ?sB ?hM own ?h_is_integer ?h_is_between ?h_check_memories ?h_check_ties ?h_is_tie ?h_near_lots ?h_is_room ?h_check_room ?h_tied ?h_check_number ?h_row_ties ?h_row_web ?h_ring_web ?h_grid_web ?h_sided_web ?h_check_sided ?h_check_sizes ?h_room_sides ?h_check_block ?h_first_wrong ?h_count_statements ?h__law_hand ?h__law_draw ?h__law_any ?h__law_is ?h__law_nested ?h__law_pairs ?h__law_parts ?h__law_made ?h__law_near ?h__law_int ?h__law_wrong ?h__law_told_part ?h__law_bent ?h__law_number_word ?h__law_grid_ties ?h__law_sides ?h__law_side_ties ?h_law
    (case z_len => k_is)
    (case z_abs => k_is)
    (case z_int => k_is)
    (case z_range => k_is)
    (case z_tuple => k_is)
    (case z_list => k_is)
    (case z_sorted => k_is)
    (case z_set => k_is)
    (case z_enumerate => k_is)
    (case z_isinstance => k_is)
    (case z_all => k_is)
    (case z_max => k_is)
    (case z_min => k_is)
    (case z_bool => k_is)
    (case z_zip => k_is)
    (case z_str => k_is)
    (case z_sum => k_is)
    (case z_ValueError => k_is)
    (case z_super => k_is)
    (case vr => refine' W1.num_mk ?a ?r; (case a => k_is); (case r => exact ⟨_, rfl⟩))
    (case vm => refine' W1.num_mk ?a ?r; (case a => k_is); (case r => exact ⟨_, rfl⟩))
    (case vs => refine' W1.num_mk ?a ?r; (case a => k_is); (case r => exact ⟨_, rfl⟩))
    (case vt => refine' W1.num_mk ?a ?r; (case a => k_is); (case r => exact ⟨_, rfl⟩))
    (case mW => walk_at "mf")
    (case mP => walk_at "mf")
    (case eW => walk_at "ef")
    (case eP => walk_at "ef")
    (case pB => first | kernel_rfl | rfl | decide +kernel)
    (case nM => k_is)
    (case nT => k_is)
    (case nN => k_is)
    (case nB => k_is)
    (case aT => k_is)
    (case iT => k_is)
    (case tT => k_is)
    (case lT => k_is)
    (case kT => k_is)
    (case lA => k_is)
    (case vA => first | rfl | k_is)
    (case fA => first | rfl | decide +kernel | k_is)
    (case lC => k_is)
    (case cD => first | kernel_rfl | rfl)
    (case opq => k_is)
    (case top => first | rfl | decide +kernel | k_is)
    (case cN => walk_at "cf")
    (case iN => k_is)
    (case xN => first | kernel_rfl | rfl | k_is)
    (case sN => first | kernel_rfl | rfl | k_is)
    (case cB => walk_at "ff")
    (case xB => first | kernel_rfl | rfl | k_is)
    (case sB => first | kernel_rfl | rfl | k_is)
    (case hM => walk_at "tf")
    (case h_is_integer => walk_at "fact")
    (case h_is_between => walk_at "fact")
    (case h_check_memories => walk_at "fact")
    (case h_check_ties => walk_at "fact")
    (case h_is_tie => walk_at "fact")
    (case h_near_lots => walk_at "fact")
    (case h_is_room => walk_at "fact")
    (case h_check_room => walk_at "fact")
    (case h_tied => walk_at "fact")
    (case h_check_number => walk_at "fact")
    (case h_row_ties => walk_at "fact")
    (case h_row_web => walk_at "fact")
    (case h_ring_web => walk_at "fact")
    (case h_grid_web => walk_at "fact")
    (case h_sided_web => walk_at "fact")
    (case h_check_sided => walk_at "fact")
    (case h_check_sizes => walk_at "fact")
    (case h_room_sides => walk_at "fact")
    (case h_check_block => walk_at "fact")
    (case h_first_wrong => walk_at "fact")
    (case h_count_statements => walk_at "fact")
    (case h__law_hand => walk_at "fact")
    (case h__law_draw => walk_at "fact")
    (case h__law_any => walk_at "fact")
    (case h__law_is => walk_at "fact")
    (case h__law_nested => walk_at "fact")
    (case h__law_pairs => walk_at "fact")
    (case h__law_parts => walk_at "fact")
    (case h__law_made => walk_at "fact")
    (case h__law_near => walk_at "fact")
    (case h__law_int => walk_at "fact")
    (case h__law_wrong => walk_at "fact")
    (case h__law_told_part => walk_at "fact")
    (case h__law_bent => walk_at "fact")
    (case h__law_number_word => walk_at "fact")
    (case h__law_grid_ties => walk_at "fact")
    (case h__law_sides => walk_at "fact")
    (case h__law_side_ties => walk_at "fact")
    (case h_law => walk_at "fact")

