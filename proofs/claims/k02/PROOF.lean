import PyProof.Rows.All
import Wide.All
import OpenK.AllK
import Wide.FinOn
import HandS.ForMost
import HandS.Walk
import HandS.SetFor
import HandS.Strs
import HandS.TupMul
import HandS.TupAny
import HandS.TupLe
import HandS.Style
import HandS.SortInts
import HandS.IsInst
import HandS.Conv
import KE.GoesEnum
import HandS.Evl
import PySem.Challenge.RW_staletags_k02_whole_two_lots_or_an_odd_r
import HandS.Zip
import KE.GoesZip
import HandS.Dict
import HandS.Small
set_option Elab.async false
set_option linter.all false
set_option maxRecDepth 100000
set_option maxHeartbeats 4000000
/-! own rules: enumerate over a tuple, set of a list of ints, a tuple times one -/
namespace PySem
section
open Builtin
theorem en1_new {v : Value} {o : Obj} {G : Heap → Prop} (B : Begins v o G) :
    Meets (Builtin.«enumerate.__new__» ⟨[.type "enumerate", v], []⟩) (fun _ R s => G s.heap ∧
      R (.ok (.ret (.ref (s.heap.push o).objs.size)))
        { s with heap := (s.heap.push o).push { cls := .type "enumerate", data := .fields #[.none, .bool false, .ref s.heap.objs.size, rawInt 0, .none, .none] } }) := by
  refine .of_wp fun prog w A R s h => ?_
  obtain ⟨hp, g, d, tk, os⟩ := s
  obtain ⟨h1, h⟩ := h
  have hsb := sub_enumerate
  have qi : ∀ {A' : Around} {E : Value → Shared → Prop} {Q : Value → Shared → Prop},
      Q (.ref hp.objs.size) ⟨hp.push o, g, d, tk, os⟩ → wpAny (model prog w) A' (pyIter v) Q E ⟨hp, g, d, tk, os⟩ := fun {A'} {E} {Q} q =>
    B.iter prog w _ _ ⟨hp, g, d, tk, os⟩ _ h1 q
  wp_walk using qi
  refine wpAny_stack_any fun st => ?_
  refine wpAny_pure ?_
  split
  · rename_i c _ _ _ _ _
    cases (c == Value.type "enumerate") <;> (wp_walk using qi; exact ⟨_, rfl, h⟩)
  · wp_walk using qi
    exact ⟨_, rfl, h⟩
end
theorem en1_call {prog : Program} {w : World} {A : Around} {E : Value → Shared → Prop} {s : Shared} {v : Value} {o : Obj} {G : Heap → Prop} {Q : Value → Shared → Prop} (B : Begins v o G) (hG : G s.heap)
    (hq : ∀ h', IsEnum h' (s.heap.objs.size + 1) s.heap.objs.size 0 .none → h'.get? s.heap.objs.size = some o → (∀ b u, s.heap.get? b = some u → h'.get? b = some u) →
      Q (.ref (s.heap.objs.size + 1)) { s with heap := h' }) :
    wpAny (model prog w) A (call (.type "enumerate") [v]) Q E s := by
  have hz : (s.heap.push o).objs.size = s.heap.objs.size + 1 := Heap.size_push ..
  refine callType_new F.called_enumerate (by decide) (F.typeCall_enumerate_1 v) (F.newCall_enumerate_1 v)
    (fun obj => F.args_object_init_2 obj v) F.entry_enumerate_new (en1_new B) ⟨hG, ?_⟩
  show _ ∧ _
  rw [hz]
  have e0 := Heap.get?_push_size (s.heap.push o)
    (o := { cls := .type "enumerate", data := .fields #[.none, .bool false, .ref s.heap.objs.size, rawInt 0, .none, .none] }) rfl
  rw [hz] at e0
  have he : IsEnum ((s.heap.push o).push { cls := .type "enumerate", data := .fields #[.none, .bool false, .ref s.heap.objs.size, rawInt 0, .none, .none] })
    (s.heap.objs.size + 1) s.heap.objs.size 0 .none := e0
  refine ⟨⟨_, he, rfl⟩, hq _ he ?_ ?_⟩
  · exact Heap.get?_push_of_some _ (Heap.get?_push_size _ B.free)
  · intro b u x
    exact Heap.get?_push_of_some _ (Heap.get?_push_of_some _ x)
end PySem
namespace L2
open PySem PySem.Spec PyProof.Rows
/-- the tuple at a, each item in a new pair with its place -/
def IteT (K : PySem.W.Frag) (a : Addr) : It where
  go := fun i H => ∃ (xs : List V) (x : V), SqT K H a xs ∧ xs[i]? = some x
  yld := fun i H v H' => ∃ T x, v = .ref T ∧ H T = none ∧ H' = upd H T (.tup [.int (i : Nat), x]) ∧ ∀ xs, SqT K H a xs → xs[i]? = some x
  stop := fun i H => ∃ xs : List V, SqT K H a xs ∧ xs.length ≤ i
theorem isTup_isTuple {h : Heap} {a : Addr} {its : Array Value} (x : IsTup h a its) : h.IsTuple a its := by
  obtain ⟨o, ho, hc, n, hd⟩ := x
  exact ⟨o, ho, hc, n, hd⟩

theorem turn_enT {P : Program} {w : World} {K : PySem.W.Frag} {elts : List Expr} {kk : Nat} {tp : Pos} (a e it : Addr) (hai : a ≠ it) (hea : e ≠ a) :
    Turn P w K (.Tuple elts kk tp) (IteT K a) [e, it] e (fun i h => (∃ old, IsEnum h e it ((i : Nat) : Int) old) ∧ h.IsTupleIter it a i ∧ e ≠ it) := by
  refine ⟨by simp, ?_, ?_, ?_, ?_, ?_⟩
  · rintro i h ⟨⟨old, he⟩, hit, _⟩ b hb
    have hb2 : b = e ∨ b = it := by simpa using hb
    rcases hb2 with rfl | rfl
    · exact ⟨_, he, fun v q => nomatch q⟩
    · obtain ⟨o, ho, _, hd⟩ := hit
      exact ⟨o, ho, fun v q => by rw [hd] at q; cases q⟩
  · rintro i h h' ⟨⟨old, he⟩, hit, hne⟩ k
    refine ⟨⟨old, k e (by simp) _ he⟩, ?_, hne⟩
    obtain ⟨o, ho, r⟩ := hit
    exact ⟨o, k it (by simp) o ho, r⟩
  · intro X hP hw hK hc i pins s σ H E I hf st hg
    subst hP hw hK
    obtain ⟨⟨old, he⟩, hit, hne⟩ := st
    obtain ⟨xs, x, hq, hx⟩ := hg
    obtain ⟨its, rv, pt, hz⟩ := I.tuple hq
    obtain ⟨u, hu, ru⟩ := rv.get hx
    have hel : e < s.heap.objs.size := Heap.lt_size he
    have hil : it < s.heap.objs.size := by
      obtain ⟨_, q, _⟩ := hit
      exact Heap.lt_size q
    have hin : i < its.toArray.size := by
      have h2 := (List.getElem?_eq_some_iff.mp hu).1
      simpa using h2
    have hh1 : X.A.in1.handled = none := by
      have h0 := I.ok.hd hc
      simpa using h0
    refine wpAny_pyNext_enum_itemD (Draws.tuple hh1 it a hai its.toArray) he ⟨hit, isTup_isTuple pt⟩ hin hne (by simp [hne, hea]) fun y h1 tk hy hout hst hT hsz hk => ?_
    have ey : y = u := by
      have h3 : its.toArray[i]? = some u := by simpa using hu
      exact Option.some.inj (hy.symm.trans h3)
    subst ey
    refine ⟨_, rfl, wpAny_letOwnedTupleGo_enum (s := { s with heap := h1, toks := tk + 1 }) hout fun h2 he2 sb => ?_⟩
    have hT2 : h2.get? s.heap.objs.size = some { cls := .type "tuple", data := .seq #[.int i tk, y] } := (sb.2 _ (Nat.ne_of_gt hel)).trans hT
    have new : ObjOk X.prog X.w (upd H s.heap.objs.size (.tup [.int (i : Nat), x])) h2 s.heap.objs.size (.tup [.int (i : Nat), x]) := by
      refine ⟨?_, [.int i tk, y], ?_, ?_⟩
      · show 2 ≤ sizeLine
        decide
      · exact .cons ⟨_, rfl⟩ (.cons ru .nil)
      · exact ⟨_, hT2, rfl, _, rfl⟩
    have I1 : Inv X pins σ (upd H s.heap.objs.size (.tup [.int (i : Nat), x])) { s with heap := h2, toks := tk + 1 } := by
      refine I.turnedNew (ch := [e, it]) (fun b ob hb q => ?_) hf (Nat.le_refl _) new
      have nbe : b ≠ e := fun z => hb (by simp [z])
      have nbi : b ≠ it := fun z => hb (by simp [z])
      exact (sb.2 b nbe).trans (hk b ob nbe nbi q)
    refine ⟨.ref s.heap.objs.size, _, I1, rfl, ⟨_, x, rfl, I.hok.fresh (Nat.le_refl _), rfl, fun ys hy2 => ?_⟩, ⟨⟨y, ?_⟩, ?_, hne⟩, fun b hb => ?_⟩
    · rw [I.tuple_inj hy2 hq]
      exact hx
    · have e1 : ((i + 1 : Nat) : Int) = (i : Int) + 1 := by omega
      rw [e1]
      exact he2
    · obtain ⟨o, ho, r⟩ := hst.1
      exact ⟨o, (sb.2 it (Ne.symm hne)).trans ho, r⟩
    · have hlt : b < s.heap.objs.size := by
        have hb2 : b = e ∨ b = it := by simpa using hb
        rcases hb2 with rfl | rfl
        · exact hel
        · exact hil
      rw [upd_ne (Nat.ne_of_lt hlt)]
      exact (hf b hb).1
  · intro X hP hw hK hc i pins s σ H E I hf st hg
    subst hP hw hK
    obtain ⟨⟨old, he⟩, hit, hne⟩ := st
    obtain ⟨xs, hq, hx⟩ := hg
    obtain ⟨its, rv, pt, hz⟩ := I.tuple hq
    obtain ⟨f0, f1, f2, f3, f4, f5⟩ := hf it (by simp)
    have hh1 : X.A.in1.handled = none := by
      have h0 := I.ok.hd hc
      simpa using h0
    have hl := rv.length
    have hend : ∀ h', Heap.ExtBut it s.heap h' → (fun (r : Option Value) (s1 : Shared) => r = none ∧ Inv X pins σ H s1) none { s with heap := h' } := fun h' eb =>
      ⟨rfl, I.turned (t' := s.toks) (fun b o hb q => eb b o hb q) f0 f1 f3 f4 f5⟩
    have hT : s.TypeIs (.ref e) "enumerate" := ⟨_, he, rfl⟩
    unfold pyNext
    refine wpAny_bind (wpAny_attempt (wpAny_callSpecial?_slot (name := Str.ofString "__next__") hT F.slot_enumerate_next
      (wpAny_call_entry F.slot_enumerate_next hT F.entry_enumerate_next ?_ (F.args_enumerate_next_1 _))))
    show wpAny _ _ (field (.ref e) 2 >>= _) _ _ _
    refine wpAny_bind (wpAny_field he rfl (x := .ref it) rfl ?_)
    refine wpAny_bind (wpAny_nextOf_tuple_end hh1 hit (isTup_isTuple pt) (by simp; omega) fun h' y he' hy => ?_)
    obtain ⟨o, ho, hcl⟩ := hy
    refine wpAny_bind (wpAny_isInstance (T := "StopIteration") (b := true) ⟨o, ho, hcl⟩ isSubtype_stop ?_)
    exact wpAny_pure (hend _ he')
  · rintro A i s Q E ⟨⟨old, he⟩, _⟩ h
    exact wpAny_pyIter_enum he h
def iEnumT (K : PySem.W.Frag) (ta : TA) : TI := fun σ H R => ta σ H fun vs H1 => ∃ a xs, vs = [.ref a] ∧ SqT K H1 a xs ∧ R (IteT K a) H1
theorem pi_enumT {X : Cx} {e : Expr} {ta : TA} {p pos tp : Pos} {elts : List Expr} {kk : Nat} (hg : Gl X "enumerate") (hm : X.mg "enumerate" = none) (ha : PA X [e] ta)
    (hs : starEach [e] X.env = [(false, eval e X.env)] := by rfl) : PI X (.Tuple elts kk tp) (.Call (.Name "enumerate" p) [e] [] pos) (iEnumT X.K ta) := by
  constructor
  intro pins s σ H R I h
  refine Call_ (ld_blt I hg hm boot_enumerate ?_)
  refine PyProof.Rows.callWith_type1 (thn (ha.run pos pins s σ H _ I h) fun us s1 hh => ?_) hs rfl
  obtain ⟨vs, H1, I1, r1, a, xs, rfl, hq, q⟩ := hh
  cases r1 with
  | cons r rr =>
    cases rr
    cases r
    obtain ⟨its, rv, pt, hz⟩ := I1.tuple hq
    have ht := isTup_isTuple pt
    have hlt : a < s1.heap.objs.size := by
      obtain ⟨o, ho, _⟩ := pt
      exact Heap.lt_size ho
    refine en1_call (begins_tuple a its.toArray) ht fun h' he hit hk => ?_
    refine wpAny_pyIter_enum he ?_
    have I2 : Inv X pins σ H1 { s1 with heap := h' } := I1.kept (t' := s1.toks) hk
    have T := turn_enT (P := X.prog) (w := X.w) (K := X.K) (elts := elts) (kk := kk) (tp := tp) a (s1.heap.objs.size + 1) s1.heap.objs.size (Nat.ne_of_lt hlt) (by
      intro z
      rw [← z] at hlt
      exact absurd hlt (Nat.not_lt.mpr (Nat.le_succ _)))
    refine ⟨s1.heap.objs.size + 1, [s1.heap.objs.size + 1, s1.heap.objs.size], _, _, H1, rfl, I2, T, ⟨⟨.none, he⟩, ⟨_, hit, rfl, rfl⟩, Nat.succ_ne_self _⟩, fun b hb => ?_, q⟩
    have hb2 : b = s1.heap.objs.size + 1 ∨ b = s1.heap.objs.size := by simpa using hb
    have hle : s1.heap.objs.size ≤ b := by
      rcases hb2 with z | z <;> rw [z]
      · exact Nat.le_succ _
      · exact Nat.le_refl _
    exact I1.fpOk hle (I1.hok.fresh hle)
theorem walk_enT {K : PySem.W.Frag} {a : Addr} {xs : List V} : Walk (IteT K a) xs.length (fun H => SqT K H a xs) (YPair (fun i => some (.int (i : Nat))) (fun i => xs[i]?)) := by
  constructor
  · intro i H hi q
    exact ⟨xs, xs[i], q, by simp [hi]⟩
  · intro H q
    exact ⟨xs, q, Nat.le_refl _⟩
  · rintro i H v H' _ q ⟨T, x, h1, h2, h3, h4⟩
    exact ⟨T, .int (i : Nat), x, h1, h2, h3, rfl, h4 xs q⟩

/-! ### set(a list of ints) -/
section
variable {P : Program} {w : World} {A : Around} {E : Value → Shared → Prop} {s : Shared}
abbrev set0 (w : World) : Obj := { cls := .type "set", dict := none, data := .set #[] 0 (.fresh 0 0 (!w.params.followText "set-order")) }
theorem setL_call {l : Addr} {items : Array Value} (ns : List Int) {Q : Value → Shared → Prop} (hh : A.handled = none) (hl : s.heap.IsList l items) (hit : IntsAre items.toList ns) (hb : ns.length + 1 < scanBound)
    (hq : ∀ (h' : Heap) (tk c : Nat), SetR w h' s.heap.objs.size (fun j => decide (j ∈ ns)) c → c ≤ ns.length → (∀ b o, s.heap.get? b = some o → h'.get? b = some o) →
      Q (.ref s.heap.objs.size) { s with heap := h', toks := tk }) :
    wpAny (model P w) A (call (.type "set") [.ref l]) Q E s := by
  have hisz : items.size = ns.length := by simpa using IntsAre.length hit
  obtain ⟨cm, tl, hmro⟩ := F.called_set.mro
  have hmade := F.called_set.made
  have hsb := F.called_set.sub
  refine wpAny_call (codeAny_of_tree ?_)
  show wpAny _ _ (callAny (.type "set") _) _ _ _
  refine wpAny_pure ⟨Code.quiet_builtin _ (by decide +kernel), ?_⟩
  refine codeAny_builtin F.entry_type_call ?_
  rw [Around.under_plain (weight_type_call_type "set" [.ref l] []) rfl]
  have f1 := F.called_set.notType
  have f2 := F.called_set.canCreate
  have f3 := F.typeCall_set_1 (.ref l)
  repeat (any_goals (first | assumption | wp_step))
  refine codeAny_mono (code_set_led1 (.ref l) (E := E) (Q₁ := fun obj s₁ => obj = .ref s.heap.objs.size ∧ s₁ = { s with heap := s.heap.push (set0 w) }) ⟨rfl, rfl⟩) fun r s₁ hr => ?_
  cases r with
  | error e => exact hr
  | ok fl =>
    cases fl with
    | next => exact hr.elim
    | brk => exact hr.elim
    | cont => exact hr.elim
    | ret obj =>
      obtain ⟨rfl, rfl⟩ := hr
      have hS : (s.heap.push (set0 w)).get? s.heap.objs.size = some (set0 w) := Heap.get?_push_size _ rfl
      have hT : Shared.TypeIs { s with heap := s.heap.push (set0 w) } (.ref s.heap.objs.size) "set" := ⟨_, hS, rfl⟩
      have f4 := F.called_set.init.lookup
      have f5 := F.called_set.init.bind (.ref s.heap.objs.size)
      repeat (any_goals (first | assumption | wp_step))
      refine codeAny_mono (codeAny_call_builtin (R := wants (fun r s₂ => r = .none ∧ ∃ h' tk c, s₂ = { s with heap := h', toks := tk } ∧ SetR w h' s.heap.objs.size (fun j => decide (j ∈ ns)) c ∧
          c ≤ ns.length ∧ ∀ b o, s.heap.get? b = some o → h'.get? b = some o) E) F.called_set.init.plain F.entry_set_init (check_set_init_1 hT ?_)) fun r₂ s₂ hr₂ => ?_
      · obtain ⟨⟨oc, od, odt, osl⟩, hol, hcl, nl, hdl⟩ := hl
        replace hcl : oc = .type "list" := hcl
        replace hdl : odt = .seq items nl := hdl
        subst hcl hdl
        have hol1 : (s.heap.push (set0 w)).get? l = some { cls := .type "list", dict := od, data := .seq items nl, slots := osl } := Heap.get?_push_of_some _ hol
        have f6 := F.sub_list_set
        have f7 := F.sub_list_frozenset
        have hne : (Value.type "list" == Value.type "dict") = false := by decide
        have hl1 : (s.heap.push (set0 w)).IsList l items := ⟨_, hol1, rfl, nl, rfl⟩
        unfold Builtin.«set.__init__» noKeywords Builtin.Frozenset.updateFrom
        generalize hPI : pyIter = PI
        wp_walk
        subst hPI
        refine wpAny_pyIter_list hl1 ?_
        refine wpAny_bind (wpAny_runValue ?_)
        have hlS : l < s.heap.objs.size := Heap.lt_size hol
        have hh3 : A.in1.in1.in1.handled = none := by simp [hh]
        have hsz1 : (s.heap.push (set0 w)).objs.size = s.heap.objs.size + 1 := Heap.size_push ..
        have hneI : l ≠ (s.heap.push (set0 w)).objs.size := by
          rw [hsz1]
          exact Nat.ne_of_lt (Nat.lt_succ_of_lt hlS)
        have hSf : s.heap.objs.size ∉ [(s.heap.push (set0 w)).objs.size, l] := by
          rw [hsz1]
          intro hm
          rcases List.mem_cons.mp hm with z | z
          · exact absurd z (Nat.ne_of_lt (Nat.lt_succ_self _))
          · exact absurd (List.mem_singleton.mp z) (Nat.ne_of_gt hlS)
        have hval : ∀ (i : Nat) (v : Value), items[i]? = some v → ∃ k t, ns[i]? = some k ∧ v = .int k t := fun i v hv => by
          have hi : i < ns.length := by
            rw [← hisz]
            exact (Array.getElem?_eq_some_iff.mp hv).1
          obtain ⟨t, e⟩ := IntsAre.int_at hit i v (by simpa using hv)
          exact ⟨ns[i], t, List.getElem?_eq_getElem hi, by rw [e]; simp [hi]⟩
        refine set_update_ints ((Walks.list hh3 _ l hneI items).toS) s.heap.objs.size hSf ns hisz hb hval (items.size - 0) 0 _ (by omega) (Nat.zero_le _)
          ⟨⟨_, Heap.get?_push_size _ rfl, rfl, rfl⟩, (hl1.push _)⟩ ?hA ?hB
        case hA =>
          have hget := Heap.get?_push_of_some { cls := .type "list_iterator", data := .fields #[.ref l, .int 0 0] } hS
          exact ⟨0, Nat.le_refl 0, setR_new_at hget⟩
        case hB =>
          intro s' c' hm hc' hS'
          obtain ⟨h', g2, d', tk', os'⟩ := s'
          have eg : g2 = s.gens := hm.gens
          have ed : d' = s.drawn := hm.drawn
          have eo : os' = s.os := hm.os
          subst eg ed eo
          show wpAny _ _ _ _ _ _
          refine wpAny_pure ?_
          show wpAny _ _ (ret Value.none) _ _ _
          rw [hisz] at hc'
          refine wpAny_pure ⟨rfl, h', tk', c', rfl, hS', hc', fun b o e => ?_⟩
          have hb0 : b < s.heap.objs.size := Heap.lt_size e
          have hb3 : b ∉ [s.heap.objs.size, (s.heap.push (set0 w)).objs.size] := by
            rw [hsz1]
            intro hm
            rcases List.mem_cons.mp hm with z | z
            · exact absurd z (Nat.ne_of_lt hb0)
            · exact absurd (List.mem_singleton.mp z) (Nat.ne_of_lt (Nat.lt_succ_of_lt hb0))
          exact hm.heap b o hb3 (Heap.get?_push_of_some _ (Heap.get?_push_of_some _ e))
      · cases r₂ with
        | error e => exact hr₂
        | ok fl₂ =>
          cases fl₂ with
          | next => exact hr₂.elim
          | brk => exact hr₂.elim
          | cont => exact hr₂.elim
          | ret r =>
            obtain ⟨rfl, h', tk, c', rfl, hS', hc', hk'⟩ := hr₂
            repeat (any_goals (first | assumption | wp_step))
            exact hq _ _ _ hS' hc' hk'
end
/-- set(xs), xs a list of ints: its members, at most as many as the list is long -/
def rSetOfL (K : PySem.W.Frag) (w : World) : List V → Hp → VK → Prop := fun vs H Q => ∃ (l : Addr) (ns : List Int), vs = [.ref l] ∧ SqL K H l (ns.map V.int) ∧ ns.length ≤ 4000 ∧
  ∀ p n, H p = none → n ≤ ns.length → Q (.ref p) (upd H p (SetO w p (fun j => decide (j ∈ ns)) n))
theorem cr_setL {X : Cx} (hc : X.calm = true) : CallR X (.type "set") (rSetOfL X.K X.w) := by
  intro pins s σ H vs us Q I r h
  obtain ⟨l, ns, rfl, hq, hl, q⟩ := h
  rw [Vals.ref1 r]
  obtain ⟨its, rv, pl, hz⟩ := I.list hq
  have hi := ints_of_vals rv
  refine setL_call ns (I.ok.hd hc) pl.isList (by simpa using hi) (by unfold scanBound; omega) fun h' tk c hS hcn hk => ?_
  have hn : H s.heap.objs.size = none := I.hok.fresh (Nat.le_refl _)
  exact ⟨.ref _, upd H s.heap.objs.size (SetO X.w s.heap.objs.size (fun j => decide (j ∈ ns)) c), I.laid (t' := tk) hk (Nat.le_refl _) (setO_new hS), rfl, q _ _ hn hcn⟩
end L2

set_option maxRecDepth 100000
set_option maxHeartbeats 4000000
/-! data, and what an expression evaluates to in data -/
namespace W1
open PySem L2

inductive D where
  | non | bl (b : Bool) | int (i : Int) | str (s : Str) | tup (xs : List D) | lst (xs : List D) | obj (v : V)

/-- the shape of the law's own hand: it alone changes while others look on -/
def Handy (xs : List V) : Prop := ∃ c p x s n, xs = [.ref c, .int p, .int x, .int s, .int n] ∧ 0 ≤ p ∧ 0 ≤ x
def Le (H H' : Hp) : Prop := ∀ a o, H a = some o → H' a = some o ∨
  ∃ c p x s n p' x' s' n', o = .lst [.ref c, .int p, .int x, .int s, .int n] ∧ H' a = some (.lst [.ref c, .int p', .int x', .int s', .int n']) ∧ 0 ≤ p' ∧ 0 ≤ x'
theorem Le.refl (H : Hp) : Le H H := fun _ _ h => .inl h
theorem Le.trans {H H1 H2 : Hp} (a : Le H H1) (b : Le H1 H2) : Le H H2 := fun x o h => by
  rcases a x o h with h1 | ⟨c, p, q, s, n, p', q', s', n', rfl, h1, u, v⟩
  · exact b x o h1
  · rcases b x _ h1 with h2 | ⟨c2, p2, q2, s2, n2, p3, q3, s3, n3, e, h2, u2, v2⟩
    · exact .inr ⟨c, p, q, s, n, p', q', s', n', rfl, h2, u, v⟩
    · injection e with e
      injection e with e1 e
      injection e1 with e1
      subst e1
      exact .inr ⟨c, p, q, s, n, p3, q3, s3, n3, rfl, h2, u2, v2⟩
theorem Le.ex {H H' : Hp} (e : Evl.Ex H H') : Le H H' := fun a o h => .inl (e a o h)
theorem Le.new {H : Hp} {p : Addr} {o : HO} (h : H p = none) : Le H (upd H p o) := Le.ex (Evl.Ex.new h)
/-- what H does not know may change -/
theorem Le.mut {H H' : Hp} {p : Addr} {o : HO} (e : Le H H') (h : H p = none) : Le H (upd H' p o) := fun a u ha => by
  rw [upd_ne (ne_of_none ha h)]
  exact e a u ha
theorem Le.tup {H H' : Hp} {a : Addr} {xs : List V} (e : Le H H') (h : H a = some (.tup xs)) : H' a = some (.tup xs) := by
  rcases e a _ h with h1 | ⟨_, _, _, _, _, _, _, _, _, z, _⟩
  · exact h1
  · cases z
theorem Le.ins {H H' : Hp} {a C dx : Addr} {fs : List (Str × V)} (e : Le H H') (h : H a = some (.ins C dx fs)) : H' a = some (.ins C dx fs) := by
  rcases e a _ h with h1 | ⟨_, _, _, _, _, _, _, _, _, z, _⟩
  · exact h1
  · cases z
theorem Le.frz {H H' : Hp} {a : Addr} {o : Obj} {u : HO} (e : Le H H') (h : H a = some (.frz o u)) : H' a = some (.frz o u) := by
  rcases e a _ h with h1 | ⟨_, _, _, _, _, _, _, _, _, z, _⟩
  · exact h1
  · cases z
def NotH (xs : List V) : Prop := ∀ c p x s n, xs ≠ [.ref c, .int p, .int x, .int s, .int n]
theorem Le.lst {H H' : Hp} {a : Addr} {xs : List V} (e : Le H H') (h : H a = some (.lst xs)) (n : NotH xs) : H' a = some (.lst xs) := by
  rcases e a _ h with h1 | ⟨c, p, x, s, m, _, _, _, _, z, _⟩
  · exact h1
  · injection z with z
    exact absurd z (n c p x s m)
theorem Le.sqt {K : PySem.W.Frag} {H H' : Hp} {a : Addr} {xs : List V} (e : Le H H') (h : SqT K H a xs) : SqT K H' a xs := by
  rcases h with (h | ⟨o, h⟩) | h
  · exact .inl (.inl (e.tup h))
  · exact .inl (.inr ⟨o, e.frz h⟩)
  · exact .inr h
theorem Le.fresh {H H' : Hp} {p : Addr} (e : Le H H') (h : H' p = none) : H p = none := by
  cases h1 : H p with
  | none => rfl
  | some o =>
    rcases e p o h1 with h2 | ⟨_, _, _, _, _, _, _, _, _, _, h2, _⟩
    · rw [h] at h2
      cases h2
    · rw [h] at h2
      cases h2

/-! ### what stands for data -/
mutual
inductive Rp (K : PySem.W.Frag) (H : Hp) : V → D → Prop
  | non : Rp K H .non .non
  | bl (b : Bool) : Rp K H (.bl b) (.bl b)
  | int (i : Int) : Rp K H (.int i) (.int i)
  | str (x : Str) : Rp K H (.str x) (.str x)
  | obj (v : V) : Rp K H v (.obj v)
  | tup {a : Addr} {xs : List V} {ds : List D} : SqT K H a xs → Rps K H xs ds → Rp K H (.ref a) (.tup ds)
  | lst {a : Addr} {xs : List V} {ds : List D} : H a = some (.lst xs) → NotH xs → Rps K H xs ds → Rp K H (.ref a) (.lst ds)
inductive Rps (K : PySem.W.Frag) (H : Hp) : List V → List D → Prop
  | nil : Rps K H [] []
  | cons {v : V} {vs : List V} {d : D} {ds : List D} : Rp K H v d → Rps K H vs ds → Rps K H (v :: vs) (d :: ds)
end
section
variable {K : PySem.W.Frag} {H H' : Hp}
mutual
theorem Rp.le (e : Le H H') {v : V} {d : D} : Rp K H v d → Rp K H' v d
  | .non => .non
  | .bl b => .bl b
  | .int i => .int i
  | .str x => .str x
  | .obj v => .obj v
  | .tup h r => .tup (e.sqt h) (Rps.le e r)
  | .lst h n r => .lst (e.lst h n) n (Rps.le e r)
theorem Rps.le (e : Le H H') {vs : List V} {ds : List D} : Rps K H vs ds → Rps K H' vs ds
  | .nil => .nil
  | .cons h r => .cons (Rp.le e h) (Rps.le e r)
end
theorem Rps.len : ∀ {vs : List V} {ds : List D}, Rps K H vs ds → vs.length = ds.length
  | _, _, .nil => rfl
  | _, _, .cons _ r => by rw [List.length_cons, List.length_cons, Rps.len r]
theorem Rps.at : ∀ {vs : List V} {ds : List D} {i : Nat} {d : D}, Rps K H vs ds → ds[i]? = some d → ∃ v, vs[i]? = some v ∧ Rp K H v d
  | _, _, _, _, .nil, h => by simp at h
  | _, _, 0, _, .cons h _, e => by
    simp at e
    subst e
    exact ⟨_, rfl, h⟩
  | _, _, i + 1, d, .cons _ r, e => by
    obtain ⟨v, h1, h2⟩ := Rps.at (i := i) (d := d) r (by simpa using e)
    exact ⟨v, by simpa using h1, h2⟩
theorem Rps.at' : ∀ {vs : List V} {ds : List D} {i : Nat} {v : V}, Rps K H vs ds → vs[i]? = some v → ∃ d, ds[i]? = some d ∧ Rp K H v d
  | _, _, _, _, .nil, h => by simp at h
  | _, _, 0, _, .cons h _, e => by
    simp at e
    subst e
    exact ⟨_, rfl, h⟩
  | _, _, i + 1, d, .cons _ r, e => by
    obtain ⟨v, h1, h2⟩ := Rps.at' (i := i) (v := d) r (by simpa using e)
    exact ⟨v, by simpa using h1, h2⟩
theorem Rps.app : ∀ {vs ws : List V} {ds es : List D}, Rps K H vs ds → Rps K H ws es → Rps K H (vs ++ ws) (ds ++ es)
  | _, _, _, _, .nil, s => s
  | _, _, _, _, .cons h r, s => .cons h (Rps.app r s)
theorem Rps.take : ∀ {vs : List V} {ds : List D} (n : Nat), Rps K H vs ds → Rps K H (vs.take n) (ds.take n)
  | _, _, 0, _ => .nil
  | _, _, _ + 1, .nil => .nil
  | _, _, n + 1, .cons h r => .cons h (Rps.take n r)
theorem Rps.drop : ∀ {vs : List V} {ds : List D} (n : Nat), Rps K H vs ds → Rps K H (vs.drop n) (ds.drop n)
  | _, _, 0, r => r
  | _, _, _ + 1, .nil => .nil
  | _, _, n + 1, .cons _ r => Rps.drop n r
theorem Rps.rep {v : V} {d : D} (h : Rp K H v d) : ∀ n : Nat, Rps K H (List.replicate n v) (List.replicate n d)
  | 0 => .nil
  | n + 1 => .cons h (Rps.rep h n)
theorem Rps.flat {vs : List V} {ds : List D} (h : Rps K H vs ds) : ∀ n : Nat, Rps K H (List.replicate n vs).flatten (List.replicate n ds).flatten
  | 0 => .nil
  | n + 1 => by
    rw [List.replicate_succ, List.replicate_succ, List.flatten_cons, List.flatten_cons]
    exact h.app (Rps.flat h n)
theorem Rps.set : ∀ {vs : List V} {ds : List D} {v : V} {d : D} (i : Nat), Rps K H vs ds → Rp K H v d → Rps K H (vs.set i v) (ds.set i d)
  | _, _, _, _, _, .nil, _ => .nil
  | _, _, _, _, 0, .cons _ r, h => .cons h r
  | _, _, _, _, i + 1, .cons g r, h => .cons g (Rps.set i r h)
theorem rps_ints : ∀ ns : List Int, Rps K H (ns.map V.int) (ns.map D.int)
  | [] => .nil
  | n :: ns => .cons (.int n) (rps_ints ns)
theorem ints_rps : ∀ {ns : List Int} {vs : List V}, Rps K H vs (ns.map D.int) → vs = ns.map V.int
  | [], _, h => by
    cases h
    rfl
  | n :: ns, _, h => by
    cases h with
    | cons a r =>
      cases a
      rw [ints_rps r]
      rfl
theorem rps_bls : ∀ bs : List Bool, Rps K H (bs.map V.bl) (bs.map D.bl)
  | [] => .nil
  | b :: bs => .cons (.bl b) (rps_bls bs)
theorem bls_rps : ∀ {bs : List Bool} {vs : List V}, Rps K H vs (bs.map D.bl) → vs = bs.map V.bl
  | [], _, h => by
    cases h
    rfl
  | b :: bs, _, h => by
    cases h with
    | cons a r =>
      cases a
      rw [bls_rps r]
      rfl
end
theorem notH_len {xs : List V} (h : xs.length ≠ 5) : NotH xs := fun c p x s n e => h (by rw [e]; rfl)
theorem notH_int {x : Int} {xs : List V} : NotH (.int x :: xs) := fun _ _ _ _ _ e => by injection e with e _; cases e
theorem notH_ints (ns : List Int) : NotH (ns.map V.int) := by
  cases ns with
  | nil => exact notH_len (by decide)
  | cons n ns => exact notH_int
theorem notH_bls (bs : List Bool) : NotH (bs.map V.bl) := fun c p x s n e => by
  cases bs with
  | nil => cases e
  | cons b bs =>
    injection e with e _
    cases e
/-- items that are all references, or none an int behind the first -/
theorem notH_of {xs : List V} (h : ∀ v, xs[1]? = some v → ∀ i, v ≠ .int i) : NotH xs := fun c p x s n e => by
  subst e
  exact h (.int p) rfl p rfl

/-! ### evaluation -/
abbrev Pd := D → Hp → Prop
/-- e evaluates to something that stands for data of which P holds -/
def EP (K : PySem.W.Frag) (te : TE) (σ : L2.St) (H : Hp) (P : Pd) : Prop := ∀ H1, Le H H1 → ∀ Q : VK, (∀ v d H2, Le H1 H2 → P d H2 → Rp K H2 v d → Q v H2) → te σ H1 Q
abbrev is (d : D) : Pd := fun x _ => x = d
abbrev ED (K : PySem.W.Frag) (te : TE) (σ : L2.St) (H : Hp) (d : D) : Prop := EP K te σ H (is d)
def EA (K : PySem.W.Frag) (ta : TA) (σ : L2.St) (H : Hp) (P : List D → Hp → Prop) : Prop := ∀ H1, Le H H1 → ∀ Q : List V → Hp → Prop, (∀ vs ds H2, Le H1 H2 → P ds H2 → Rps K H2 vs ds → Q vs H2) → ta σ H1 Q
abbrev EDA (K : PySem.W.Frag) (ta : TA) (σ : L2.St) (H : Hp) (ds : List D) : Prop := EA K ta σ H fun x _ => x = ds
def ET (tt : TT) (σ : L2.St) (H : Hp) (P : Bool → Prop) : Prop := ∀ H1, Le H H1 → ∀ Q : Bool → Hp → Prop, (∀ b H2, Le H1 H2 → P b → Q b H2) → tt σ H1 Q
abbrev EB (tt : TT) (σ : L2.St) (H : Hp) (b : Bool) : Prop := ET tt σ H fun x => x = b
def EO (to : TO) (σ : L2.St) (H : Hp) (o : Option Int) : Prop := ∀ H1, Le H H1 → ∀ Q : Option Int → Hp → Prop, (∀ H2, Le H1 H2 → Q o H2) → to σ H1 Q

section
variable {K : PySem.W.Frag} {σ : L2.St} {H H' : Hp} {ta tb tc te : TE} {t u : TT} {x y z v : V} {d d1 d2 d3 : D} {P P1 P2 P3 : Pd}
theorem EP.le (e : Le H H') (h : EP K te σ H P) : EP K te σ H' P := fun H1 a Q q => h H1 (e.trans a) Q q
theorem EA.le {ta : TA} {P : List D → Hp → Prop} (e : Le H H') (h : EA K ta σ H P) : EA K ta σ H' P := fun H1 a Q q => h H1 (e.trans a) Q q
theorem ET.le {P : Bool → Prop} (e : Le H H') (h : ET t σ H P) : ET t σ H' P := fun H1 a Q q => h H1 (e.trans a) Q q
theorem EP.weak (h : EP K te σ H P) (w : ∀ d H2, Le H H2 → P d H2 → P1 d H2) : EP K te σ H P1 := fun H1 a Q q => h H1 a Q fun v d H2 b p r => q v d H2 b (w d H2 (a.trans b) p) r
theorem ed_eq (h : ED K te σ H d) (e : d = d1) : ED K te σ H d1 := e ▸ h
theorem eb_eq {a b : Bool} (h : EB t σ H a) (e : a = b) : EB t σ H b := e ▸ h
/-- then: what comes behind may lean on what was found -/
theorem ed_var {i : Nat} (h : σ[i]? = some (some v)) (r : Rp K H v d) : ED K (tVar i) σ H d := fun H1 e Q q => ⟨v, h, q v d H1 (Le.refl _) rfl (r.le e)⟩
theorem ed_int {i : Int} : ED K (tC (.int i)) σ H (.int i) := fun H1 _ Q q => q _ _ H1 (Le.refl _) rfl (.int i)
theorem ed_bl {b : Bool} : ED K (tC (.bl b)) σ H (.bl b) := fun H1 _ Q q => q _ _ H1 (Le.refl _) rfl (.bl b)
theorem ed_str {s : Str} : ED K (tC (.str s)) σ H (.str s) := fun H1 _ Q q => q _ _ H1 (Le.refl _) rfl (.str s)
theorem ed_non : ED K (tC .non) σ H .non := fun H1 _ Q q => q _ _ H1 (Le.refl _) rfl .non
theorem ed_obj : ED K (tC v) σ H (.obj v) := fun H1 _ Q q => q _ _ H1 (Le.refl _) rfl (.obj v)
/-- two operands -/
theorem ep_op {r : R2} (ha : EP K ta σ H P1) (hb : EP K tb σ H P2)
    (hr : ∀ x y d1 d2 H1 H2, Le H H1 → Le H1 H2 → P1 d1 H1 → P2 d2 H2 → Rp K H2 x d1 → Rp K H2 y d2 → ∀ Q : VK, (∀ v d H3, Le H2 H3 → P d H3 → Rp K H3 v d → Q v H3) → r x y H2 Q) : EP K (tOp r ta tb) σ H P := fun H1 e Q q =>
  ha H1 e _ fun x d1 H2 e2 p1 r1 => hb H2 (e.trans e2) _ fun y d2 H3 e3 p2 r2 =>
    hr x y d1 d2 H2 H3 (e.trans e2) e3 p1 p2 (r1.le e3) r2 Q fun v d H4 e4 p r => q v d H4 ((e2.trans e3).trans e4) p r
theorem ed_op {r : R2} (ha : ED K ta σ H d1) (hb : ED K tb σ H d2)
    (hr : ∀ x y H2, Le H H2 → Rp K H2 x d1 → Rp K H2 y d2 → ∀ Q : VK, (∀ v d H3, Le H2 H3 → P d H3 → Rp K H3 v d → Q v H3) → r x y H2 Q) : EP K (tOp r ta tb) σ H P :=
  ep_op ha hb fun x y e1 e2 H1 H2 a b p1 p2 r1 r2 => by
    subst p1 p2
    exact hr x y H2 (a.trans b) r1 r2
theorem ed_un {r : V → Hp → VK → Prop} (ha : ED K ta σ H d1)
    (hr : ∀ x H2, Le H H2 → Rp K H2 x d1 → ∀ Q : VK, (∀ v d H3, Le H2 H3 → P d H3 → Rp K H3 v d → Q v H3) → r x H2 Q) : EP K (tUn r ta) σ H P := fun H1 e Q q =>
  ha H1 e _ fun x e1 H2 e2 p1 r1 => by
    have p2 : e1 = d1 := p1
    subst p2
    exact hr x H2 (e.trans e2) r1 Q fun v d H4 e4 p r => q v d H4 (e2.trans e4) p r
theorem rp_int {i : Int} (r : Rp K H v (.int i)) : v = .int i := by
  cases r
  rfl
theorem rp_bl {b : Bool} (r : Rp K H v (.bl b)) : v = .bl b := by
  cases r
  rfl
theorem rp_str {s : Str} (r : Rp K H v (.str s)) : v = .str s := by
  cases r
  rfl
theorem rp_non (r : Rp K H v .non) : v = .non := by
  cases r
  rfl
theorem rp_obj {w : V} (r : Rp K H v (.obj w)) : v = w := by
  cases r
  rfl
/-- two ints -/
theorem ep_I0 {g : Int → Int → V} (ha : EP K ta σ H P1) (hb : EP K tb σ H P2)
    (h : ∀ d1 d2 H1 H2, Le H H1 → Le H1 H2 → P1 d1 H1 → P2 d2 H2 → ∃ i j, d1 = .int i ∧ d2 = .int j ∧ ∃ d, P d H2 ∧ Rp K H2 (g i j) d) : EP K (tOp (rI0 g) ta tb) σ H P :=
  ep_op ha hb fun x y d1 d2 H1 H2 a b p1 p2 r1 r2 Q q => by
    obtain ⟨i, j, rfl, rfl, d, p, r⟩ := h d1 d2 H1 H2 a b p1 p2
    exact ⟨i, j, rp_int r1, rp_int r2, q _ d H2 (Le.refl _) p r⟩
theorem ep_I {C : Int → Int → Prop} {g : Int → Int → V} (ha : EP K ta σ H P1) (hb : EP K tb σ H P2)
    (h : ∀ d1 d2 H1 H2, Le H H1 → Le H1 H2 → P1 d1 H1 → P2 d2 H2 → ∃ i j, d1 = .int i ∧ d2 = .int j ∧ C i j ∧ ∃ d, P d H2 ∧ Rp K H2 (g i j) d) : EP K (tOp (rI C g) ta tb) σ H P :=
  ep_op ha hb fun x y d1 d2 H1 H2 a b p1 p2 r1 r2 Q q => by
    obtain ⟨i, j, rfl, rfl, c, d, p, r⟩ := h d1 d2 H1 H2 a b p1 p2
    exact ⟨i, j, rp_int r1, rp_int r2, c, q _ d H2 (Le.refl _) p r⟩
theorem ed_I0 {f : Int → Int → Int} {i j : Int} (ha : ED K ta σ H (.int i)) (hb : ED K tb σ H (.int j)) : ED K (tOp (rI0 fun i j => .int (f i j)) ta tb) σ H (.int (f i j)) :=
  ep_I0 ha hb fun d1 d2 H1 H2 _ _ p1 p2 => ⟨i, j, p1, p2, _, rfl, .int _⟩
theorem ed_B0 {f : Int → Int → Bool} {i j : Int} (ha : ED K ta σ H (.int i)) (hb : ED K tb σ H (.int j)) : ED K (tOp (rI0 fun i j => .bl (f i j)) ta tb) σ H (.bl (f i j)) :=
  ep_I0 ha hb fun d1 d2 H1 H2 _ _ p1 p2 => ⟨i, j, p1, p2, _, rfl, .bl _⟩
theorem ed_I {C : Int → Int → Prop} {f : Int → Int → Int} {i j : Int} (ha : ED K ta σ H (.int i)) (hb : ED K tb σ H (.int j)) (c : C i j) : ED K (tOp (rI C fun i j => .int (f i j)) ta tb) σ H (.int (f i j)) :=
  ep_I ha hb fun d1 d2 H1 H2 _ _ p1 p2 => ⟨i, j, p1, p2, c, _, rfl, .int _⟩
theorem ed_neg {i : Int} (ha : ED K ta σ H (.int i)) : ED K (tUn (rU fun i => .int (-i)) ta) σ H (.int (-i)) :=
  ed_un ha fun x H2 _ r Q q => ⟨i, rp_int r, q _ _ H2 (Le.refl _) rfl (.int _)⟩
/-- flat data: equal just if equal -/
def vOf : D → V
  | .non => .non
  | .bl b => .bl b
  | .int i => .int i
  | .str s => .str s
  | .obj v => v
  | _ => .non
def flat : D → Bool
  | .tup _ => false
  | .lst _ => false
  | _ => true
theorem rp_flat (h : flat d = true) (r : Rp K H v d) : v = vOf d := by
  cases r <;> first | rfl | cases h
theorem flat_rp (h : flat d = true) : Rp K H (vOf d) d := by
  cases d with
  | non => exact .non
  | bl b => exact .bl b
  | int i => exact .int i
  | str s => exact .str s
  | obj v => exact .obj v
  | tup xs => cases h
  | lst xs => cases h
theorem ed_eqS (ha : ED K ta σ H d1) (hb : ED K tb σ H d2) (f1 : flat d1 = true) (f2 : flat d2 = true) (hs : scal (vOf d1) (vOf d2) = true) : ED K (tOp rEq ta tb) σ H (.bl (decide (vOf d1 = vOf d2))) :=
  ed_op ha hb fun x y H2 _ r1 r2 Q q => by
    rw [rp_flat f1 r1, rp_flat f2 r2]
    exact ⟨hs, q _ _ H2 (Le.refl _) rfl (.bl _)⟩
theorem ed_neS (ha : ED K ta σ H d1) (hb : ED K tb σ H d2) (f1 : flat d1 = true) (f2 : flat d2 = true) (hs : scal (vOf d1) (vOf d2) = true) : ED K (tOp rNe ta tb) σ H (.bl (!decide (vOf d1 = vOf d2))) :=
  ed_op ha hb fun x y H2 _ r1 r2 Q q => by
    rw [rp_flat f1 r1, rp_flat f2 r2]
    exact ⟨hs, q _ _ H2 (Le.refl _) rfl (.bl _)⟩
theorem ed_isN (ha : ED K ta σ H d1) (n : ∀ v, d1 ≠ .obj v) : ED K (tOp (fun x y H Q => y = .non ∧ Q (.bl (decide (x = .non))) H) ta (tC .non)) σ H (.bl (match d1 with | .non => true | _ => false)) :=
  ed_op ha ed_non fun x y H2 _ r1 r2 Q q => by
    refine ⟨rp_non r2, ?_⟩
    cases r1 with
    | obj v => exact absurd rfl (n x)
    | _ => exact q _ _ H2 (Le.refl _) rfl (.bl _)
theorem ed_notN (ha : ED K ta σ H d1) (n : ∀ v, d1 ≠ .obj v) : ED K (tOp (fun x y H Q => y = .non ∧ Q (.bl (!decide (x = .non))) H) ta (tC .non)) σ H (.bl (match d1 with | .non => false | _ => true)) :=
  ed_op ha ed_non fun x y H2 _ r1 r2 Q q => by
    refine ⟨rp_non r2, ?_⟩
    cases r1 with
    | obj v => exact absurd rfl (n x)
    | _ => exact q _ _ H2 (Le.refl _) rfl (.bl _)
/-! tuples and lists -/
theorem rp_tup {ds : List D} (r : Rp K H v (.tup ds)) : ∃ a xs, v = .ref a ∧ SqT K H a xs ∧ Rps K H xs ds := by
  cases r with
  | tup h r => exact ⟨_, _, rfl, h, r⟩
theorem rp_lst {ds : List D} (r : Rp K H v (.lst ds)) : ∃ a xs, v = .ref a ∧ H a = some (.lst xs) ∧ NotH xs ∧ Rps K H xs ds := by
  cases r with
  | lst h n r => exact ⟨_, _, rfl, h, n, r⟩
theorem atI_rps {xs : List V} {ds : List D} {i : Int} (r : Rps K H xs ds) (h : 0 ≤ i) (e : ds[i.toNat]? = some d) : ∃ v, atI xs i = some v ∧ Rp K H v d := by
  obtain ⟨v, h1, h2⟩ := r.at e
  have ei : i = (i.toNat : Int) := by omega
  rw [ei]
  exact ⟨v, atI_nat h1, h2⟩
theorem ed_ixT {ds : List D} {i : Int} (ha : ED K ta σ H (.tup ds)) (hb : ED K tb σ H (.int i)) (h : 0 ≤ i) (e : ds[i.toNat]? = some d) : ED K (tOp (rIxT K) ta tb) σ H d :=
  ed_op ha hb fun x y H2 _ r1 r2 Q q => by
    obtain ⟨a, xs, rfl, s, r⟩ := rp_tup r1
    obtain ⟨v, h1, h2⟩ := atI_rps r h e
    exact ⟨a, xs, i, v, rfl, rp_int r2, s, h1, q v d H2 (Le.refl _) rfl h2⟩
theorem ed_ixL {ds : List D} {i : Int} (ha : ED K ta σ H (.lst ds)) (hb : ED K tb σ H (.int i)) (h : 0 ≤ i) (e : ds[i.toNat]? = some d) : ED K (tOp (rIxL K) ta tb) σ H d :=
  ed_op ha hb fun x y H2 _ r1 r2 Q q => by
    obtain ⟨a, xs, rfl, s, _, r⟩ := rp_lst r1
    obtain ⟨v, h1, h2⟩ := atI_rps r h e
    exact ⟨a, xs, i, v, rfl, rp_int r2, SqL.of s, h1, q v d H2 (Le.refl _) rfl h2⟩
theorem ea_nil : EDA K tNil σ H [] := fun H1 _ Q q => q [] [] H1 (Le.refl _) rfl .nil
theorem ep_cons {tr : TA} {PA : List D → Hp → Prop} (h : EP K ta σ H P) (hr : EA K tr σ H PA) : EA K (tCons ta tr) σ H (fun ds H2 => ∃ d r H1, ds = d :: r ∧ Le H1 H2 ∧ P d H1 ∧ PA r H2) := fun H1 e Q q =>
  h H1 e _ fun x d H2 e2 p r => hr H2 (e.trans e2) _ fun xs ds H3 e3 p3 r3 => q _ (d :: ds) H3 (e2.trans e3) ⟨d, ds, H2, rfl, e3, p, p3⟩ (.cons (r.le e3) r3)
theorem ea_cons {tr : TA} {ds : List D} (h : ED K ta σ H d) (hr : EDA K tr σ H ds) : EDA K (tCons ta tr) σ H (d :: ds) := fun H1 e Q q =>
  h H1 e _ fun x d' H2 e2 p r => hr H2 (e.trans e2) _ fun xs ds' H3 e3 p3 r3 => q _ (d' :: ds') H3 (e2.trans e3) (by rw [show d' = d from p, show ds' = ds from p3]) (.cons (r.le e3) r3)
theorem ep_tup {ta : TA} {PA : List D → Hp → Prop} (h : EA K ta σ H PA) (hl : ∀ ds H2, PA ds H2 → ds.length ≤ 100000) (hP : ∀ ds H2, PA ds H2 → ∀ H3, Le H2 H3 → P (.tup ds) H3) : EP K (tTup ta) σ H P := fun H1 e Q q =>
  h H1 e _ fun xs ds H2 e2 p r => ⟨by rw [r.len]; exact Evl.sz_of (hl ds H2 p), fun a na => q _ (.tup ds) _ (e2.trans (Le.new na)) (hP ds H2 p _ (Le.new na)) (.tup (Evl.st_of upd_same) (r.le (Le.new na)))⟩
theorem ed_tup {ta : TA} {ds : List D} (h : EDA K ta σ H ds) (hl : ds.length ≤ 100000) : ED K (tTup ta) σ H (.tup ds) :=
  ep_tup h (fun ds' H2 p => by rw [show ds' = ds from p]; exact hl) fun ds' H2 p H3 _ => by rw [show ds' = ds from p]
theorem ep_lst {ta : TA} {PA : List D → Hp → Prop} (h : EA K ta σ H PA) (hl : ∀ ds H2, PA ds H2 → ds.length ≤ 100000) (hn : ∀ ds H2 xs, PA ds H2 → Rps K H2 xs ds → NotH xs) (hP : ∀ ds H2, PA ds H2 → ∀ H3, Le H2 H3 → P (.lst ds) H3) : EP K (tLst ta) σ H P := fun H1 e Q q =>
  h H1 e _ fun xs ds H2 e2 p r => ⟨by rw [r.len]; exact Evl.sz_of (hl ds H2 p), fun a na => q _ (.lst ds) _ (e2.trans (Le.new na)) (hP ds H2 p _ (Le.new na)) (.lst upd_same (hn ds H2 xs p r) (r.le (Le.new na)))⟩
/-- what data can't be a hand -/
def calmL : List D → Bool
  | [.obj _, .int _, .int _, .int _, .int _] => false
  | [.tup _, .int _, .int _, .int _, .int _] => false
  | [.lst _, .int _, .int _, .int _, .int _] => false
  | [_, .obj _, _, _, _] => false
  | [_, _, .obj _, _, _] => false
  | [_, _, _, .obj _, _] => false
  | [_, _, _, _, .obj _] => false
  | _ => true
theorem calm_notH {xs : List V} {ds : List D} (h : calmL ds = true) (r : Rps K H xs ds) : NotH xs := fun c p x s n e => by
  subst e
  cases r with
  | cons r1 r =>
    cases r with
    | cons r2 r =>
      cases r with
      | cons r3 r =>
        cases r with
        | cons r4 r =>
          cases r with
          | cons r5 r =>
            cases r
            cases r2 <;> cases r3 <;> cases r4 <;> cases r5 <;> cases r1 <;> cases h
theorem ed_lst {ta : TA} {ds : List D} (h : EDA K ta σ H ds) (hl : ds.length ≤ 100000) (hc : calmL ds = true) : ED K (tLst ta) σ H (.lst ds) :=
  ep_lst h (fun ds' H2 p => by rw [show ds' = ds from p]; exact hl) (fun ds' H2 xs p r => by rw [show ds' = ds from p] at r; exact calm_notH hc r) fun ds' H2 p H3 _ => by rw [show ds' = ds from p]
theorem ed_lenT {ds : List D} (ha : ED K ta σ H (.tup ds)) : ED K (tCB (fun xs H Q => ∃ p ys, xs = [.ref p] ∧ (SqL K H p ys ∨ SqT K H p ys) ∧ Q (.int ys.length) H) (tCons ta tNil)) σ H (.int (ds.length : Int)) := fun H1 e Q q =>
  ha H1 e _ fun x d H2 e2 p r => by
    have p' : d = .tup ds := p
    subst p'
    obtain ⟨a, xs, rfl, s, r'⟩ := rp_tup r
    exact ⟨a, xs, rfl, .inr s, q _ _ H2 e2 (by rw [r'.len]) (.int _)⟩
theorem ed_lenL {ds : List D} (ha : ED K ta σ H (.lst ds)) : ED K (tCB (fun xs H Q => ∃ p ys, xs = [.ref p] ∧ (SqL K H p ys ∨ SqT K H p ys) ∧ Q (.int ys.length) H) (tCons ta tNil)) σ H (.int (ds.length : Int)) := fun H1 e Q q =>
  ha H1 e _ fun x d H2 e2 p r => by
    have p' : d = .lst ds := p
    subst p'
    obtain ⟨a, xs, rfl, s, _, r'⟩ := rp_lst r
    exact ⟨a, xs, rfl, .inl (SqL.of s), q _ _ H2 e2 (by rw [r'.len]) (.int _)⟩
/-! tests -/
theorem et_test {b : Bool} (h : ED K te σ H (.bl b)) : EB (tTest te) σ H b := fun H1 e Q q => h H1 e _ fun v d H2 e2 p r => by
  have p' : d = .bl b := p
  subst p'
  exact ⟨b, rp_bl r, q b H2 e2 rfl⟩
theorem et_B {b : Bool} (h : ED K te σ H (.bl b)) : EB (tB te) σ H b := fun H1 e Q q => h H1 e _ fun v d H2 e2 p r => by
  have p' : d = .bl b := p
  subst p'
  exact ⟨b, rp_bl r, q b H2 e2 rfl⟩
theorem et_Bp (h : EP K te σ H fun d _ => ∃ b, d = .bl b) : ET (tB te) σ H fun _ => True := fun H1 e Q q => h H1 e _ fun v d H2 e2 p r => by
  obtain ⟨b, rfl⟩ := p
  exact ⟨b, rp_bl r, q b H2 e2 trivial⟩
theorem et_testp (h : EP K te σ H fun d _ => ∃ b, d = .bl b) : ET (tTest te) σ H fun _ => True := fun H1 e Q q => h H1 e _ fun v d H2 e2 p r => by
  obtain ⟨b, rfl⟩ := p
  exact ⟨b, rp_bl r, q b H2 e2 trivial⟩
theorem eb_and {a b : Bool} (h1 : EB t σ H a) (h2 : a = true → EB u σ H b) : EB (tAnd t u) σ H (a && b) := fun H1 e Q q => h1 H1 e _ fun x H2 e2 p => by
  subst p
  cases x with
  | true =>
    show u σ H2 Q
    exact h2 rfl H2 (e.trans e2) Q fun y H3 e3 p3 => q y H3 (e2.trans e3) p3
  | false =>
    show Q false H2
    exact q false H2 e2 rfl
theorem eb_or {a b : Bool} (h1 : EB t σ H a) (h2 : a = false → EB u σ H b) : EB (tOr t u) σ H (a || b) := fun H1 e Q q => h1 H1 e _ fun x H2 e2 p => by
  subst p
  cases x with
  | true =>
    show Q true H2
    exact q true H2 e2 rfl
  | false =>
    show u σ H2 Q
    exact h2 rfl H2 (e.trans e2) Q fun y H3 e3 p3 => q y H3 (e2.trans e3) p3
theorem et_and {P1 P2 : Bool → Prop} (h1 : ET t σ H P1) (h2 : P1 true → ET u σ H P2) : ET (tAnd t u) σ H (fun b => (b = true ∧ P1 true ∧ P2 true) ∨ (b = false ∧ (P1 false ∨ P1 true ∧ P2 false))) := fun H1 e Q q => h1 H1 e _ fun x H2 e2 p => by
  cases x with
  | true =>
    show u σ H2 Q
    refine h2 p H2 (e.trans e2) Q fun y H3 e3 p3 => q y H3 (e2.trans e3) ?_
    cases y with
    | true => exact .inl ⟨rfl, p, p3⟩
    | false => exact .inr ⟨rfl, .inr ⟨p, p3⟩⟩
  | false =>
    show Q false H2
    exact q false H2 e2 (.inr ⟨rfl, .inl p⟩)
theorem et_weak {P1 P2 : Bool → Prop} (h : ET t σ H P1) (w : ∀ b, P1 b → P2 b) : ET t σ H P2 := fun H1 e Q q => h H1 e Q fun b H2 e2 p => q b H2 e2 (w b p)
theorem eb_not {a : Bool} (h : EB t σ H a) : EB (tNot t) σ H (!a) := fun H1 e Q q => h H1 e _ fun x H2 e2 p => q (!x) H2 e2 (by rw [p])
theorem ed_andV {a b : Bool} (h1 : ED K ta σ H (.bl a)) (h2 : a = true → ED K tb σ H (.bl b)) : ED K (tAndV ta tb) σ H (.bl (a && b)) := fun H1 e Q q => h1 H1 e _ fun v d H2 e2 p r => by
  have p' : d = .bl a := p
  subst p'
  refine ⟨a, rp_bl r, ?_⟩
  cases a with
  | true =>
    show tb σ H2 Q
    exact h2 rfl H2 (e.trans e2) Q fun v d H3 e3 p3 r3 => q v d H3 (e2.trans e3) p3 r3
  | false =>
    show Q (.bl false) H2
    exact q _ _ H2 e2 rfl (.bl false)
theorem ed_orV {a b : Bool} (h1 : ED K ta σ H (.bl a)) (h2 : a = false → ED K tb σ H (.bl b)) : ED K (tOrV ta tb) σ H (.bl (a || b)) := fun H1 e Q q => h1 H1 e _ fun v d H2 e2 p r => by
  have p' : d = .bl a := p
  subst p'
  refine ⟨a, rp_bl r, ?_⟩
  cases a with
  | true =>
    show Q (.bl true) H2
    exact q _ _ H2 e2 rfl (.bl true)
  | false =>
    show tb σ H2 Q
    exact h2 rfl H2 (e.trans e2) Q fun v d H3 e3 p3 r3 => q v d H3 (e2.trans e3) p3 r3
theorem ed_notV {a : Bool} (h : ED K ta σ H (.bl a)) : ED K (tNotV ta) σ H (.bl (!a)) := fun H1 e Q q => h H1 e _ fun v d H2 e2 p r => by
  have p' : d = .bl a := p
  subst p'
  exact ⟨a, rp_bl r, q _ _ H2 e2 rfl (.bl _)⟩
theorem ep_if {b : Bool} (h : EB t σ H b) (h1 : b = true → EP K ta σ H P) (h2 : b = false → EP K tb σ H P) : EP K (tIf t ta tb) σ H P := fun H1 e Q q => h H1 e _ fun x H2 e2 p => by
  subst p
  cases x with
  | true =>
    show ta σ H2 Q
    exact h1 rfl H2 (e.trans e2) Q fun v d H3 e3 p3 r3 => q v d H3 (e2.trans e3) p3 r3
  | false =>
    show tb σ H2 Q
    exact h2 rfl H2 (e.trans e2) Q fun v d H3 e3 p3 r3 => q v d H3 (e2.trans e3) p3 r3
/-- a <= b <= c, and the like -/
theorem ed_chain {f g : Int → Int → Bool} {i j k : Int} (ha : ED K ta σ H (.int i)) (hb : ED K tb σ H (.int j)) (hc : ED K tc σ H (.int k)) :
    ED K (tChain (rI0 fun i j => .bl (f i j)) (rI0 fun i j => .bl (g i j)) ta tb tc) σ H (.bl (f i j && g j k)) := fun H1 e Q q =>
  ha H1 e _ fun x d1 H2 e2 p1 r1 => hb H2 (e.trans e2) _ fun y d2 H3 e3 p2 r2 => by
    have p1' : d1 = .int i := p1
    have p2' : d2 = .int j := p2
    subst p1' p2'
    refine ⟨i, j, rp_int r1, rp_int r2, f i j, rfl, ?_⟩
    cases hf : f i j with
    | true =>
      show tc σ H3 _
      refine hc H3 ((e.trans e2).trans e3) _ fun z d3 H4 e4 p3 r3 => ?_
      have p3' : d3 = .int k := p3
      subst p3'
      exact ⟨j, k, rp_int r2, rp_int r3, q (.bl (g j k)) (.bl (g j k)) H4 ((e2.trans e3).trans e4) (by show D.bl _ = D.bl _; rw [hf, Bool.true_and]) (.bl _)⟩
    | false =>
      show Q (.bl false) H3
      exact q (.bl false) (.bl false) H3 (e2.trans e3) (by show D.bl _ = D.bl _; rw [hf, Bool.false_and]) (.bl false)
/-! calls -/
/-- a promise told in data: R args heap P says that the answer's data has P -/
def spD (K : PySem.W.Frag) (R : List D → Hp → Pd → Prop) : Sp := fun vs H Q _ => ∃ ds P, Rps K H vs ds ∧ R ds H P ∧ ∀ v d H2, Le H H2 → P d H2 → Rp K H2 v d → Q v H2
theorem ep_call {R : List D → Hp → Pd → Prop} {E : XK} {ta : TA} {PA : List D → Hp → Prop} (h : EA K ta σ H PA) (hr : ∀ ds H2, Le H H2 → PA ds H2 → ∃ P1, R ds H2 P1 ∧ ∀ d H3, Le H2 H3 → P1 d H3 → P d H3) : EP K (tCall (spD K R) [] E ta) σ H P := fun H1 e Q q =>
  h H1 e _ fun vs ds H2 e2 p r => by
    obtain ⟨P1, h1, w⟩ := hr ds H2 (e.trans e2) p
    exact ⟨ds, P1, by rw [List.append_nil]; exact r, h1, fun v d H3 e3 p3 r3 => q v d H3 (e2.trans e3) (w d H3 e3 p3) r3⟩
theorem ed_call {R : List D → Hp → Pd → Prop} {E : XK} {ta : TA} {ds : List D} (h : EDA K ta σ H ds) (hr : ∀ H2, Le H H2 → R ds H2 P) : EP K (tCall (spD K R) [] E ta) σ H P :=
  ep_call h fun ds' H2 e p => by
    have p' : ds' = ds := p
    subst p'
    exact ⟨P, hr H2 e, fun _ _ _ x => x⟩
end
end W1

set_option maxRecDepth 100000
set_option maxHeartbeats 4000000
/-! statements, loops, comprehensions, built-ins in data -/
namespace W1
open PySem L2

/-- no list within -/
inductive NoL : D → Prop
  | non : NoL .non
  | bl (b : Bool) : NoL (.bl b)
  | int (i : Int) : NoL (.int i)
  | str (s : Str) : NoL (.str s)
  | obj (v : V) : NoL (.obj v)
  | tup {ds : List D} : (∀ d ∈ ds, NoL d) → NoL (.tup ds)
section
variable {K : PySem.W.Frag} {H H' : Hp}
theorem sqt_upd {a l : Addr} {xs : List V} {o : HO} (hl : ∀ ys, H l ≠ some (.tup ys)) (hz : ∀ ob u, H l ≠ some (.frz ob u)) (h : SqT K H a xs) : SqT K (upd H l o) a xs := by
  rcases h with (h | ⟨ob, h⟩) | h
  · have n : a ≠ l := fun e => hl xs (e ▸ h)
    exact .inl (.inl (by rw [upd_ne n]; exact h))
  · have n : a ≠ l := fun e => hz ob _ (e ▸ h)
    exact .inl (.inr ⟨ob, by rw [upd_ne n]; exact h⟩)
  · exact .inr h
mutual
/-- a list changes: what holds no list stands -/
theorem Rp.upd {l : Addr} {ys : List V} {o : HO} (hl : H l = some (.lst ys)) {v : V} {d : D} (n : NoL d) : Rp K H v d → Rp K (L2.upd H l o) v d
  | .non => .non
  | .bl b => .bl b
  | .int i => .int i
  | .str x => .str x
  | .obj v => .obj v
  | .tup h r => .tup (sqt_upd (fun ys e => by rw [hl] at e; cases e) (fun ob u e => by rw [hl] at e; cases e) h) (Rps.upd hl (by cases n with | tup n => exact n) r)
  | .lst h _ r => nomatch n
theorem Rps.upd {l : Addr} {ys : List V} {o : HO} (hl : H l = some (.lst ys)) {vs : List V} {ds : List D} (n : ∀ d ∈ ds, NoL d) : Rps K H vs ds → Rps K (L2.upd H l o) vs ds
  | .nil => .nil
  | .cons h r => .cons (Rp.upd hl (n _ (List.mem_cons_self ..)) h) (Rps.upd hl (fun d hd => n d (List.mem_cons_of_mem _ hd)) r)
end
/-- data whose lists can't be a hand: all ints, or no int at all -/
def Uni (ds : List D) : Prop := (∀ d ∈ ds, ∃ i, d = .int i) ∨ ∀ d ∈ ds, (∀ i, d ≠ .int i) ∧ ∀ v, d ≠ .obj v
theorem Uni.notH {ds : List D} {vs : List V} (u : Uni ds) (r : Rps K H vs ds) : NotH vs := fun c p x s n e => by
  subst e
  cases r with
  | @cons _ _ d1 ds1 r1 r =>
    cases r with
    | @cons _ _ d2 ds2 r2 r =>
      rcases u with u | u
      · obtain ⟨i, e⟩ := u d1 (List.mem_cons_self ..)
        subst e
        cases r1
      · obtain ⟨h1, h2⟩ := u d2 (List.mem_cons_of_mem _ (List.mem_cons_self ..))
        cases r2 with
        | int i => exact h1 _ rfl
        | obj v => exact h2 _ rfl
theorem Uni.app {ds : List D} {d : D} (u : Uni (ds ++ [d])) : Uni ds := by
  rcases u with u | u
  · exact .inl fun x hx => u x (List.mem_append_left _ hx)
  · exact .inr fun x hx => u x (List.mem_append_left _ hx)
theorem uni_ints (ns : List Int) : Uni (ns.map D.int) := .inl fun d hd => by
  obtain ⟨i, _, rfl⟩ := List.mem_map.mp hd
  exact ⟨i, rfl⟩
theorem noL_ints (ns : List Int) : ∀ d ∈ ns.map D.int, NoL d := fun d hd => by
  obtain ⟨i, _, rfl⟩ := List.mem_map.mp hd
  exact .int i
end

/-! ### statements -/
section
variable {K : PySem.W.Frag} {σ : L2.St} {H H' : Hp} {ta tb tc te : TE} {t u : TT} {x y z v : V} {d d1 d2 d3 : D} {P P1 P2 P3 : Pd} {D1 : Ends} {tu tw : TS} {g : TG}
theorem s_asg {i : Nat} (h : EP K te σ H P) (k : ∀ v d H1, Le H H1 → P d H1 → Rp K H1 v d → D1.nx (σ.set i (some v)) H1) : tAsg te (gName i) D1 σ H := h H (Le.refl _) _ k
theorem s_asgD {i : Nat} (h : ED K te σ H d) (k : ∀ v H1, Le H H1 → Rp K H1 v d → D1.nx (σ.set i (some v)) H1) : tAsg te (gName i) D1 σ H := h H (Le.refl _) _ fun v d' H1 e p r => by
  have p' : d' = d := p
  subst p'
  exact k v H1 e r
theorem s_tup2 {i j : Nat} (h : ED K te σ H (.tup [d1, d2])) (k : ∀ v w H1, Le H H1 → Rp K H1 v d1 → Rp K H1 w d2 → D1.nx ((σ.set i (some v)).set j (some w)) H1) : tAsg te (gTup K 2 (gCons (gName i) (gCons (gName j) gNil))) D1 σ H := h H (Le.refl _) _ fun v d' H1 e p r => by
  have p' : d' = .tup [d1, d2] := p
  subst p'
  obtain ⟨a, xs, rfl, s, r⟩ := rp_tup r
  cases r with
  | cons r1 r =>
    cases r with
    | cons r2 r =>
      cases r
      exact ⟨a, _, rfl, s, rfl, _, _, rfl, _, _, rfl, rfl, k _ _ H1 e r1 r2⟩
theorem s_tup3 {i j l : Nat} {PA : List D → Hp → Prop} {ta : TA} (h : EA K ta σ H PA) (hl : ∀ ds H1, PA ds H1 → ds.length = 3)
    (k : ∀ v w u d1 d2 d3 H1, Le H H1 → PA [d1, d2, d3] H1 → Rp K H1 v d1 → Rp K H1 w d2 → Rp K H1 u d3 → ∀ H2, Le H1 H2 → D1.nx (((σ.set i (some v)).set j (some w)).set l (some u)) H2) : tAsg (tTup ta) (gTup K 3 (gCons (gName i) (gCons (gName j) (gCons (gName l) gNil)))) D1 σ H := h H (Le.refl _) _ fun vs ds H1 e p r => by
  have l3 := hl ds H1 p
  refine ⟨by rw [r.len, l3]; decide, fun a na => ?_⟩
  cases r with
  | nil => cases l3
  | cons r1 r =>
    cases r with
    | nil => cases l3
    | cons r2 r =>
      cases r with
      | nil => cases l3
      | cons r3 r =>
        cases r with
        | cons _ _ =>
          simp at l3
        | nil => exact ⟨a, _, rfl, Evl.st_of upd_same, rfl, _, _, rfl, _, _, rfl, _, _, rfl, rfl, k _ _ _ _ _ _ H1 e p r1 r2 r3 _ (Le.new na)⟩
theorem s_par2 {i j : Nat} {ta : TA} {PA : List D → Hp → Prop} (h : EA K ta σ H PA) (hl : ∀ ds H1, PA ds H1 → ds.length = 2)
    (k : ∀ v w d1 d2 H1, Le H H1 → PA [d1, d2] H1 → Rp K H1 v d1 → Rp K H1 w d2 → D1.nx ((σ.set i (some v)).set j (some w)) H1) : tPar i j ta D1 σ H := h H (Le.refl _) _ fun vs ds H1 e p r => by
  have l2 := hl ds H1 p
  cases r with
  | nil => cases l2
  | cons r1 r =>
    cases r with
    | nil => cases l2
    | cons r2 r =>
      cases r with
      | nil => exact ⟨_, _, rfl, k _ _ _ _ H1 e p r1 r2⟩
      | cons _ _ => simp at l2
theorem s_ret (h : EP K te σ H P) (k : ∀ v d H1, Le H H1 → P d H1 → Rp K H1 v d → D1.rt v H1) : tRet te D1 σ H := h H (Le.refl _) _ k
theorem s_retD (h : ED K te σ H d) (k : ∀ v H1, Le H H1 → Rp K H1 v d → D1.rt v H1) : tRet te D1 σ H := h H (Le.refl _) _ fun v d' H1 e p r => by
  have p' : d' = d := p
  subst p'
  exact k v H1 e r
theorem s_drop (h : EP K te σ H P) (k : ∀ H1, Le H H1 → D1.nx σ H1) : tDrop te D1 σ H := h H (Le.refl _) _ fun _ _ H1 e _ _ => k H1 e
theorem s_if {P : Bool → Prop} (h : ET t σ H P) (h1 : P true → ∀ H1, Le H H1 → tu D1 σ H1) (h2 : P false → ∀ H1, Le H H1 → tw D1 σ H1) : tIfS t tu tw D1 σ H := h H (Le.refl _) _ fun b H1 e p => by
  cases b with
  | true =>
    show tu D1 σ H1
    exact h1 p H1 e
  | false =>
    show tw D1 σ H1
    exact h2 p H1 e
theorem s_ifB {b : Bool} (h : EB t σ H b) (h1 : b = true → ∀ H1, Le H H1 → tu D1 σ H1) (h2 : b = false → ∀ H1, Le H H1 → tw D1 σ H1) : tIfS t tu tw D1 σ H :=
  s_if h (fun p => h1 p.symm) fun p => h2 p.symm
theorem s_skip (k : D1.nx σ H) : tNext D1 σ H := k
/-- xs[i] = e on a list of one's own -/
theorem s_set {l : Addr} {vs : List V} {ds : List D} {i : Int} (hl : H l = some (.lst vs)) (nh : NotH vs) (hr : vs.length = ds.length) (h : EP K te σ H P) (ho : ∀ H1, Le H H1 → ED K ta σ H1 (.obj (.ref l))) (hi : ∀ H1, Le H H1 → ED K tb σ H1 (.int i)) (h0 : 0 ≤ i) (hj : i < ds.length)
    (k : ∀ y d H1 H3, Le H H1 → P d H1 → Le H1 H3 → Rp K H3 y d → H3 l = some (.lst vs) → D1.nx σ (upd H3 l (.lst (vs.set i.toNat y)))) : tAsg te (gSub ta tb rSetL) D1 σ H := h H (Le.refl _) _ fun y d H1 e1 p r =>
  ho H1 e1 H1 (Le.refl _) _ fun o d2 H2 e2 p2 r2 => hi H1 e1 H2 e2 _ fun z d3 H3 e3 p3 r3 => by
    have p2' : d2 = .obj (.ref l) := p2
    have p3' : d3 = .int i := p3
    subst p2' p3'
    have l3 := ((e1.trans e2).trans e3).lst hl nh
    refine ⟨l, vs, i, i.toNat, rp_obj r2, rp_int r3, l3, ?_, k y d H1 H3 e1 p (e2.trans e3) (r.le (e2.trans e3)) l3⟩
    unfold ixN
    rw [if_pos h0, if_pos (by rw [hr]; exact hj)]
/-- xs.append(e) on a list of one's own -/
theorem s_app {l : Addr} {vs : List V} (hl : H l = some (.lst vs)) (nh : NotH vs) (ha : ED K ta σ H (.obj (.ref l))) (h : ∀ H1, Le H H1 → EP K te σ H1 P) (hz : vs.length < 100000)
    (k : ∀ y d H1, Le H H1 → P d H1 → Rp K H1 y d → H1 l = some (.lst vs) → D1.nx σ (upd H1 l (.lst (vs ++ [y])))) : tDrop (tBM K "list" rAppend ta (tCons te tNil)) D1 σ H := ha H (Le.refl _) _ fun o d1 H1 e1 p1 r1 => by
  have p1' : d1 = .obj (.ref l) := p1
  subst p1'
  have eo := rp_obj r1
  subst eo
  refine ⟨.inl ⟨rfl, vs, Evl.sq_of (e1.lst hl nh)⟩, h H1 e1 H1 (Le.refl _) _ fun y d H2 e2 p r => ?_⟩
  have l2 := (e1.trans e2).lst hl nh
  exact ⟨l, vs, y, rfl, rfl, l2, Evl.sz_lt hz, k y d H2 (e1.trans e2) p r l2⟩
/-- xs.extend(e), e a list -/
theorem s_ext {l : Addr} {vs : List V} {ds : List D} (hl : H l = some (.lst vs)) (nh : NotH vs) (ha : ED K ta σ H (.obj (.ref l))) (h : ∀ H1, Le H H1 → ED K te σ H1 (.lst ds)) (hz : vs.length + ds.length ≤ 100000)
    (k : ∀ ws H1, Le H H1 → Rps K H1 ws ds → H1 l = some (.lst vs) → D1.nx σ (upd H1 l (.lst (vs ++ ws)))) : tDrop (tBM K "list" rExtend ta (tCons te tNil)) D1 σ H := ha H (Le.refl _) _ fun o d1 H1 e1 p1 r1 => by
  have p1' : d1 = .obj (.ref l) := p1
  subst p1'
  have eo := rp_obj r1
  subst eo
  refine ⟨.inl ⟨rfl, vs, Evl.sq_of (e1.lst hl nh)⟩, h H1 e1 H1 (Le.refl _) _ fun y d H2 e2 p r => ?_⟩
  have p' : d = .lst ds := p
  subst p'
  obtain ⟨b, ws, rfl, hb, _, rr⟩ := rp_lst r
  have l2 := (e1.trans e2).lst hl nh
  exact ⟨l, b, vs, ws, rfl, rfl, l2, hb, by rw [rr.len]; exact Evl.sz_of hz, k ws H2 (e1.trans e2) rr l2⟩
end

/-! ### what stands for tuples, whatever lists do -/
structure LeT (H H' : Hp) : Prop where
  tup : ∀ a xs, H a = some (.tup xs) → H' a = some (.tup xs)
  frz : ∀ a o u, H a = some (.frz o u) → H' a = some (.frz o u)
  ins : ∀ a C dx fs, H a = some (.ins C dx fs) → H' a = some (.ins C dx fs)
theorem LeT.refl (H : Hp) : LeT H H := ⟨fun _ _ h => h, fun _ _ _ h => h, fun _ _ _ _ h => h⟩
theorem LeT.trans {H H1 H2 : Hp} (a : LeT H H1) (b : LeT H1 H2) : LeT H H2 := ⟨fun x xs h => b.tup x xs (a.tup x xs h), fun x o u h => b.frz x o u (a.frz x o u h), fun x C dx fs h => b.ins x C dx fs (a.ins x C dx fs h)⟩
theorem Le.t {H H' : Hp} (e : Le H H') : LeT H H' := ⟨fun _ _ h => e.tup h, fun _ _ _ h => e.frz h, fun _ _ _ _ h => e.ins h⟩
theorem LeT.upd {H : Hp} {l : Addr} {ys : List V} {o : HO} (hl : H l = some (.lst ys)) : LeT H (L2.upd H l o) := by
  refine ⟨fun a xs h => ?_, fun a o u h => ?_, fun a C dx fs h => ?_⟩
  all_goals
    have n : a ≠ l := fun e => by
      rw [e, hl] at h
      cases h
    rw [upd_ne n]
    exact h
theorem LeT.sqt {K : PySem.W.Frag} {H H' : Hp} {a : Addr} {xs : List V} (e : LeT H H') (h : SqT K H a xs) : SqT K H' a xs := by
  rcases h with (h | ⟨o, h⟩) | h
  · exact .inl (.inl (e.tup _ _ h))
  · exact .inl (.inr ⟨o, e.frz _ _ _ h⟩)
  · exact .inr h
section
variable {K : PySem.W.Frag} {H H' : Hp}
mutual
theorem Rp.leT (e : LeT H H') {v : V} {d : D} (n : NoL d) : Rp K H v d → Rp K H' v d
  | .non => .non
  | .bl b => .bl b
  | .int i => .int i
  | .str x => .str x
  | .obj v => .obj v
  | .tup h r => .tup (e.sqt h) (Rps.leT e (by cases n with | tup n => exact n) r)
  | .lst h _ r => nomatch n
theorem Rps.leT (e : LeT H H') {vs : List V} {ds : List D} (n : ∀ d ∈ ds, NoL d) : Rps K H vs ds → Rps K H' vs ds
  | .nil => .nil
  | .cons h r => .cons (Rp.leT e (n _ (List.mem_cons_self ..)) h) (Rps.leT e (fun d hd => n d (List.mem_cons_of_mem _ hd)) r)
end
end

/-! ### loops -/
section
variable {K : PySem.W.Frag} {σ : L2.St} {H H' : Hp} {ta tb tc te : TE} {t u : TT} {d d1 d2 d3 : D} {P P1 P2 P3 : Pd} {D1 : Ends} {tu tw : TS} {g : TG}
abbrev bodyEnds (D1 : Ends) (N : L2.St → Hp → Prop) : Ends := { D1 with nx := N, ct := N, bk := D1.nx }
theorem s_forT {ds : List D} (h : ED K te σ H (.tup ds)) (nl : ∀ d ∈ ds, NoL d)
    (k : ∀ H1, Le H H1 → ∃ Pv : Nat → L2.St → Hp → Prop, Pv 0 σ H1 ∧ (∀ i σ' H', i ≤ ds.length → Pv i σ' H' → LeT H1 H') ∧
      (∀ i d v σ' H', ds[i]? = some d → Rp K H' v d → Pv i σ' H' → g v σ' H' fun σ2 H2 => tu (bodyEnds D1 (Pv (i + 1))) σ2 H2) ∧ ∀ σ' H', Pv ds.length σ' H' → D1.nx σ' H') : tFor (iTup K te) g tu D1 σ H := h H (Le.refl _) _ fun v d0 H1 e p r => by
  have p' : d0 = .tup ds := p
  subst p'
  obtain ⟨a, xs, rfl, s, rr⟩ := rp_tup r
  obtain ⟨Pv, h0, hle, hs, hd⟩ := k H1 e
  refine ⟨a, rfl, ⟨xs, s⟩, for_it (walk_tup (xs := xs)) Pv h0 (fun i σ' H' hi q => (hle i σ' H' (by rw [← rr.len]; exact hi) q).sqt s) ?_ (fun σ' H' q => hd σ' H' (by rw [← rr.len]; exact q))⟩
  rintro i x σ' H' _ hi q ⟨rfl, hx⟩
  obtain ⟨d, h1, h2⟩ := rr.at' hx
  exact hs i d x σ' _ h1 (h2.leT (hle i σ' _ (by rw [← rr.len]; omega) q) (nl d (List.mem_of_getElem? h1))) q
theorem s_forL {ds : List D} (h : ED K te σ H (.lst ds)) (nl : ∀ d ∈ ds, NoL d)
    (k : ∀ a vs H1, Le H H1 → H1 a = some (.lst vs) → Rps K H1 vs ds → ∃ Pv : Nat → L2.St → Hp → Prop, Pv 0 σ H1 ∧ (∀ i σ' H', i ≤ ds.length → Pv i σ' H' → LeT H1 H' ∧ H' a = some (.lst vs)) ∧
      (∀ i d v σ' H', ds[i]? = some d → Rp K H' v d → Pv i σ' H' → g v σ' H' fun σ2 H2 => tu (bodyEnds D1 (Pv (i + 1))) σ2 H2) ∧ ∀ σ' H', Pv ds.length σ' H' → D1.nx σ' H') : tFor (iList K te) g tu D1 σ H := h H (Le.refl _) _ fun v d0 H1 e p r => by
  have p' : d0 = .lst ds := p
  subst p'
  obtain ⟨a, xs, rfl, s, nh, rr⟩ := rp_lst r
  obtain ⟨Pv, h0, hle, hs, hd⟩ := k a xs H1 e s rr
  refine ⟨a, rfl, ⟨xs, SqL.of s⟩, for_it (walk_list (xs := xs)) Pv h0 (fun i σ' H' hi q => SqL.of (hle i σ' H' (by rw [← rr.len]; exact hi) q).2) ?_ (fun σ' H' q => hd σ' H' (by rw [← rr.len]; exact q))⟩
  rintro i x σ' H' _ hi q ⟨rfl, hx⟩
  obtain ⟨d, h1, h2⟩ := rr.at' hx
  exact hs i d x σ' _ h1 (h2.leT (hle i σ' _ (by rw [← rr.len]; omega) q).1 (nl d (List.mem_of_getElem? h1))) q
theorem s_forR1 {ta : TA} {n : Int} (h : EDA K ta σ H [.int n]) (hn : -100000 ≤ n ∧ n ≤ 100000)
    (k : ∀ H1, Le H H1 → ∃ Pv : Nat → L2.St → Hp → Prop, Pv 0 σ H1 ∧
      (∀ (i : Nat) σ' H', (i : Int) < n → Pv i σ' H' → g (.int (i : Int)) σ' H' fun σ2 H2 => tu (bodyEnds D1 (Pv (i + 1))) σ2 H2) ∧ ∀ σ' H', Pv n.toNat σ' H' → D1.nx σ' H') : tFor (iRng1 ta) g tu D1 σ H := h H (Le.refl _) _ fun vs ds H1 e p r => by
  have p' : ds = [.int n] := p
  subst p'
  cases r with
  | cons r1 r =>
    cases r
    have e1 := rp_int r1
    subst e1
    obtain ⟨Pv, h0, hs, hd⟩ := k H1 e
    refine ⟨n, rfl, by omega, by omega, for_it (walk_range (lo := 0) (n := n.toNat)) Pv h0 (fun _ _ _ _ _ => trivial) ?_ hd⟩
    rintro i x σ' H' _ hi q ⟨rfl, rfl⟩
    have e0 : (0 : Int) + (i : Int) = (i : Int) := Int.zero_add _
    dsimp only
    rw [e0]
    exact hs i σ' _ (by omega) q
theorem s_forR2 {ta : TA} {lo n : Int} (h : EDA K ta σ H [.int lo, .int n]) (hl : -100000 ≤ lo ∧ lo ≤ 100000 ∧ -100000 ≤ n ∧ n ≤ 100000)
    (k : ∀ H1, Le H H1 → ∃ Pv : Nat → L2.St → Hp → Prop, Pv 0 σ H1 ∧
      (∀ (i : Nat) σ' H', lo + (i : Int) < n → Pv i σ' H' → g (.int (lo + (i : Int))) σ' H' fun σ2 H2 => tu (bodyEnds D1 (Pv (i + 1))) σ2 H2) ∧ ∀ σ' H', Pv (n - lo).toNat σ' H' → D1.nx σ' H') : tFor (iRng2 ta) g tu D1 σ H := h H (Le.refl _) _ fun vs ds H1 e p r => by
  have p' : ds = [.int lo, .int n] := p
  subst p'
  cases r with
  | cons r1 r =>
    cases r with
    | cons r2 r =>
      cases r
      have e1 := rp_int r1
      subst e1
      have e2 := rp_int r2
      subst e2
      obtain ⟨Pv, h0, hs, hd⟩ := k H1 e
      refine ⟨lo, n, rfl, by omega, for_it (walk_range (lo := lo) (n := (n - lo).toNat)) Pv h0 (fun _ _ _ _ _ => trivial) ?_ hd⟩
      rintro i x σ' H' _ hi q ⟨rfl, rfl⟩
      exact hs i σ' _ (by omega) q
/-- for i, g in enumerate(a tuple) -/
theorem s_forE {ta : TA} {j : Nat} {ds : List D} (h : EDA K ta σ H [.tup ds]) (nl : ∀ d ∈ ds, NoL d)
    (k : ∀ H1, Le H H1 → ∃ Pv : Nat → L2.St → Hp → Prop, Pv 0 σ H1 ∧ (∀ i σ' H', i ≤ ds.length → Pv i σ' H' → LeT H1 H') ∧
      (∀ (i : Nat) d v σ' H' H2, ds[i]? = some d → Pv i σ' H' → Le H' H2 → Rp K H2 v d → g v (σ'.set j (some (.int (i : Int)))) H2 fun σ2 H3 => gNil [] σ2 H3 fun σ4 H4 => tu (bodyEnds D1 (Pv (i + 1))) σ4 H4) ∧ ∀ σ' H', Pv ds.length σ' H' → D1.nx σ' H') :
    tFor (iEnumT K ta) (gTup K 2 (gCons (gName j) (gCons g gNil))) tu D1 σ H := h H (Le.refl _) _ fun vs es H1 e p r => by
  have p' : es = [.tup ds] := p
  subst p'
  cases r with
  | cons r1 r =>
    cases r
    obtain ⟨a, xs, rfl, s, rr⟩ := rp_tup r1
    obtain ⟨Pv, h0, hle, hs, hd⟩ := k H1 e
    refine ⟨a, xs, rfl, s, for_it (walk_enT (xs := xs)) Pv h0 (fun i σ' H' hi q => (hle i σ' H' (by rw [← rr.len]; exact hi) q).sqt s) ?_ (fun σ' H' q => hd σ' H' (by rw [← rr.len]; exact q))⟩
    rintro i x σ' H' H2 hi q ⟨T, x1, x2, rfl, nT, rfl, f1, f2⟩
    have ex : x1 = .int (i : Nat) := (Option.some.inj f1).symm
    subst ex
    obtain ⟨d, h1, h2⟩ := rr.at' f2
    have e2 : Le H' (upd H' T (.tup [.int (i : Nat), x2])) := Le.new nT
    have r2 := (h2.leT (hle i σ' _ (by rw [← rr.len]; omega) q) (nl d (List.mem_of_getElem? h1))).le e2
    exact ⟨T, _, rfl, Evl.st_of upd_same, rfl, _, _, rfl, _, _, rfl, hs i d x2 σ' _ _ h1 q e2 r2⟩
end

/-! ### comprehensions -/
section
variable {K : PySem.W.Frag} {σ : L2.St} {H H' : Hp} {ta tb tc te : TE} {tt : TT} {d d1 d2 d3 : D} {P P1 P2 P3 : Pd} {g : TG} {vs : List Nat}
/-- what a comprehension's list holds behind i turns: I i acc -/
def CI (K : PySem.W.Frag) (H : Hp) (L : Addr) (I : Nat → List D → Prop) (i : Nat) (H' : Hp) : Prop := H L = none ∧ Le H H' ∧ ∃ ws acc, H' L = some (.lst ws) ∧ Rps K H' ws acc ∧ I i acc
structure Good (I : Nat → List D → Prop) : Prop where
  uni : ∀ i acc, I i acc → Uni acc
  noL : ∀ i acc, I i acc → ∀ d ∈ acc, NoL d
  len : ∀ i acc, I i acc → acc.length ≤ 50000
theorem ci_turn {I : Nat → List D → Prop} (G : Good I) {L : Addr} {i : Nat} {σ2 : L2.St} {PT : Bool → Prop} (q : CI K H L I i H') (ht : ∀ acc, I i acc → ET tt σ2 H PT)
    (he : ∀ acc, I i acc → PT true → EP K te σ2 H (fun d _ => I (i + 1) (acc ++ [d]) ∧ NoL d)) (hf : ∀ acc, I i acc → PT false → I (i + 1) acc) :
    tt σ2 H' fun b H3 => if b = true then te σ2 H3 fun y H4 => ∃ ac, H4 L = some (.lst ac) ∧ ac.length < sizeLine ∧ CI K H L I (i + 1) (upd H4 L (.lst (ac ++ [y]))) else CI K H L I (i + 1) H3 := by
  obtain ⟨q1, q2, ws, acc, q3, q4, q5⟩ := q
  have nh : NotH ws := (G.uni i acc q5).notH q4
  refine ht acc q5 H' q2 _ fun b H3 e3 p3 => ?_
  cases b with
  | true =>
    show te σ2 H3 _
    refine he acc q5 p3 H3 (q2.trans e3) _ fun y d H4 e4 p4 r4 => ?_
    have l4 := (e3.trans e4).lst q3 nh
    refine ⟨ws, l4, Evl.sz_lt (by rw [q4.len]; have := G.len i acc q5; omega), q1, ((q2.trans e3).trans e4).mut q1, ws ++ [y], acc ++ [d], upd_same, ?_, p4.1⟩
    exact ((q4.le (e3.trans e4)).upd l4 (G.noL i acc q5)).app (.cons (r4.upd l4 p4.2) .nil)
  | false =>
    show CI K H L I (i + 1) H3
    exact ⟨q1, q2.trans e3, ws, acc, e3.lst q3 nh, q4.le e3, hf acc q5 p3⟩
theorem ci_start {I : Nat → List D → Prop} {L : Addr} (h : H L = none) (h0 : I 0 []) : CI K H L I 0 (upd H L (.lst [])) := ⟨h, Le.new h, [], [], upd_same, .nil, h0⟩
theorem ci_end {I : Nat → List D → Prop} (G : Good I) {L : Addr} {n : Nat} {Q : VK} (q : CI K H L I n H') (k : ∀ v d H2, Le H H2 → (∃ acc, d = .lst acc ∧ I n acc) → Rp K H2 v d → Q v H2) : Q (.ref L) H' := by
  obtain ⟨q1, q2, ws, acc, q3, q4, q5⟩ := q
  exact k _ (.lst acc) H' q2 ⟨acc, rfl, q5⟩ (.lst q3 ((G.uni n acc q5).notH q4) q4)
/-- over a tuple; the target is a name -/
theorem ep_lcT {ds : List D} {j : Nat} {I : Nat → List D → Prop} {PT : Nat → D → Bool → Prop} (G : Good I) (h : ED K ta σ H (.tup ds)) (hw : ∀ x, wipe ((wipe σ vs).set j (some x)) vs = wipe σ vs) (h0 : I 0 [])
    (ht : ∀ (i : Nat) d v acc H1, Le H H1 → ds[i]? = some d → Rp K H1 v d → I i acc → ET tt ((wipe σ vs).set j (some v)) H1 (PT i d))
    (he : ∀ (i : Nat) d v acc H1, Le H H1 → ds[i]? = some d → Rp K H1 v d → I i acc → PT i d true → EP K te ((wipe σ vs).set j (some v)) H1 (fun d' _ => I (i + 1) (acc ++ [d']) ∧ NoL d'))
    (hf : ∀ (i : Nat) d acc, ds[i]? = some d → I i acc → PT i d false → I (i + 1) acc) : EP K (tLc (iTup K ta) (gName j) tt te vs) σ H (fun d _ => ∃ acc, d = .lst acc ∧ I ds.length acc) := fun H1 e Q q => h H1 e _ fun v d0 H2 e2 p r => by
  have p' : d0 = .tup ds := p
  subst p'
  obtain ⟨a, xs, rfl, s, rr⟩ := rp_tup r
  refine ⟨a, rfl, ⟨xs, s⟩, fun L hL => lc_it (walk_tup (xs := xs)) (CI K H2 L I) (ci_start hL h0) (fun i H' _ c => c.2.1.sqt s) ?_ (fun H' c => ?_)⟩
  · rintro i x H' _ hi c ⟨rfl, hx⟩
    obtain ⟨d, h1, h2⟩ := rr.at' hx
    exact ⟨hw x, ci_turn G c (fun acc ia => ht i d x acc H2 (e.trans e2) h1 h2 ia) (fun acc ia pt => he i d x acc H2 (e.trans e2) h1 h2 ia pt) (fun acc ia pt => hf i d acc h1 ia pt)⟩
  · rw [rr.len] at c
    exact ci_end G c fun v d H3 e3 p r => q v d H3 (e2.trans e3) p r
/-- over a list; the target is a name -/
theorem ep_lcL {ds : List D} {j : Nat} {I : Nat → List D → Prop} {PT : Nat → D → Bool → Prop} (G : Good I) (h : ED K ta σ H (.lst ds)) (hw : ∀ x, wipe ((wipe σ vs).set j (some x)) vs = wipe σ vs) (h0 : I 0 [])
    (ht : ∀ (i : Nat) d v acc H1, Le H H1 → ds[i]? = some d → Rp K H1 v d → I i acc → ET tt ((wipe σ vs).set j (some v)) H1 (PT i d))
    (he : ∀ (i : Nat) d v acc H1, Le H H1 → ds[i]? = some d → Rp K H1 v d → I i acc → PT i d true → EP K te ((wipe σ vs).set j (some v)) H1 (fun d' _ => I (i + 1) (acc ++ [d']) ∧ NoL d'))
    (hf : ∀ (i : Nat) d acc, ds[i]? = some d → I i acc → PT i d false → I (i + 1) acc) : EP K (tLc (iList K ta) (gName j) tt te vs) σ H (fun d _ => ∃ acc, d = .lst acc ∧ I ds.length acc) := fun H1 e Q q => h H1 e _ fun v d0 H2 e2 p r => by
  have p' : d0 = .lst ds := p
  subst p'
  obtain ⟨a, xs, rfl, s, nh, rr⟩ := rp_lst r
  refine ⟨a, rfl, ⟨xs, SqL.of s⟩, fun L hL => lc_it (walk_list (xs := xs)) (CI K H2 L I) (ci_start hL h0) (fun i H' _ c => SqL.of (c.2.1.lst s nh)) ?_ (fun H' c => ?_)⟩
  · rintro i x H' _ hi c ⟨rfl, hx⟩
    obtain ⟨d, h1, h2⟩ := rr.at' hx
    exact ⟨hw x, ci_turn G c (fun acc ia => ht i d x acc H2 (e.trans e2) h1 h2 ia) (fun acc ia pt => he i d x acc H2 (e.trans e2) h1 h2 ia pt) (fun acc ia pt => hf i d acc h1 ia pt)⟩
  · rw [rr.len] at c
    exact ci_end G c fun v d H3 e3 p r => q v d H3 (e2.trans e3) p r
/-- over range(n) -/
theorem ep_lcR1 {ra : TA} {n : Int} {j : Nat} {I : Nat → List D → Prop} {PT : Nat → Bool → Prop} (G : Good I) (h : EDA K ra σ H [.int n]) (hn : 0 ≤ n ∧ n ≤ 50000) (hw : ∀ x, wipe ((wipe σ vs).set j (some x)) vs = wipe σ vs) (h0 : I 0 [])
    (ht : ∀ (i : Nat) acc H1, Le H H1 → (i : Int) < n → I i acc → ET tt ((wipe σ vs).set j (some (.int (i : Int)))) H1 (PT i))
    (he : ∀ (i : Nat) acc H1, Le H H1 → (i : Int) < n → I i acc → PT i true → EP K te ((wipe σ vs).set j (some (.int (i : Int)))) H1 (fun d' _ => I (i + 1) (acc ++ [d']) ∧ NoL d'))
    (hf : ∀ (i : Nat) acc, (i : Int) < n → I i acc → PT i false → I (i + 1) acc) : EP K (tLc (iRng1 ra) (gName j) tt te vs) σ H (fun d _ => ∃ acc, d = .lst acc ∧ I n.toNat acc) := fun H1 e Q q => h H1 e _ fun ws ds H2 e2 p r => by
  have p' : ds = [.int n] := p
  subst p'
  cases r with
  | cons r1 r =>
    cases r
    have e1 := rp_int r1
    subst e1
    refine ⟨n, rfl, by omega, by omega, fun L hL => lc_it (walk_range (lo := 0) (n := n.toNat)) (CI K H2 L I) (ci_start hL h0) (fun _ _ _ _ => trivial) ?_ (fun H' c => ?_)⟩
    · rintro i x H' _ hi c ⟨rfl, rfl⟩
      have e0 : (0 : Int) + (i : Int) = (i : Int) := Int.zero_add _
      dsimp only
      rw [e0]
      exact ⟨hw _, ci_turn G c (fun acc ia => ht i acc H2 (e.trans e2) (by omega) ia) (fun acc ia pt => he i acc H2 (e.trans e2) (by omega) ia pt) (fun acc ia pt => hf i acc (by omega) ia pt)⟩
    · exact ci_end G c fun v d H3 e3 p r => q v d H3 (e2.trans e3) p r
end
end W1

set_option maxRecDepth 100000
set_option maxHeartbeats 4000000
/-! built-ins in data -/
namespace W1
open PySem L2
def cutG {α : Type} (xs : List α) (lo hi : Option Int) : List α := (xs.drop (HT.sIx xs.length 0 lo)).take (HT.sIx xs.length xs.length hi - HT.sIx xs.length 0 lo)
theorem cutG_hi {α : Type} (xs : List α) (n : Int) (h : 0 ≤ n) : cutG xs none (some n) = xs.take n.toNat := by
  unfold cutG
  have e : n = ((n.toNat : Nat) : Int) := by omega
  rw [e, HT.sIx_nat, HT.sIx_none, List.drop_zero, Nat.sub_zero, Int.toNat_natCast]
  rw [List.take_eq_take_iff]
  omega
theorem cutG_lo {α : Type} (xs : List α) (n : Int) (h : 0 ≤ n) : cutG xs (some n) none = xs.drop n.toNat := by
  unfold cutG
  have e : n = ((n.toNat : Nat) : Int) := by omega
  rw [e, HT.sIx_nat, HT.sIx_none, Int.toNat_natCast]
  by_cases hl : n.toNat ≤ xs.length
  · rw [Nat.min_eq_left hl]
    exact List.take_of_length_le (by rw [List.length_drop]; exact Nat.le_refl _)
  · rw [Nat.min_eq_right (by omega), List.drop_of_length_le (Nat.le_refl _), List.drop_of_length_le (by omega), List.take_nil]
theorem cutG_two {α : Type} (xs : List α) (a b : Int) (h : 0 ≤ a) (h2 : 0 ≤ b) : cutG xs (some a) (some b) = (xs.drop a.toNat).take (b.toNat - a.toNat) := by
  unfold cutG
  have e : a = ((a.toNat : Nat) : Int) := by omega
  have e2 : b = ((b.toNat : Nat) : Int) := by omega
  rw [e, e2, HT.sIx_nat, HT.sIx_nat, Int.toNat_natCast, Int.toNat_natCast]
  by_cases hl : a.toNat ≤ xs.length
  · rw [Nat.min_eq_left hl, List.take_eq_take_iff, List.length_drop]
    omega
  · rw [Nat.min_eq_right (show xs.length ≤ a.toNat by omega), List.drop_of_length_le (Nat.le_refl _), List.drop_of_length_le (by omega), List.take_nil, List.take_nil]
theorem rps_cut {K : PySem.W.Frag} {H : Hp} {vs : List V} {ds : List D} (lo hi : Option Int) (r : Rps K H vs ds) : Rps K H (cutV vs lo hi) (cutG ds lo hi) := by
  unfold cutV cutG
  rw [r.len]
  exact (r.drop _).take _
theorem cutG_all {α : Type} (xs : List α) (lo hi : Option Int) (h : HT.sIx xs.length 0 lo = 0 ∧ HT.sIx xs.length xs.length hi = xs.length) : cutG xs lo hi = xs := by
  unfold cutG
  rw [h.1, h.2, List.drop_zero, Nat.sub_zero, List.take_length]

/-! ### a tuple times a number from 1 on -/
section
open PySem.Spec PyProof.Rows
theorem mul1_tup (l : Addr) (items : Array Value) (n : Nat) (dd : Option Addr) (sl : Array (Option Value)) (u : Tok) :
    Meets (Builtin.«tuple.__mul__» ⟨[.ref l, .int 1 u], []⟩) (fun _ R s => s.heap.get? l = some { cls := .type "tuple", dict := dd, data := .seq items n, slots := sl } ∧ R (.ok (.ret (Value.ref l))) s) := by
  refine .of_wp fun prog w A R s h => ?_
  obtain ⟨hp, g, d, tk, os⟩ := s
  obtain ⟨hl, h⟩ := h
  have f1 := AutoSeq1.idx_int
  have c1 : (items.isEmpty || (1 : Int) == 1) = true := by simp
  wp_walk using wpAny_loadPart' hl
  repeat (first
    | (refine wpAny_ite_false (decide_eq_false (by decide)) ?_; wp_walk using wpAny_loadPart' hl)
    | (refine wpAny_ite_true (decide_eq_true c1) ?_; wp_walk using wpAny_loadPart' hl))
  all_goals exact ⟨_, rfl, h⟩
def rRep1 (K : PySem.W.Frag) : R2 := fun x y H Q => ∃ l k xs, x = .ref l ∧ y = .int k ∧ SqT K H l xs ∧ xs ≠ [] ∧ 1 ≤ k ∧ k ≤ 1000 ∧ xs.length ≤ 1000 ∧ (k = 1 → Q (.ref l) H) ∧ (2 ≤ k → ∀ p, H p = none → Q (.ref p) (upd H p (.tup (List.replicate k.toNat xs).flatten)))
theorem op_rep1 {X : Cx} : OpR X (binaryOp .Mult) (rRep1 X.K) := by
  intro pins s σ H x y v u Q I rx ry h
  obtain ⟨l, k, xs, rfl, rfl, hT, hne, h1, h2, hz, q1, q2⟩ := h
  by_cases hk : 2 ≤ k
  · exact op_repT pins s σ H _ _ v u Q I rx ry ⟨l, k, xs, rfl, rfl, hT, hne, hk, h2, hz, q2 hk⟩
  · have e : k = 1 := by omega
    subst e
    cases rx
    obtain ⟨t, rfl⟩ := ry
    obtain ⟨its, r, ⟨⟨cls, dd, data, sl⟩, ho, hc, n, hd⟩, hs⟩ := I.tuple hT
    replace hc : cls = .type "tuple" := hc
    replace hd : data = .seq its.toArray n := hd
    subst hc hd
    refine wpAny_binaryOp_repeat_ref (T := "tuple") (U := "int") (by decide) ⟨_, ho, rfl⟩ (fun s' => typeIs_int s' 1 t) noFill_tuple_mul F.fills_int_mul F.slot_int_rmul repeat_tuple F.slot_int_index.lookup
      (call_meets F.slot_int_rmul (typeIs_int s 1 t) F.entry_int_rmul (F.args_int_rmul_2 _ _) (int_rmul_tuple 1 t l its.toArray n dd sl)
        ⟨ho, rfl, ⟨_, ho, rfl⟩, call_meets F.slot_tuple_mul ⟨_, ho, rfl⟩ F.entry_tuple_mul (F.args_tuple_mul_2 _ _) (mul1_tup l its.toArray n dd sl t) ⟨ho, ?_⟩⟩)
    exact ⟨.ref l, H, I, rfl, q1 rfl⟩
end
section
variable {K : PySem.W.Frag} {σ : L2.St} {H H' : Hp} {ta tb tc te : TE} {d d1 d2 d3 : D} {P : Pd}
theorem ed_rep1 {ds : List D} {k : Int} (ha : ED K ta σ H (.tup ds)) (hb : ED K tb σ H (.int k)) (hne : ds ≠ []) (h1 : 1 ≤ k ∧ k ≤ 1000) (hz : ds.length ≤ 1000) : ED K (tOp (rRep1 K) ta tb) σ H (.tup (List.replicate k.toNat ds).flatten) :=
  ed_op ha hb fun x y H2 _ r1 r2 Q q => by
    obtain ⟨a, xs, rfl, s, rr⟩ := rp_tup r1
    refine ⟨a, k, xs, rfl, rp_int r2, s, ?_, h1.1, h1.2, by rw [rr.len]; exact hz, fun e => ?_, fun _ p np => ?_⟩
    · intro e
      subst e
      cases rr
      exact hne rfl
    · subst e
      refine q _ _ H2 (Le.refl _) ?_ r1
      show D.tup ds = D.tup (List.replicate 1 ds).flatten
      simp
    · exact q _ _ _ (Le.new np) rfl (.tup (Evl.st_of upd_same) ((rr.le (Le.new np)).flat _))
theorem ed_rep {ds : List D} {k : Int} (ha : ED K ta σ H (.lst ds)) (hb : ED K tb σ H (.int k)) (h1 : 0 ≤ k ∧ k ≤ 1000) (hz : ds.length ≤ 1000) (hu : Uni (List.replicate k.toNat ds).flatten) : ED K (tOp rRep ta tb) σ H (.lst (List.replicate k.toNat ds).flatten) :=
  ed_op ha hb fun x y H2 _ r1 r2 Q q => by
    obtain ⟨a, xs, rfl, s, nh, rr⟩ := rp_lst r1
    have hm : xs.length * k.toNat ≤ 1000 * 1000 := Nat.mul_le_mul (by rw [rr.len]; exact hz) (by omega)
    refine ⟨a, k, xs, rfl, rp_int r2, s, by omega, by omega, Nat.le_trans hm (by decide), fun p np => ?_⟩
    have rf := (rr.le (Le.new (o := .lst (List.replicate k.toNat xs).flatten) np)).flat k.toNat
    exact q _ _ _ (Le.new np) rfl (.lst upd_same (hu.notH rf) rf)
/-- lists put one behind another -/
theorem ed_cat {ds es : List D} (ha : ED K ta σ H (.lst ds)) (hb : ED K tb σ H (.lst es)) (hz : ds.length + es.length ≤ 100000) (hu : Uni (ds ++ es)) : ED K (tOp rCat ta tb) σ H (.lst (ds ++ es)) :=
  ed_op ha hb fun x y H2 _ r1 r2 Q q => by
    obtain ⟨a, xs, rfl, s, nh, rr⟩ := rp_lst r1
    obtain ⟨b, ys, rfl, s2, nh2, rr2⟩ := rp_lst r2
    refine ⟨a, b, xs, ys, rfl, rfl, s, s2, by rw [rr.len, rr2.len]; exact Evl.sz_of hz, fun p np => ?_⟩
    have rf := (rr.app rr2).le (Le.new (o := .lst (xs ++ ys)) np)
    exact q _ _ _ (Le.new np) rfl (.lst upd_same (hu.notH rf) rf)
/-- tuples put one behind another -/
theorem ed_catA {ds es : List D} (ha : ED K ta σ H (.tup ds)) (hb : ED K tb σ H (.tup es)) (hz : ds.length + es.length ≤ 100000) : ED K (tOp (rCatA K) ta tb) σ H (.tup (ds ++ es)) :=
  ed_op ha hb fun x y H2 _ r1 r2 Q q => by
    obtain ⟨a, xs, rfl, s, rr⟩ := rp_tup r1
    obtain ⟨b, ys, rfl, s2, rr2⟩ := rp_tup r2
    refine ⟨a, b, xs, ys, rfl, rfl, s, s2, by rw [rr.len, rr2.len]; exact Evl.sz_of hz, fun e => ?_, fun _ e => ?_, fun _ _ p np => ?_⟩
    · subst e
      cases rr
      exact q _ _ H2 (Le.refl _) rfl r2
    · subst e
      cases rr2
      exact q _ _ H2 (Le.refl _) (by rw [List.append_nil]) r1
    · exact q _ _ _ (Le.new np) rfl (.tup (Evl.st_of upd_same) ((rr.app rr2).le (Le.new np)))
theorem eo_none : EO tNoPart σ H none := fun H1 _ Q q => q H1 (Le.refl _)
theorem eo_some {i : Int} (h : ED K te σ H (.int i)) : EO (tPart te) σ H (some i) := fun H1 e Q q => h H1 e _ fun v d H2 e2 p r => by
  have p' : d = .int i := p
  subst p'
  exact ⟨i, rp_int r, q H2 e2⟩
theorem ed_slT {tl th : TO} {ds : List D} {lo hi : Option Int} (h : ED K ta σ H (.tup ds)) (h1 : EO tl σ H lo) (h2 : EO th σ H hi) : ED K (tSl (rSlA K) ta tl th) σ H (.tup (cutG ds lo hi)) := fun H1 e Q q =>
  h H1 e _ fun v d H2 e2 p r => h1 H2 (e.trans e2) _ fun H3 e3 => h2 H3 ((e.trans e2).trans e3) _ fun H4 e4 => by
    have p' : d = .tup ds := p
    subst p'
    obtain ⟨a, xs, rfl, s, rr⟩ := rp_tup (r.le (e3.trans e4))
    refine ⟨a, xs, rfl, s, fun w => ?_, fun _ p np => ?_⟩
    · rw [rr.len] at w
      exact q _ _ H4 ((e2.trans e3).trans e4) (by rw [cutG_all ds lo hi w]) (.tup s rr)
    · exact q _ _ _ (((e2.trans e3).trans e4).trans (Le.new np)) rfl (.tup (Evl.st_of upd_same) ((rps_cut lo hi rr).le (Le.new np)))
theorem ed_slL {tl th : TO} {ds : List D} {lo hi : Option Int} (h : ED K ta σ H (.lst ds)) (h1 : EO tl σ H lo) (h2 : EO th σ H hi) (hu : Uni (cutG ds lo hi)) : ED K (tSl (rSlL K) ta tl th) σ H (.lst (cutG ds lo hi)) := fun H1 e Q q =>
  h H1 e _ fun v d H2 e2 p r => h1 H2 (e.trans e2) _ fun H3 e3 => h2 H3 ((e.trans e2).trans e3) _ fun H4 e4 => by
    have p' : d = .lst ds := p
    subst p'
    obtain ⟨a, xs, rfl, s, nh, rr⟩ := rp_lst (r.le (e3.trans e4))
    refine ⟨a, xs, rfl, SqL.of s, fun p np => ?_⟩
    have rf := (rps_cut lo hi rr).le (Le.new (o := .lst (cutV xs lo hi)) np)
    exact q _ _ _ (((e2.trans e3).trans e4).trans (Le.new np)) rfl (.lst upd_same (hu.notH rf) rf)
theorem ed_revL {ds : List D} (h : ED K ta σ H (.lst ds)) (hu : Uni ds.reverse) : ED K (tRevL K ta) σ H (.lst ds.reverse) := fun H1 e Q q =>
  h H1 e _ fun v d H2 e2 p r => by
    have p' : d = .lst ds := p
    subst p'
    obtain ⟨a, xs, rfl, s, nh, rr⟩ := rp_lst r
    refine ⟨a, xs, rfl, SqL.of s, fun p np => ?_⟩
    have rv : ∀ {vs : List V} {es : List D}, Rps K H2 vs es → Rps K H2 vs.reverse es.reverse := by
      intro vs
      induction vs with
      | nil =>
        intro es h
        cases h
        exact .nil
      | cons a l ih =>
        intro es h
        cases h with
        | cons h1 h2 =>
          rw [List.reverse_cons, List.reverse_cons]
          exact (ih h2).app (.cons h1 .nil)
    have rf := (rv rr).le (Le.new (o := .lst xs.reverse) np)
    exact q _ _ _ (e2.trans (Le.new np)) rfl (.lst upd_same (hu.notH rf) rf)
/-! calls of built-ins -/
theorem ed_cb {r : List V → Hp → VK → Prop} {A : TA} {ds : List D} (h : EDA K A σ H ds) (hr : ∀ vs H2, Le H H2 → Rps K H2 vs ds → ∀ Q : VK, (∀ v d H3, Le H2 H3 → P d H3 → Rp K H3 v d → Q v H3) → r vs H2 Q) : EP K (tCB r A) σ H P := fun H1 e Q q =>
  h H1 e _ fun vs es H2 e2 p rr => by
    have p' : es = ds := p
    subst p'
    exact hr vs H2 (e.trans e2) rr Q fun v d H3 e3 p3 r3 => q v d H3 (e2.trans e3) p3 r3
theorem rps1 {vs : List V} (r : Rps K H vs [d]) : ∃ v, vs = [v] ∧ Rp K H v d := by
  cases r with
  | cons h r =>
    cases r
    exact ⟨_, rfl, h⟩
theorem rps2 {vs : List V} (r : Rps K H vs [d1, d2]) : ∃ v w, vs = [v, w] ∧ Rp K H v d1 ∧ Rp K H w d2 := by
  cases r with
  | cons h r =>
    obtain ⟨w, rfl, h2⟩ := rps1 r
    exact ⟨_, w, rfl, h, h2⟩
theorem rps3 {vs : List V} (r : Rps K H vs [d1, d2, d3]) : ∃ v w u, vs = [v, w, u] ∧ Rp K H v d1 ∧ Rp K H w d2 ∧ Rp K H u d3 := by
  cases r with
  | cons h r =>
    obtain ⟨w, u, rfl, h2, h3⟩ := rps2 r
    exact ⟨_, w, u, rfl, h, h2, h3⟩
abbrev rAbs : List V → Hp → VK → Prop := fun xs H Q => ∃ i, xs = [.int i] ∧ Q (.int (if i < 0 then -i else i)) H
theorem ed_abs {i : Int} (h : ED K ta σ H (.int i)) : ED K (tCB rAbs (tCons ta tNil)) σ H (.int (if i < 0 then -i else i)) := ed_cb (ea_cons h ea_nil) fun vs H2 _ r Q q => by
  obtain ⟨v, rfl, h⟩ := rps1 r
  exact ⟨i, by rw [rp_int h], q _ _ H2 (Le.refl _) rfl (.int _)⟩
abbrev rInt1 : List V → Hp → VK → Prop := fun xs H Q => (∃ i, xs = [.int i] ∧ Q (.int i) H) ∨ ∃ k, xs = [.bl k] ∧ Q (.int (if k then 1 else 0)) H
theorem ed_int1 {i : Int} (h : ED K ta σ H (.int i)) : ED K (tCB rInt1 (tCons ta tNil)) σ H (.int i) := ed_cb (ea_cons h ea_nil) fun vs H2 _ r Q q => by
  obtain ⟨v, rfl, h⟩ := rps1 r
  exact .inl ⟨i, by rw [rp_int h], q _ _ H2 (Le.refl _) rfl (.int _)⟩
abbrev rMax2 : List V → Hp → VK → Prop := fun xs H Q => ∃ i j, xs = [.int i, .int j] ∧ Q (.int (if j > i then j else i)) H
abbrev rMin2 : List V → Hp → VK → Prop := fun xs H Q => ∃ i j, xs = [.int i, .int j] ∧ Q (.int (if j < i then j else i)) H
theorem ed_max2 {i j : Int} (h : ED K ta σ H (.int i)) (h2 : ED K tb σ H (.int j)) : ED K (tCB rMax2 (tCons ta (tCons tb tNil))) σ H (.int (if j > i then j else i)) := ed_cb (ea_cons h (ea_cons h2 ea_nil)) fun vs H2 _ r Q q => by
  obtain ⟨v, w, rfl, h, h2⟩ := rps2 r
  exact ⟨i, j, by rw [rp_int h, rp_int h2], q _ _ H2 (Le.refl _) rfl (.int _)⟩
theorem ed_min2 {i j : Int} (h : ED K ta σ H (.int i)) (h2 : ED K tb σ H (.int j)) : ED K (tCB rMin2 (tCons ta (tCons tb tNil))) σ H (.int (if j < i then j else i)) := ed_cb (ea_cons h (ea_cons h2 ea_nil)) fun vs H2 _ r Q q => by
  obtain ⟨v, w, rfl, h, h2⟩ := rps2 r
  exact ⟨i, j, by rw [rp_int h, rp_int h2], q _ _ H2 (Le.refl _) rfl (.int _)⟩
abbrev rTupOf (K : PySem.W.Frag) : List V → Hp → VK → Prop := fun xs H Q => ∃ p ys, xs = [.ref p] ∧ ((SqL K H p ys ∧ ∀ l, H l = none → Q (.ref l) (upd H l (.tup ys))) ∨ (SqT K H p ys ∧ Q (.ref p) H))
theorem ep_tupOf {PL : List D → Prop} (h : EP K ta σ H fun d _ => ∃ ds, d = .lst ds ∧ PL ds) : EP K (tCB (rTupOf K) (tCons ta tNil)) σ H (fun d _ => ∃ ds, d = .tup ds ∧ PL ds) := fun H1 e Q q => h H1 e _ fun v d H2 e2 p r => by
  obtain ⟨ds, rfl, pl⟩ := p
  obtain ⟨a, xs, rfl, s, nh, rr⟩ := rp_lst r
  exact ⟨a, xs, rfl, .inl ⟨SqL.of s, fun l hl => q _ _ _ (e2.trans (Le.new hl)) ⟨ds, rfl, pl⟩ (.tup (Evl.st_of upd_same) (rr.le (Le.new hl)))⟩⟩
theorem ed_tupOf {ds : List D} (h : ED K ta σ H (.lst ds)) : ED K (tCB (rTupOf K) (tCons ta tNil)) σ H (.tup ds) :=
  (ep_tupOf (PL := fun x => x = ds) (h.weak fun d _ _ p => ⟨ds, p, rfl⟩)).weak fun d _ _ p => by
    obtain ⟨ds', rfl, rfl⟩ := p
    rfl
abbrev rLstOf (K : PySem.W.Frag) : List V → Hp → VK → Prop := fun xs H Q => ∃ p ys, xs = [.ref p] ∧ (SqL K H p ys ∨ SqT K H p ys) ∧ ∀ l, H l = none → Q (.ref l) (upd H l (.lst ys))
theorem ed_lstOfT {ds : List D} (h : ED K ta σ H (.tup ds)) (hu : Uni ds) : ED K (tCB (rLstOf K) (tCons ta tNil)) σ H (.lst ds) := ed_cb (ea_cons h ea_nil) fun vs H2 _ r Q q => by
  obtain ⟨v, rfl, h⟩ := rps1 r
  obtain ⟨a, xs, rfl, s, rr⟩ := rp_tup h
  refine ⟨a, xs, rfl, .inr s, fun l hl => ?_⟩
  have rf := rr.le (Le.new (o := .lst xs) hl)
  exact q _ _ _ (Le.new hl) rfl (.lst upd_same (hu.notH rf) rf)
theorem ed_lstOfL {ds : List D} (h : ED K ta σ H (.lst ds)) : ED K (tCB (rLstOf K) (tCons ta tNil)) σ H (.lst ds) := ed_cb (ea_cons h ea_nil) fun vs H2 _ r Q q => by
  obtain ⟨v, rfl, h⟩ := rps1 r
  obtain ⟨a, xs, rfl, s, nh, rr⟩ := rp_lst h
  exact ⟨a, xs, rfl, .inl (SqL.of s), fun l hl => q _ _ _ (Le.new hl) rfl (.lst upd_same nh (rr.le (Le.new hl)))⟩
theorem ep_sortedI {PN : List Int → Prop} (h : EP K ta σ H fun d _ => ∃ ns : List Int, d = .lst (ns.map .int) ∧ PN ns) :
    EP K (tCB (rSortedI K) (tCons ta tNil)) σ H (fun d _ => ∃ ns ns' : List Int, d = .lst (ns'.map .int) ∧ PN ns ∧ ns'.Perm ns ∧ ns'.Pairwise (· ≤ ·)) := fun H1 e Q q => h H1 e _ fun v d H2 e2 p r => by
  obtain ⟨ns, rfl, pn⟩ := p
  obtain ⟨a, xs, rfl, s, nh, rr⟩ := rp_lst r
  have ex := ints_rps rr
  subst ex
  exact ⟨a, ns, rfl, SqL.of s, fun ns' p hp hs hn => q _ _ _ (e2.trans (Le.new hn)) ⟨ns, ns', rfl, pn, hp, hs⟩ (.lst upd_same (notH_ints _) (rps_ints _))⟩
/-- sorted(set(e)), e a list of ints -/
theorem ep_sortedSet {w : World} {ns : List Int} (hz : ns.length < 64) (h : ED K ta σ H (.lst (ns.map .int))) :
    EP K (tCB (rSortedSet w) (tCons (tCB (rSetOfL K w) (tCons ta tNil)) tNil)) σ H (fun d _ => ∃ ns' : List Int, d = .lst (ns'.map .int) ∧ ns'.Pairwise (· < ·) ∧ ∀ k, k ∈ ns' ↔ k ∈ ns) := fun H1 e Q q => h H1 e _ fun v d H2 e2 p r => by
  have p' : d = .lst (ns.map .int) := p
  subst p'
  obtain ⟨a, xs, rfl, s, nh, rr⟩ := rp_lst r
  have ex := ints_rps rr
  subst ex
  refine ⟨a, ns, rfl, SqL.of s, by omega, fun p n hp hn => ⟨p, _, n, rfl, upd_same, by omega, fun ns' l hs hm _ hl => ?_⟩⟩
  refine q _ _ _ ((e2.trans (Le.new hp)).trans (Le.new hl)) ⟨ns', rfl, hs, fun k => ?_⟩ (.lst upd_same (notH_ints _) (rps_ints _))
  rw [hm k]
  exact decide_eq_true_iff
theorem inV_ints (x : Int) : ∀ ns : List Int, inV (.int x) (ns.map V.int) = decide (x ∈ ns)
  | [] => rfl
  | n :: ns => by
    have ih := inV_ints x ns
    unfold inV at ih ⊢
    rw [List.map_cons, List.any_cons, ih]
    by_cases e : n = x
    · subst e
      have e1 : eqV (.int n) (.int n) = true := by simp [eqV]
      rw [e1]
      simp
    · have e1 : eqV (.int n) (.int x) = false := by simp [eqV, e]
      rw [e1, Bool.false_or]
      have : (x ∈ n :: ns) ↔ x ∈ ns := by simp [Ne.symm e]
      simp [this]
theorem flat_ints (ns : List Int) : (ns.map V.int).all flatV = true := by
  rw [List.all_eq_true]
  intro v hv
  obtain ⟨i, _, rfl⟩ := List.mem_map.mp hv
  rfl
theorem ed_inT {x : Int} {ns : List Int} (h : ED K ta σ H (.int x)) (h2 : ED K tb σ H (.tup (ns.map .int))) : ED K (tOp (rIn K false) ta tb) σ H (.bl (decide (x ∈ ns))) := ed_op h h2 fun v w H2 _ r1 r2 Q q => by
  obtain ⟨a, xs, rfl, s, rr⟩ := rp_tup r2
  have ex := ints_rps rr
  subst ex
  rw [rp_int r1]
  refine ⟨a, _, rfl, .inr s, rfl, flat_ints ns, ?_⟩
  rw [inV_ints]
  exact q _ _ H2 (Le.refl _) rfl (.bl _)
theorem ed_ninT {x : Int} {ns : List Int} (h : ED K ta σ H (.int x)) (h2 : ED K tb σ H (.tup (ns.map .int))) : ED K (tOp (rIn K true) ta tb) σ H (.bl (!decide (x ∈ ns))) := ed_op h h2 fun v w H2 _ r1 r2 Q q => by
  obtain ⟨a, xs, rfl, s, rr⟩ := rp_tup r2
  have ex := ints_rps rr
  subst ex
  rw [rp_int r1]
  refine ⟨a, _, rfl, .inr s, rfl, flat_ints ns, ?_⟩
  rw [inV_ints]
  exact q _ _ H2 (Le.refl _) rfl (.bl _)
theorem ed_all {bs : List Bool} (h : ED K ta σ H (.lst (bs.map .bl))) : ED K (tCB (rAll K) (tCons ta tNil)) σ H (.bl (bs.all id)) := ed_cb (ea_cons h ea_nil) fun vs H2 _ r Q q => by
  obtain ⟨v, rfl, h⟩ := rps1 r
  obtain ⟨a, xs, rfl, s, nh, rr⟩ := rp_lst h
  have ex := bls_rps rr
  subst ex
  exact ⟨a, bs, rfl, SqL.of s, q _ _ H2 (Le.refl _) rfl (.bl _)⟩
/-! isinstance -/
def tyD : D → String
  | .non => "NoneType"
  | .bl _ => "bool"
  | .int _ => "int"
  | .str _ => "str"
  | .tup _ => "tuple"
  | .lst _ => "list"
  | .obj _ => "object"
theorem tyx_of {v : V} (hno : ∀ u, d ≠ .obj u) (r : Rp K H v d) : TyX K H v (.type (tyD d)) := by
  cases r with
  | non => exact .base .non
  | bl b => exact .base (.bl b)
  | int i => exact .base (.int i)
  | str x => exact .base (.str x)
  | obj v => exact absurd rfl (hno v)
  | lst h _ _ => exact .base (.lst h)
  | tup h _ =>
    rcases h with (h | ⟨o, h⟩) | h
    · exact .base (.tup h)
    · exact .fTuple h
    · obtain ⟨o, its, n, hk, hc, _⟩ := h
      exact .kTuple hk hc
theorem ed_isi {T : String} {b : Bool} (h : ED K ta σ H d) (ho : ∀ u, d ≠ .obj u) (hb : kitB (tyD d) T = some b) : ED K (tCB (rIsi K) (tCons ta (tCons (tC (.ty T)) tNil))) σ H (.bl b) := ed_cb (ea_cons h (ea_cons ed_obj ea_nil)) fun vs H2 _ r Q q => by
  obtain ⟨v, w, rfl, h1, h2⟩ := rps2 r
  have ew := rp_obj h2
  subst ew
  exact ⟨v, .ty T, .type (tyD d), .type T, b, rfl, .ty T, tyx_of ho h1, kit_ty hb, q _ _ H2 (Le.refl _) rfl (.bl _)⟩
end
end W1

set_option maxRecDepth 100000
set_option maxHeartbeats 4000000
/-! defs of a text, and the law's hand -/
namespace W1
open PySem PyProof.Rows L2
/-- a def of the text stands under its name -/
def GDef (K : PySem.W.Frag) (mg : Str → Option Value) (x : Str) (st : Stmt) (ps : List Str) : Prop := ∃ f fd, mg x = some (.ref f) ∧ Fun K x x st f fd ∧ Binds K fd ps []
/-- and keeps a promise -/
def Def (P : Program) (w : World) (K : PySem.W.Frag) (mg : Str → Option Value) (base : Heap) (k : Nat) (x : Str) (ps : List Str) (sp : Sp) : Prop :=
  ∃ f fd, mg x = some (.ref f) ∧ PySem.W.keepIn K (.ref f) = true ∧ Binds K fd ps [] ∧ FnOk P w K mg base CX0 k f fd ps sp
section
variable {P : Program} {w : World} {K : PySem.W.Frag} {mg : Str → Option Value} {base : Heap}
theorem defS {x : Str} {st : Stmt} {N ps : List Str} {k : Nat} {sp : Sp} (g : GDef K mg x st ps) (S : FnScope N ps (defScope st)) (hl : ∀ vs H Q E, sp vs H Q E → vs.length = ps.length)
    (body : ∀ (cdv : Value) (A : Around) (outer : List Env) (s : Shared) (f : Addr) (H : Hp) (vs : List V) (Q : VK) (E : XK), Room k (A.deeper (envOfC x (defScope st) s.heap.objs.size f cdv)) → sp vs H Q E →
      ∃ t, PSs (cxOf CX0 P w K mg base N x (defScope st) f cdv A outer s H E).nox (defBody st) t ∧ t { nx := fun _ H' => Q .non H', rt := Q } (start N vs) H) : Def P w K mg base (k + 1) x ps sp := by
  obtain ⟨f, fd, hm, F, hb⟩ := g
  exact ⟨f, fd, hm, F.kp, hb, F.ok S hl fun cdv A outer s H vs Q E hr h => body cdv A outer s f H vs Q E hr h⟩
theorem defD {x : Str} {st : Stmt} {N ps : List Str} {k : Nat} {R : List D → Hp → Pd → Prop} (g : GDef K mg x st ps) (S : FnScope N ps (defScope st)) (hl : ∀ ds H Pd, R ds H Pd → ds.length = ps.length)
    (body : ∀ (cdv : Value) (A : Around) (outer : List Env) (s : Shared) (f : Addr) (H : Hp) (vs : List V) (ds : List D) (Pd : Pd) (Q : VK) (E : XK), Room k (A.deeper (envOfC x (defScope st) s.heap.objs.size f cdv)) → Rps K H vs ds → R ds H Pd →
      (∀ v d H2, Le H H2 → Pd d H2 → Rp K H2 v d → Q v H2) →
      ∃ t, PSs (cxOf CX0 P w K mg base N x (defScope st) f cdv A outer s H E).nox (defBody st) t ∧ t { nx := fun _ H' => Q .non H', rt := Q } (start N vs) H) : Def P w K mg base (k + 1) x ps (spD K R) := by
  refine defS g S (fun vs H Q E h => ?_) fun cdv A outer s f H vs Q E hr h => ?_
  · obtain ⟨ds, Pd, r, h, _⟩ := h
    rw [r.len]
    exact hl ds H Pd h
  · obtain ⟨ds, Pd, r, h, q⟩ := h
    exact body cdv A outer s f H vs ds Pd Q E hr r h q
end
section
variable {X : Cx} {k j : Nat} {x : Str} {ps : List Str} {sp : Sp} {p pos : Pos} {e : Expr} {es : List Expr} {t : TA}
theorem pe_def (G : Def X.prog X.w X.K X.mg X.base k x ps sp) (hr : Room k X.A) (ha : PA X (e :: es) t) (hg : Gl X x := by rfl)
    (hdb : (x == ("__debug__" : Str)) = false := by decide) (he : starEach (e :: es) X.env = (false, eval e X.env) :: starEach es X.env := by rfl) (hpl : (backTo pos (starEach es X.env)).any (·.1) = false := by rfl) :
    PE X (.Call (.Name x p) (e :: es) [] pos) (tCall sp [] E0 t) := by
  obtain ⟨f, fd, hm, hk, hb, F⟩ := G
  exact pe_call F hr hg hm hk hb .nil pass0 ha hdb he hpl
end
/-! ### the hand: the law's cells and counters -/
structure HandAt (H : Hp) (h c : Addr) (cells : List Int) (p x s n : Int) : Prop where
  hand : H h = some (.lst [.ref c, .int p, .int x, .int s, .int n])
  cell : H c = some (.lst (cells.map V.int))
  p0 : 0 ≤ p
  x0 : 0 ≤ x
  pos : ∀ z ∈ cells, 0 ≤ z
def Hand (H : Hp) (h : Addr) : Prop := ∃ c cells p x s n, HandAt H h c cells p x s n
theorem HandAt.ne {H : Hp} {h c : Addr} {cells : List Int} {p x s n : Int} (a : HandAt H h c cells p x s n) : c ≠ h := fun e => by
  have h1 := a.hand
  rw [← e, a.cell] at h1
  have h2 := HO.lst.inj (Option.some.inj h1)
  cases cells with
  | nil => cases h2
  | cons z zs =>
    injection h2 with h3 _
    cases h3
theorem Hand.le {H H' : Hp} {h : Addr} (e : Le H H') (a : Hand H h) : Hand H' h := by
  obtain ⟨c, cells, p, x, s, n, a⟩ := a
  have c1 := e.lst a.cell (notH_ints cells)
  rcases e h _ a.hand with h1 | ⟨c2, p2, x2, s2, n2, p3, x3, s3, n3, e2, h1, u, v⟩
  · exact ⟨c, cells, p, x, s, n, h1, c1, a.p0, a.x0, a.pos⟩
  · have e3 := HO.lst.inj e2
    injection e3 with e4 e5
    injection e4 with e4
    subst e4
    exact ⟨c, cells, p3, x3, s3, n3, h1, c1, u, v, a.pos⟩
/-- the hand is changed: what else stands stands -/
theorem HandAt.put {H : Hp} {h c : Addr} {cells : List Int} {p x s n p2 x2 s2 n2 : Int} (a : HandAt H h c cells p x s n) (hp : 0 ≤ p2) (hx : 0 ≤ x2) :
    HandAt (upd H h (.lst [.ref c, .int p2, .int x2, .int s2, .int n2])) h c cells p2 x2 s2 n2 ∧ Le H (upd H h (.lst [.ref c, .int p2, .int x2, .int s2, .int n2])) := by
  refine ⟨⟨upd_same, by rw [upd_ne a.ne]; exact a.cell, hp, hx, a.pos⟩, fun b o e => ?_⟩
  by_cases hb : b = h
  · subst hb
    rw [a.hand] at e
    have e2 := Option.some.inj e
    exact .inr ⟨c, p, x, s, n, p2, x2, s2, n2, e2.symm, upd_same, hp, hx⟩
  · rw [upd_ne hb]
    exact .inl e
end W1

set_option maxRecDepth 100000
set_option maxHeartbeats 4000000
/-! comprehensions of typed data -/
namespace W1
open PySem PyProof.Rows L2
structure Enc {α : Type} (enc : α → D) : Prop where
  uni : (∀ a, ∃ i, enc a = .int i) ∨ ∀ a, (∀ i, enc a ≠ .int i) ∧ ∀ v, enc a ≠ .obj v
  noL : ∀ a, NoL (enc a)
theorem Enc.un {α : Type} {enc : α → D} (E : Enc enc) (zs : List α) : Uni (zs.map enc) := by
  rcases E.uni with u | u
  · refine .inl fun d hd => ?_
    obtain ⟨a, _, rfl⟩ := List.mem_map.mp hd
    exact u a
  · refine .inr fun d hd => ?_
    obtain ⟨a, _, rfl⟩ := List.mem_map.mp hd
    exact u a
theorem Enc.nl {α : Type} {enc : α → D} (E : Enc enc) (zs : List α) : ∀ d ∈ zs.map enc, NoL d := fun d hd => by
  obtain ⟨a, _, rfl⟩ := List.mem_map.mp hd
  exact E.noL a
theorem enc_int : Enc D.int := ⟨.inl fun a => ⟨a, rfl⟩, fun a => .int a⟩
theorem enc_bl : Enc D.bl := ⟨.inr fun a => ⟨fun _ => (fun e => nomatch e), fun _ => (fun e => nomatch e)⟩, fun a => .bl a⟩
theorem enc_tup {α : Type} {f : α → List D} (h : ∀ a, ∀ d ∈ f a, NoL d) : Enc fun a => D.tup (f a) := ⟨.inr fun a => ⟨fun _ => (fun e => nomatch e), fun _ => (fun e => nomatch e)⟩, fun a => .tup (h a)⟩
def eP (p : Int × Int) : D := .tup [.int p.1, .int p.2]
theorem enc_P : Enc eP := enc_tup fun a d hd => by
  rcases List.mem_cons.mp hd with rfl | hd
  · exact .int _
  · rcases List.mem_cons.mp hd with rfl | hd
    · exact .int _
    · cases hd
def GI {α : Type} (enc : α → D) (J : Nat → List α → Prop) : Nat → List D → Prop := fun i acc => ∃ zs : List α, acc = zs.map enc ∧ zs.length ≤ 50000 ∧ J i zs
theorem good {α : Type} {enc : α → D} (E : Enc enc) (J : Nat → List α → Prop) : Good (GI enc J) := by
  refine ⟨?_, ?_, ?_⟩
  · rintro i acc ⟨zs, rfl, _, _⟩
    exact E.un zs
  · rintro i acc ⟨zs, rfl, _, _⟩
    exact E.nl zs
  · rintro i acc ⟨zs, rfl, h, _⟩
    rw [List.length_map]
    exact h
theorem GI.more {α : Type} {enc : α → D} {J : Nat → List α → Prop} {i : Nat} {zs : List α} {a : α} (hz : (zs ++ [a]).length ≤ 50000) (j : J (i + 1) (zs ++ [a])) : GI enc J (i + 1) (zs.map enc ++ [enc a]) := ⟨zs ++ [a], by simp, hz, j⟩
section
variable {K : PySem.W.Frag} {σ : L2.St} {H H' : Hp} {ta tb tc te : TE} {tt : TT} {ra : TA} {d : D} {vs : List Nat} {α β : Type} {enc : α → D} {encS : β → D}
theorem map_at {xs : List β} {i : Nat} (h : (xs.map encS)[i]? = some d) : ∃ b, xs[i]? = some b ∧ d = encS b := by
  rw [List.getElem?_map] at h
  cases e : xs[i]? with
  | none =>
    rw [e] at h
    cases h
  | some b =>
    rw [e] at h
    exact ⟨b, rfl, (Option.some.inj h).symm⟩
theorem fm_yes {xs : List β} {i : Nat} {b : β} {f : β → Bool} {g : β → α} (h : xs[i]? = some b) (hf : f b = true) : ((xs.take (i + 1)).filter f).map g = ((xs.take i).filter f).map g ++ [g b] := by
  rw [List.take_add_one, h]
  simp [hf]
theorem fm_no {xs : List β} {i : Nat} {b : β} {f : β → Bool} {g : β → α} (h : xs[i]? = some b) (hf : f b = false) : ((xs.take (i + 1)).filter f).map g = ((xs.take i).filter f).map g := by
  rw [List.take_add_one, h]
  simp [hf]
theorem fm_len (xs : List β) (f : β → Bool) (g : β → α) : ((xs.filter f).map g).length ≤ xs.length := by
  rw [List.length_map]
  exact List.length_filter_le f xs
theorem et_yes : EB tYes σ H true := fun H1 _ Q q => q true H1 (Le.refl _) rfl
/-- [g b for b in xs if f b], xs a tuple -/
theorem ed_lcT (E : Enc enc) (xs : List β) (f : β → Bool) (g : β → α) {j : Nat} (h : ED K ta σ H (.tup (xs.map encS))) (hz : xs.length ≤ 50000) (hw : ∀ x, wipe ((wipe σ vs).set j (some x)) vs = wipe σ vs)
    (ht : ∀ b v H1, Le H H1 → b ∈ xs → Rp K H1 v (encS b) → EB tt ((wipe σ vs).set j (some v)) H1 (f b))
    (he : ∀ b v H1, Le H H1 → b ∈ xs → Rp K H1 v (encS b) → f b = true → ED K te ((wipe σ vs).set j (some v)) H1 (enc (g b))) : ED K (tLc (iTup K ta) (gName j) tt te vs) σ H (.lst (((xs.filter f).map g).map enc)) := by
  refine EP.weak (ep_lcT (I := GI enc fun i zs => zs = ((xs.take i).filter f).map g) (PT := fun i d b => ∃ y, xs[i]? = some y ∧ b = f y) (good E _) h hw ⟨[], rfl, Nat.zero_le _, by simp⟩ ?_ ?_ ?_) ?_
  · intro i d v acc H1 e hd r _
    obtain ⟨b, hb, rfl⟩ := map_at hd
    exact et_weak (ht b v H1 e (List.mem_of_getElem? hb) r) fun x p => ⟨b, hb, p⟩
  · rintro i d v acc H1 e hd r ⟨zs, rfl, hl, rfl⟩ ⟨b, hb, hf⟩
    obtain ⟨b2, hb2, rfl⟩ := map_at hd
    cases hb.symm.trans hb2
    refine (he b v H1 e (List.mem_of_getElem? hb) r hf.symm).weak fun d' H2 _ p => ?_
    have p' : d' = enc (g b) := p
    subst p'
    refine ⟨GI.more ?_ (fm_yes hb hf.symm).symm, E.noL _⟩
    rw [← fm_yes hb hf.symm]
    exact Nat.le_trans (fm_len _ f g) (Nat.le_trans (List.length_take_le _ _) (by
      have := (List.getElem?_eq_some_iff.mp hb).1
      omega))
  · rintro i d acc hd ⟨zs, rfl, hl, rfl⟩ ⟨b, hb, hf⟩
    exact ⟨_, rfl, hl, (fm_no hb hf.symm).symm⟩
  · rintro d H2 _ ⟨acc, rfl, zs, rfl, _, rfl⟩
    rw [List.length_map, List.take_length]
theorem ed_lcL (E : Enc enc) (xs : List β) (f : β → Bool) (g : β → α) {j : Nat} (h : ED K ta σ H (.lst (xs.map encS))) (hz : xs.length ≤ 50000) (hw : ∀ x, wipe ((wipe σ vs).set j (some x)) vs = wipe σ vs)
    (ht : ∀ b v H1, Le H H1 → b ∈ xs → Rp K H1 v (encS b) → EB tt ((wipe σ vs).set j (some v)) H1 (f b))
    (he : ∀ b v H1, Le H H1 → b ∈ xs → Rp K H1 v (encS b) → f b = true → ED K te ((wipe σ vs).set j (some v)) H1 (enc (g b))) : ED K (tLc (iList K ta) (gName j) tt te vs) σ H (.lst (((xs.filter f).map g).map enc)) := by
  refine EP.weak (ep_lcL (I := GI enc fun i zs => zs = ((xs.take i).filter f).map g) (PT := fun i d b => ∃ y, xs[i]? = some y ∧ b = f y) (good E _) h hw ⟨[], rfl, Nat.zero_le _, by simp⟩ ?_ ?_ ?_) ?_
  · intro i d v acc H1 e hd r _
    obtain ⟨b, hb, rfl⟩ := map_at hd
    exact et_weak (ht b v H1 e (List.mem_of_getElem? hb) r) fun x p => ⟨b, hb, p⟩
  · rintro i d v acc H1 e hd r ⟨zs, rfl, hl, rfl⟩ ⟨b, hb, hf⟩
    obtain ⟨b2, hb2, rfl⟩ := map_at hd
    cases hb.symm.trans hb2
    refine (he b v H1 e (List.mem_of_getElem? hb) r hf.symm).weak fun d' H2 _ p => ?_
    have p' : d' = enc (g b) := p
    subst p'
    refine ⟨GI.more ?_ (fm_yes hb hf.symm).symm, E.noL _⟩
    rw [← fm_yes hb hf.symm]
    exact Nat.le_trans (fm_len _ f g) (Nat.le_trans (List.length_take_le _ _) (by
      have := (List.getElem?_eq_some_iff.mp hb).1
      omega))
  · rintro i d acc hd ⟨zs, rfl, hl, rfl⟩ ⟨b, hb, hf⟩
    exact ⟨_, rfl, hl, (fm_no hb hf.symm).symm⟩
  · rintro d H2 _ ⟨acc, rfl, zs, rfl, _, rfl⟩
    rw [List.length_map, List.take_length]
/-- .. over range(n) -/
theorem ed_lcR (E : Enc enc) {n : Nat} (f : Nat → Bool) (g : Nat → α) {j : Nat} (h : EDA K ra σ H [.int (n : Int)]) (hz : n ≤ 50000) (hw : ∀ x, wipe ((wipe σ vs).set j (some x)) vs = wipe σ vs)
    (ht : ∀ (i : Nat) H1, Le H H1 → i < n → EB tt ((wipe σ vs).set j (some (.int (i : Int)))) H1 (f i))
    (he : ∀ (i : Nat) H1, Le H H1 → i < n → f i = true → ED K te ((wipe σ vs).set j (some (.int (i : Int)))) H1 (enc (g i))) : ED K (tLc (iRng1 ra) (gName j) tt te vs) σ H (.lst ((((List.range n).filter f).map g).map enc)) := by
  refine EP.weak (ep_lcR1 (I := GI enc fun i zs => zs = ((List.range i).filter f).map g) (PT := fun i b => b = f i) (good E _) h (by omega) hw ⟨[], rfl, Nat.zero_le _, by simp⟩ ?_ ?_ ?_) ?_
  · intro i acc H1 e hi _
    exact ht i H1 e (by omega)
  · rintro i acc H1 e hi ⟨zs, rfl, hl, rfl⟩ hf
    refine (he i H1 e (by omega) hf.symm).weak fun d' H2 _ p => ?_
    have p' : d' = enc (g i) := p
    subst p'
    have ey : ((List.range (i + 1)).filter f).map g = ((List.range i).filter f).map g ++ [g i] := by
      rw [List.range_succ]
      simp [← hf]
    refine ⟨GI.more ?_ ey.symm, E.noL _⟩
    rw [← ey]
    refine Nat.le_trans (fm_len _ f g) ?_
    rw [List.length_range]
    omega
  · rintro i acc hi ⟨zs, rfl, hl, rfl⟩ hf
    refine ⟨_, rfl, hl, ?_⟩
    show _ = ((List.range (i + 1)).filter f).map g
    rw [List.range_succ]
    simp [← hf]
  · rintro d H2 _ ⟨acc, rfl, zs, rfl, _, rfl⟩
    rw [Int.toNat_natCast]
/-- a list of n things of which each has been drawn: all have Z -/
theorem ep_lcR (E : Enc enc) {n : Nat} (Z : α → Prop) {j : Nat} (h : EDA K ra σ H [.int (n : Int)]) (hz : n ≤ 50000) (hw : ∀ x, wipe ((wipe σ vs).set j (some x)) vs = wipe σ vs)
    (he : ∀ (i : Nat) H1, Le H H1 → i < n → EP K te ((wipe σ vs).set j (some (.int (i : Int)))) H1 (fun d _ => ∃ a, d = enc a ∧ Z a)) :
    EP K (tLc (iRng1 ra) (gName j) tYes te vs) σ H (fun d _ => ∃ zs : List α, d = .lst (zs.map enc) ∧ zs.length = n ∧ ∀ a ∈ zs, Z a) := by
  refine EP.weak (ep_lcR1 (I := GI enc fun i zs => zs.length = i ∧ ∀ a ∈ zs, Z a) (PT := fun i b => b = true) (good E _) h (by omega) hw ⟨[], rfl, Nat.zero_le _, rfl, by simp⟩ ?_ ?_ ?_) ?_
  · intro i acc H1 e hi _
    exact et_yes
  · rintro i acc H1 e hi ⟨zs, rfl, hl, rfl, hZ⟩ _
    refine (he _ H1 e (by omega)).weak fun d' H2 _ p => ?_
    obtain ⟨a, rfl, za⟩ := p
    refine ⟨GI.more (by simp; omega) ⟨by simp, fun x hx => ?_⟩, E.noL _⟩
    rcases List.mem_append.mp hx with hx | hx
    · exact hZ x hx
    · rw [List.mem_singleton.mp hx]
      exact za
  · rintro i acc hi _ hf
    cases hf
  · rintro d H2 _ ⟨acc, rfl, zs, rfl, _, hl, hZ⟩
    exact ⟨zs, rfl, by rw [hl, Int.toNat_natCast], hZ⟩
/-- xs a list, each item kept or not as it is drawn: some of xs, in order -/
theorem ep_lcSub (E : Enc enc) (xs : List α) (Z : α → Prop) {j : Nat} (h : ED K ta σ H (.lst (xs.map enc))) (hz : xs.length ≤ 50000) (hw : ∀ x, wipe ((wipe σ vs).set j (some x)) vs = wipe σ vs)
    (ht : ∀ b v H1, Le H H1 → b ∈ xs → Rp K H1 v (enc b) → ET tt ((wipe σ vs).set j (some v)) H1 (fun x => x = true → Z b))
    (he : ∀ b v H1, Le H H1 → b ∈ xs → Rp K H1 v (enc b) → ED K te ((wipe σ vs).set j (some v)) H1 (enc b)) : EP K (tLc (iList K ta) (gName j) tt te vs) σ H (fun d _ => ∃ zs : List α, d = .lst (zs.map enc) ∧ zs.Sublist xs) := by
  refine EP.weak (ep_lcL (I := GI enc fun i zs => zs.Sublist (xs.take i)) (PT := fun i d b => True) (good E _) h hw ⟨[], rfl, Nat.zero_le _, by simp⟩ ?_ ?_ ?_) ?_
  · intro i d v acc H1 e hd r _
    obtain ⟨b, hb, rfl⟩ := map_at hd
    exact et_weak (ht b v H1 e (List.mem_of_getElem? hb) r) fun x p => trivial
  · rintro i d v acc H1 e hd r ⟨zs, rfl, hl, hs⟩ _
    obtain ⟨b, hb, rfl⟩ := map_at hd
    refine (he b v H1 e (List.mem_of_getElem? hb) r).weak fun d' H2 _ p => ?_
    have p' : d' = enc b := p
    subst p'
    have ht : xs.take (i + 1) = xs.take i ++ [b] := by
      rw [List.take_add_one, hb]
      rfl
    have hs2 : (zs ++ [b]).Sublist (xs.take (i + 1)) := by
      rw [ht]
      exact hs.append (List.Sublist.refl _)
    exact ⟨GI.more (Nat.le_trans hs2.length_le (Nat.le_trans (List.length_take_le' _ _) hz)) hs2, E.noL _⟩
  · rintro i d acc hd ⟨zs, rfl, hl, hs⟩ _
    exact ⟨zs, rfl, hl, hs.trans (List.take_sublist_take_left (Nat.le_succ i))⟩
  · rintro d H2 _ ⟨acc, rfl, zs, rfl, _, hs⟩
    rw [List.length_map, List.take_length] at hs
    exact ⟨zs, rfl, hs⟩
/-- [g (lo + i)] over range(lo, hi) -/
theorem ed_lcR2 (E : Enc enc) {lo hi : Int} (g : Int → α) {j : Nat} (h : EDA K ra σ H [.int lo, .int hi]) (hz : -50000 ≤ lo ∧ lo ≤ 50000 ∧ -50000 ≤ hi ∧ hi ≤ 50000 ∧ hi - lo ≤ 50000) (hw : ∀ x, wipe ((wipe σ vs).set j (some x)) vs = wipe σ vs)
    (he : ∀ (i : Nat) H1, Le H H1 → lo + (i : Int) < hi → ED K te ((wipe σ vs).set j (some (.int (lo + (i : Int))))) H1 (enc (g (lo + (i : Int))))) : ED K (tLc (iRng2 ra) (gName j) tYes te vs) σ H (.lst (((List.range (hi - lo).toNat).map fun i : Nat => g (lo + (i : Int))).map enc)) := fun H1 e Q q => h H1 e _ fun ws ds H2 e2 p r => by
  have p' : ds = [.int lo, .int hi] := p
  subst p'
  obtain ⟨v, w, rfl, r1, r2⟩ := rps2 r
  have e3 := rp_int r1
  have e4 := rp_int r2
  subst e3 e4
  have G := good (enc := enc) E fun i zs => zs = (List.range i).map fun i : Nat => g (lo + (i : Int))
  refine ⟨lo, hi, rfl, by omega, fun L hL => lc_it (walk_range (lo := lo) (n := (hi - lo).toNat)) (CI K H2 L (GI enc fun i zs => zs = (List.range i).map fun i : Nat => g (lo + (i : Int)))) (ci_start (I := GI enc fun i zs => zs = (List.range i).map fun i : Nat => g (lo + (i : Int))) hL ⟨[], rfl, Nat.zero_le _, by simp⟩) (fun _ _ _ _ => trivial) ?_ (fun H' c => ?_)⟩
  · rintro i x H' _ hi2 c ⟨rfl, rfl⟩
    refine ⟨hw _, ci_turn G c (fun acc ia => et_yes) ?_ (fun acc ia pt => nomatch pt)⟩
    rintro acc ⟨zs, rfl, hl, rfl⟩ _
    refine (he i H2 (e.trans e2) (by omega)).weak fun d' H3 _ p => ?_
    have p' : d' = enc (g (lo + (i : Int))) := p
    subst p'
    refine ⟨GI.more ?_ ?_, E.noL _⟩
    · rw [List.length_append, List.length_map, List.length_range, List.length_singleton]
      omega
    · show _ = (List.range (i + 1)).map fun i : Nat => g (lo + (i : Int))
      rw [List.range_succ, List.map_append]
      rfl
  · exact ci_end G c fun v d H3 e3 p r => q v d H3 (e2.trans e3) (by
      obtain ⟨acc, rfl, zs, rfl, _, rfl⟩ := p
      rfl) r
/-- [g p for a, b in pairs if f p] -/
theorem ed_lcT2 (E : Enc enc) (xs : List (Int × Int)) (f : Int × Int → Bool) (g : Int × Int → α) {j l : Nat} (h : ED K ta σ H (.tup (xs.map eP))) (hz : xs.length ≤ 50000) (hw : ∀ x y, wipe (((wipe σ vs).set j (some x)).set l (some y)) vs = wipe σ vs)
    (ht : ∀ p H1, Le H H1 → p ∈ xs → EB tt (((wipe σ vs).set j (some (.int p.1))).set l (some (.int p.2))) H1 (f p))
    (he : ∀ p H1, Le H H1 → p ∈ xs → f p = true → ED K te (((wipe σ vs).set j (some (.int p.1))).set l (some (.int p.2))) H1 (enc (g p))) :
    ED K (tLc (iTup K ta) (gTup K 2 (gCons (gName j) (gCons (gName l) gNil))) tt te vs) σ H (.lst (((xs.filter f).map g).map enc)) := fun H1 e Q q => h H1 e _ fun v d0 H2 e2 p r => by
  have p' : d0 = .tup (xs.map eP) := p
  subst p'
  obtain ⟨a, us, rfl, s, rr⟩ := rp_tup r
  have G := good (enc := enc) E fun i zs => zs = ((xs.take i).filter f).map g
  refine ⟨a, rfl, ⟨us, s⟩, fun L hL => lc_it (walk_tup (xs := us)) (CI K H2 L (GI enc fun i zs => zs = ((xs.take i).filter f).map g)) (ci_start (I := GI enc fun i zs => zs = ((xs.take i).filter f).map g) hL ⟨[], rfl, Nat.zero_le _, by simp⟩) (fun i H' _ c => c.2.1.sqt s) ?_ (fun H' c => ?_)⟩
  · rintro i x H' _ hi c ⟨rfl, hx⟩
    obtain ⟨d, h1, h2⟩ := rr.at' hx
    obtain ⟨b, hb, rfl⟩ := map_at h1
    obtain ⟨t, ys, rfl, st, r3⟩ := rp_tup (h2.le c.2.1)
    obtain ⟨v1, v2, rfl, q1, q2⟩ := rps2 r3
    have e3 := rp_int q1
    have e4 := rp_int q2
    subst e3 e4
    have hm := List.mem_of_getElem? hb
    refine ⟨t, _, rfl, st, rfl, _, _, rfl, _, _, rfl, rfl, hw _ _, ci_turn G c (PT := fun x => x = f b) (fun acc ia => ht b H2 (e.trans e2) hm) ?_ ?_⟩
    · rintro acc ⟨zs, rfl, hl, rfl⟩ hf
      refine (he b H2 (e.trans e2) hm hf.symm).weak fun d' H3 _ p => ?_
      have p' : d' = enc (g b) := p
      subst p'
      refine ⟨GI.more ?_ (fm_yes hb hf.symm).symm, E.noL _⟩
      rw [← fm_yes hb hf.symm]
      exact Nat.le_trans (fm_len _ f g) (Nat.le_trans (List.length_take_le _ _) (by
        have := (List.getElem?_eq_some_iff.mp hb).1
        omega))
    · rintro acc ⟨zs, rfl, hl, rfl⟩ hf
      exact ⟨_, rfl, hl, (fm_no hb hf.symm).symm⟩
  · rw [rr.len, List.length_map] at c
    exact ci_end G c fun v d H3 e3 p r => q v d H3 (e2.trans e3) (by
      obtain ⟨acc, rfl, zs, rfl, _, rfl⟩ := p
      show D.lst _ = D.lst _
      rw [List.take_length]) r
end
end W1

set_option maxRecDepth 100000
set_option maxHeartbeats 4000000
/-! the same, something behind -/
namespace W1
open PySem PyProof.Rows L2
section
variable {K : PySem.W.Frag} {σ : L2.St} {H H' : Hp} {ta tb tc te : TE} {t u : TT} {x y z v : V} {d d1 d2 d3 : D} {P P1 P2 P3 : Pd} {D1 : Ends} {tu tw tz : TS} {g : TG}
theorem q_asg {i : Nat} (h : EP K te σ H P) (k : ∀ v d H1, Le H H1 → P d H1 → Rp K H1 v d → tz D1 (σ.set i (some v)) H1) : tSeq (tAsg te (gName i)) tz D1 σ H := s_asg (D1 := { D1 with nx := tz D1 }) h k
theorem q_asgD {i : Nat} (h : ED K te σ H d) (k : ∀ v H1, Le H H1 → Rp K H1 v d → tz D1 (σ.set i (some v)) H1) : tSeq (tAsg te (gName i)) tz D1 σ H := s_asgD (D1 := { D1 with nx := tz D1 }) h k
theorem q_tup2 {i j : Nat} (h : ED K te σ H (.tup [d1, d2])) (k : ∀ v w H1, Le H H1 → Rp K H1 v d1 → Rp K H1 w d2 → tz D1 ((σ.set i (some v)).set j (some w)) H1) : tSeq (tAsg te (gTup K 2 (gCons (gName i) (gCons (gName j) gNil)))) tz D1 σ H := s_tup2 (D1 := { D1 with nx := tz D1 }) h k
theorem q_tup3 {i j l : Nat} {PA : List D → Hp → Prop} {ta : TA} (h : EA K ta σ H PA) (hl : ∀ ds H1, PA ds H1 → ds.length = 3)
    (k : ∀ v w u d1 d2 d3 H1, Le H H1 → PA [d1, d2, d3] H1 → Rp K H1 v d1 → Rp K H1 w d2 → Rp K H1 u d3 → ∀ H2, Le H1 H2 → tz D1 (((σ.set i (some v)).set j (some w)).set l (some u)) H2) : tSeq (tAsg (tTup ta) (gTup K 3 (gCons (gName i) (gCons (gName j) (gCons (gName l) gNil))))) tz D1 σ H := s_tup3 (D1 := { D1 with nx := tz D1 }) h hl k
theorem q_par2 {i j : Nat} {ta : TA} {PA : List D → Hp → Prop} (h : EA K ta σ H PA) (hl : ∀ ds H1, PA ds H1 → ds.length = 2)
    (k : ∀ v w d1 d2 H1, Le H H1 → PA [d1, d2] H1 → Rp K H1 v d1 → Rp K H1 w d2 → tz D1 ((σ.set i (some v)).set j (some w)) H1) : tSeq (tPar i j ta) tz D1 σ H := s_par2 (D1 := { D1 with nx := tz D1 }) h hl k
theorem q_drop (h : EP K te σ H P) (k : ∀ H1, Le H H1 → tz D1 σ H1) : tSeq (tDrop te) tz D1 σ H := s_drop (D1 := { D1 with nx := tz D1 }) h k
theorem q_if {P : Bool → Prop} (h : ET t σ H P) (h1 : P true → ∀ H1, Le H H1 → tu { D1 with nx := tz D1 } σ H1) (h2 : P false → ∀ H1, Le H H1 → tw { D1 with nx := tz D1 } σ H1) : tSeq (tIfS t tu tw) tz D1 σ H := s_if (D1 := { D1 with nx := tz D1 }) h h1 h2
theorem q_ifB {b : Bool} (h : EB t σ H b) (h1 : b = true → ∀ H1, Le H H1 → tu { D1 with nx := tz D1 } σ H1) (h2 : b = false → ∀ H1, Le H H1 → tw { D1 with nx := tz D1 } σ H1) : tSeq (tIfS t tu tw) tz D1 σ H := s_ifB (D1 := { D1 with nx := tz D1 }) h h1 h2
theorem q_set {l : Addr} {vs : List V} {ds : List D} {i : Int} (hl : H l = some (.lst vs)) (nh : NotH vs) (hr : vs.length = ds.length) (h : EP K te σ H P) (ho : ∀ H1, Le H H1 → ED K ta σ H1 (.obj (.ref l))) (hi : ∀ H1, Le H H1 → ED K tb σ H1 (.int i)) (h0 : 0 ≤ i) (hj : i < ds.length)
    (k : ∀ y d H1 H3, Le H H1 → P d H1 → Le H1 H3 → Rp K H3 y d → H3 l = some (.lst vs) → tz D1 σ (upd H3 l (.lst (vs.set i.toNat y)))) : tSeq (tAsg te (gSub ta tb rSetL)) tz D1 σ H := s_set (D1 := { D1 with nx := tz D1 }) hl nh hr h ho hi h0 hj k
theorem q_app {l : Addr} {vs : List V} (hl : H l = some (.lst vs)) (nh : NotH vs) (ha : ED K ta σ H (.obj (.ref l))) (h : ∀ H1, Le H H1 → EP K te σ H1 P) (hz : vs.length < 100000)
    (k : ∀ y d H1, Le H H1 → P d H1 → Rp K H1 y d → H1 l = some (.lst vs) → tz D1 σ (upd H1 l (.lst (vs ++ [y])))) : tSeq (tDrop (tBM K "list" rAppend ta (tCons te tNil))) tz D1 σ H := s_app (D1 := { D1 with nx := tz D1 }) hl nh ha h hz k
theorem q_ext {l : Addr} {vs : List V} {ds : List D} (hl : H l = some (.lst vs)) (nh : NotH vs) (ha : ED K ta σ H (.obj (.ref l))) (h : ∀ H1, Le H H1 → ED K te σ H1 (.lst ds)) (hz : vs.length + ds.length ≤ 100000)
    (k : ∀ ws H1, Le H H1 → Rps K H1 ws ds → H1 l = some (.lst vs) → tz D1 σ (upd H1 l (.lst (vs ++ ws)))) : tSeq (tDrop (tBM K "list" rExtend ta (tCons te tNil))) tz D1 σ H := s_ext (D1 := { D1 with nx := tz D1 }) hl nh ha h hz k
theorem q_forT {ds : List D} (h : ED K te σ H (.tup ds)) (nl : ∀ d ∈ ds, NoL d)
    (k : ∀ H1, Le H H1 → ∃ Pv : Nat → L2.St → Hp → Prop, Pv 0 σ H1 ∧ (∀ i σ' H', i ≤ ds.length → Pv i σ' H' → LeT H1 H') ∧
      (∀ i d v σ' H', ds[i]? = some d → Rp K H' v d → Pv i σ' H' → g v σ' H' fun σ2 H2 => tu ({ D1 with nx := Pv (i + 1), ct := Pv (i + 1), bk := tz D1 }) σ2 H2) ∧ ∀ σ' H', Pv ds.length σ' H' → tz D1 σ' H') : tSeq (tFor (iTup K te) g tu) tz D1 σ H := s_forT (D1 := { D1 with nx := tz D1 }) h nl k
theorem q_forL {ds : List D} (h : ED K te σ H (.lst ds)) (nl : ∀ d ∈ ds, NoL d)
    (k : ∀ a vs H1, Le H H1 → H1 a = some (.lst vs) → Rps K H1 vs ds → ∃ Pv : Nat → L2.St → Hp → Prop, Pv 0 σ H1 ∧ (∀ i σ' H', i ≤ ds.length → Pv i σ' H' → LeT H1 H' ∧ H' a = some (.lst vs)) ∧
      (∀ i d v σ' H', ds[i]? = some d → Rp K H' v d → Pv i σ' H' → g v σ' H' fun σ2 H2 => tu ({ D1 with nx := Pv (i + 1), ct := Pv (i + 1), bk := tz D1 }) σ2 H2) ∧ ∀ σ' H', Pv ds.length σ' H' → tz D1 σ' H') : tSeq (tFor (iList K te) g tu) tz D1 σ H := s_forL (D1 := { D1 with nx := tz D1 }) h nl k
theorem q_forR1 {ta : TA} {n : Int} (h : EDA K ta σ H [.int n]) (hn : -100000 ≤ n ∧ n ≤ 100000)
    (k : ∀ H1, Le H H1 → ∃ Pv : Nat → L2.St → Hp → Prop, Pv 0 σ H1 ∧
      (∀ (i : Nat) σ' H', (i : Int) < n → Pv i σ' H' → g (.int (i : Int)) σ' H' fun σ2 H2 => tu ({ D1 with nx := Pv (i + 1), ct := Pv (i + 1), bk := tz D1 }) σ2 H2) ∧ ∀ σ' H', Pv n.toNat σ' H' → tz D1 σ' H') : tSeq (tFor (iRng1 ta) g tu) tz D1 σ H := s_forR1 (D1 := { D1 with nx := tz D1 }) h hn k
theorem q_forR2 {ta : TA} {lo n : Int} (h : EDA K ta σ H [.int lo, .int n]) (hl : -100000 ≤ lo ∧ lo ≤ 100000 ∧ -100000 ≤ n ∧ n ≤ 100000)
    (k : ∀ H1, Le H H1 → ∃ Pv : Nat → L2.St → Hp → Prop, Pv 0 σ H1 ∧
      (∀ (i : Nat) σ' H', lo + (i : Int) < n → Pv i σ' H' → g (.int (lo + (i : Int))) σ' H' fun σ2 H2 => tu ({ D1 with nx := Pv (i + 1), ct := Pv (i + 1), bk := tz D1 }) σ2 H2) ∧ ∀ σ' H', Pv (n - lo).toNat σ' H' → tz D1 σ' H') : tSeq (tFor (iRng2 ta) g tu) tz D1 σ H := s_forR2 (D1 := { D1 with nx := tz D1 }) h hl k
theorem q_forE {ta : TA} {j : Nat} {ds : List D} (h : EDA K ta σ H [.tup ds]) (nl : ∀ d ∈ ds, NoL d)
    (k : ∀ H1, Le H H1 → ∃ Pv : Nat → L2.St → Hp → Prop, Pv 0 σ H1 ∧ (∀ i σ' H', i ≤ ds.length → Pv i σ' H' → LeT H1 H') ∧
      (∀ (i : Nat) d v σ' H' H2, ds[i]? = some d → Pv i σ' H' → Le H' H2 → Rp K H2 v d → g v (σ'.set j (some (.int (i : Int)))) H2 fun σ2 H3 => gNil [] σ2 H3 fun σ4 H4 => tu ({ D1 with nx := Pv (i + 1), ct := Pv (i + 1), bk := tz D1 }) σ4 H4) ∧ ∀ σ' H', Pv ds.length σ' H' → tz D1 σ' H')  : tSeq (tFor (iEnumT K ta) (gTup K 2 (gCons (gName j) (gCons g gNil))) tu) tz D1 σ H := s_forE (D1 := { D1 with nx := tz D1 }) h nl k
theorem q_when {P : Bool → Prop} (h : ET t σ H P) (h1 : P true → ∀ H1, Le H H1 → tu { D1 with nx := tz D1 } σ H1) (h2 : P false → ∀ H1, Le H H1 → tz D1 σ H1) : tSeq (tIfS t tu tNext) tz D1 σ H := s_if (D1 := { D1 with nx := tz D1 }) h h1 h2
theorem q_whenB {b : Bool} (h : EB t σ H b) (h1 : b = true → ∀ H1, Le H H1 → tu { D1 with nx := tz D1 } σ H1) (h2 : b = false → ∀ H1, Le H H1 → tz D1 σ H1) : tSeq (tIfS t tu tNext) tz D1 σ H := s_ifB (D1 := { D1 with nx := tz D1 }) h h1 h2
theorem q_cut {M : L2.St → Hp → Prop} (h : tu { D1 with nx := M } σ H) (k : ∀ σ' H', M σ' H' → tz D1 σ' H') : Evl.tCut tu tz D1 σ H := ⟨M, h, k⟩
end
end W1

set_option maxRecDepth 100000
set_option maxHeartbeats 4000000
/-! new lists -/
namespace W1
open PySem PyProof.Rows L2
section
variable {K : PySem.W.Frag} {σ : L2.St} {H H' : Hp} {ta tb tc te : TE} {t u : TT} {d d1 d2 d3 : D} {P P1 P2 P3 : Pd} {D1 : Ends} {tu tw tz : TS} {g : TG}
/-- e makes a new list of data ds of which P holds -/
def EF (K : PySem.W.Frag) (te : TE) (σ : L2.St) (H : Hp) (P : List D → Prop) : Prop := ∀ H1, Le H H1 → ∀ Q : VK, (∀ p vs ds H2, H1 p = none → Le H1 H2 → H2 p = some (.lst vs) → NotH vs → Rps K H2 vs ds → P ds → Q (.ref p) H2) → te σ H1 Q
abbrev EFD (K : PySem.W.Frag) (te : TE) (σ : L2.St) (H : Hp) (ds : List D) : Prop := EF K te σ H fun x => x = ds
theorem EF.ep {PL : List D → Prop} (h : EF K te σ H PL) : EP K te σ H (fun d _ => ∃ ds, d = .lst ds ∧ PL ds) := fun H1 e Q q => h H1 e Q fun p vs ds H2 _ e2 hp nh r pl => q _ (.lst ds) H2 e2 ⟨ds, rfl, pl⟩ (.lst hp nh r)
theorem EFD.ed {ds : List D} (h : EFD K te σ H ds) : ED K te σ H (.lst ds) := fun H1 e Q q => h H1 e Q fun p vs ds' H2 _ e2 hp nh r pl => by
  have p' : ds' = ds := pl
  subst p'
  exact q _ (.lst ds') H2 e2 rfl (.lst hp nh r)
theorem ef_lst {A : TA} {ds : List D} (h : EDA K A σ H ds) (hl : ds.length ≤ 100000) (hc : calmL ds = true) : EFD K (tLst A) σ H ds := fun H1 e Q q => h H1 e _ fun vs es H2 e2 p r => by
  have p' : es = ds := p
  subst p'
  exact ⟨by rw [r.len]; exact Evl.sz_of hl, fun a na => q a vs es _ (e2.fresh na) (e2.trans (Le.new na)) upd_same (calm_notH hc r) (r.le (Le.new na)) rfl⟩
theorem ef_lstOfT {ds : List D} (h : ED K ta σ H (.tup ds)) (hu : Uni ds) : EFD K (tCB (rLstOf K) (tCons ta tNil)) σ H ds := fun H1 e Q q => h H1 e _ fun v d H2 e2 p r => by
  have p' : d = .tup ds := p
  subst p'
  obtain ⟨a, xs, rfl, s, rr⟩ := rp_tup r
  refine ⟨a, xs, rfl, .inr s, fun l hl => ?_⟩
  have rf := rr.le (Le.new (o := .lst xs) hl)
  exact q l xs ds _ (e2.fresh hl) (e2.trans (Le.new hl)) upd_same (hu.notH rf) rf rfl
theorem ef_lstOfL {ds : List D} (h : ED K ta σ H (.lst ds)) : EFD K (tCB (rLstOf K) (tCons ta tNil)) σ H ds := fun H1 e Q q => h H1 e _ fun v d H2 e2 p r => by
  have p' : d = .lst ds := p
  subst p'
  obtain ⟨a, xs, rfl, s, nh, rr⟩ := rp_lst r
  exact ⟨a, xs, rfl, .inl (SqL.of s), fun l hl => q l xs ds _ (e2.fresh hl) (e2.trans (Le.new hl)) upd_same nh (rr.le (Le.new hl)) rfl⟩
theorem ef_rep {ds : List D} {k : Int} (ha : ED K ta σ H (.lst ds)) (hb : ED K tb σ H (.int k)) (h1 : 0 ≤ k ∧ k ≤ 1000) (hz : ds.length ≤ 1000) (hu : Uni (List.replicate k.toNat ds).flatten) : EFD K (tOp rRep ta tb) σ H (List.replicate k.toNat ds).flatten := fun H1 e Q q =>
  ha H1 e _ fun x d1 H2 e2 p1 r1 => hb H2 (e.trans e2) _ fun y d2 H3 e3 p2 r2 => by
    have p1' : d1 = .lst ds := p1
    have p2' : d2 = .int k := p2
    subst p1' p2'
    obtain ⟨a, xs, rfl, s, nh, rr⟩ := rp_lst (r1.le e3)
    have hm : xs.length * k.toNat ≤ 1000 * 1000 := Nat.mul_le_mul (by rw [rr.len]; exact hz) (by omega)
    refine ⟨a, k, xs, rfl, rp_int r2, s, by omega, by omega, Nat.le_trans hm (by decide), fun p np => ?_⟩
    have rf := (rr.le (Le.new (o := .lst (List.replicate k.toNat xs).flatten) np)).flat k.toNat
    exact q p _ _ _ ((e2.trans e3).fresh np) ((e2.trans e3).trans (Le.new np)) upd_same (hu.notH rf) rf rfl
theorem s_asgF {i : Nat} {PL : List D → Prop} (h : EF K te σ H PL) (k : ∀ p vs ds H1, H p = none → Le H H1 → H1 p = some (.lst vs) → NotH vs → Rps K H1 vs ds → PL ds → D1.nx (σ.set i (some (.ref p))) H1) : tAsg te (gName i) D1 σ H := h H (Le.refl _) _ k
theorem q_asgF {i : Nat} {PL : List D → Prop} (h : EF K te σ H PL) (k : ∀ p vs ds H1, H p = none → Le H H1 → H1 p = some (.lst vs) → NotH vs → Rps K H1 vs ds → PL ds → tz D1 (σ.set i (some (.ref p))) H1) : tSeq (tAsg te (gName i)) tz D1 σ H := s_asgF (D1 := { D1 with nx := tz D1 }) h k
end
end W1

set_option maxRecDepth 100000
set_option maxHeartbeats 4000000
/-! rules whose reading names the written part, with its name given -/
namespace W1
open PySem PyProof.Rows L2
section
variable {X : Cx} {K : PySem.W.Frag} {w : World}
theorem kop_in (h : X.K = K := by rfl) : OpR X (compareOp .In) (rIn K false) := h ▸ op_in_seq
theorem kop_nin (h : X.K = K := by rfl) : OpR X (compareOp .NotIn) (rIn K true) := h ▸ op_notIn_seq
theorem kop_catA (h : X.K = K := by rfl) : OpR X (binaryOp .Add) (rCatA K) := h ▸ op_catA
theorem kop_rep1 (h : X.K = K := by rfl) : OpR X (binaryOp .Mult) (rRep1 K) := h ▸ op_rep1
theorem kop_eqD (hu : X.A.units + 64 < cLine) (h : X.K = K := by rfl) : OpR X (compareOp .Eq) (rEqD K) := h ▸ op_eqD hu
theorem kop_neD (hu : X.A.units + 64 < cLine) (h : X.K = K := by rfl) : OpR X (compareOp .NotEq) (rNeD K) := h ▸ op_neD hu
theorem kop_ltT (hu : X.A.units < cLine) (h : X.K = K := by rfl) : OpR X (compareOp .Lt) (rLtT K) := h ▸ op_ltT hu
theorem kop_leT (hu : X.A.units < cLine) (h : X.K = K := by rfl) : OpR X (compareOp .LtE) (rLeT K) := h ▸ op_leT hu
theorem kix_tup (h : X.K = K := by rfl) : IxR X (rIxT K) := h ▸ ix_tup
theorem kix_list (h : X.K = K := by rfl) : IxR X (rIxL K) := h ▸ ix_list
theorem ksl_tup (h : X.K = K := by rfl) : SlR X (rSlA K) := h ▸ sl_tupA
theorem ksl_list (h : X.K = K := by rfl) : SlR X (rSlL K) := h ▸ sl_list
theorem kc_len (h : X.K = K := by rfl) : CallR X (.builtin "len") (fun xs H Q => ∃ p ys, xs = [.ref p] ∧ (SqL K H p ys ∨ SqT K H p ys) ∧ Q (.int ys.length) H) := h ▸ call_len_seq
theorem kc_tuple (h : X.K = K := by rfl) : CallR X (.type "tuple") (rTupOf K) := h ▸ call_tuple_of
theorem kc_list (h : X.K = K := by rfl) : CallR X (.type "list") (rLstOf K) := h ▸ call_list_of
theorem kc_sortedI (h : X.K = K := by rfl) : CallR X (.builtin "sorted") (rSortedI K) := h ▸ cr_sortedI
theorem kc_all (hc : X.calm = true) (h : X.K = K := by rfl) : CallR X (.builtin "all") (rAll K) := h ▸ cr_all hc
theorem kc_setL (hc : X.calm = true) (h : X.K = K := by rfl) (h2 : X.w = w := by rfl) : CallR X (.type "set") (rSetOfL K w) := h2 ▸ h ▸ cr_setL hc
theorem kc_sortedSet (hc : X.calm = true) (h2 : X.w = w := by rfl) : CallR X (.builtin "sorted") (rSortedSet w) := h2 ▸ cr_sortedSet hc
theorem kc_isi (h : X.K = K := by rfl) : CallR X (.builtin "isinstance") (rIsi K) := h ▸ call_isi
theorem kpg_tup {es : List Expr} {k : Nat} {t : TGs} {n : Nat} {pos : Pos} (hc : X.calm = true) (hp : PGs X es t) (hn : (assignEach es X.env).length = n := by rfl) (hst : (assignEach es X.env).findIdx? (·.1) = none := by rfl) (h : X.K = K := by rfl) :
    PG X (.Tuple es k pos) (gTup K n t) := h ▸ pg_tup hc hp hn hst
theorem kpe_fld {e : Expr} {f : Str} {ta : TE} {pos : Pos} (he : PE X e ta) (hb : attributeBase e f X.env (eval e X.env) = eval e X.env := by rfl) (h : X.K = K := by rfl) : PE X (.Attribute e f pos) (tFld K ta f) := h ▸ pe_fld he hb
theorem kpi_list {l tg : Expr} {tl : TE} (hl : PE X l tl) (h : X.K = K := by rfl) : PI X tg l (iList K tl) := h ▸ pi_list hl
theorem kpi_tup {l tg : Expr} {tl : TE} (hl : PE X l tl) (h : X.K = K := by rfl) : PI X tg l (iTup K tl) := h ▸ pi_tup hl
theorem kpi_enumT {e : Expr} {ta : TA} {p pos tp : Pos} {elts : List Expr} {kk : Nat} (hg : Gl X "enumerate") (hm : X.mg "enumerate" = none) (ha : PA X [e] ta) (hs : starEach [e] X.env = [(false, eval e X.env)] := by rfl) (h : X.K = K := by rfl) :
    PI X (.Tuple elts kk tp) (.Call (.Name "enumerate" p) [e] [] pos) (iEnumT K ta) := h ▸ pi_enumT hg hm ha hs
theorem kpe_revL {e : Expr} {te : TE} {k : Nat} {p1 p2 p3 pos : Pos} (he : PE X e te) (h : X.K = K := by rfl) : PE X (.Subscript e (.Slice none none (some (.UnaryOp .USub (.Constant (.int 1) k p1) p2)) p3) pos) (tRevL K te) := h ▸ pe_revL he
end
end W1

set_option maxRecDepth 100000
set_option maxHeartbeats 4000000
namespace W1
open PySem PyProof.Rows L2
section
variable {K : PySem.W.Frag} {σ : L2.St} {H H' : Hp} {ta tb tc te : TE} {tt : TT} {ra : TA} {t u : TT} {d d1 d2 d3 : D} {P P1 P2 P3 : Pd} {D1 : Ends} {tu tw tz : TS} {g : TG} {vs : List Nat} {α : Type} {enc : α → D}
/-- a loop over a list that is known by what holds of it -/
theorem s_forLP {PL : List α → Prop} (E : Enc enc) (h : EP K te σ H fun d _ => ∃ xs : List α, d = .lst (xs.map enc) ∧ PL xs)
    (k : ∀ xs a us H1, PL xs → Le H H1 → H1 a = some (.lst us) → NotH us → ∃ Pv : Nat → L2.St → Hp → Prop, Pv 0 σ H1 ∧ (∀ i σ' H', i ≤ xs.length → Pv i σ' H' → LeT H1 H' ∧ H' a = some (.lst us)) ∧
      (∀ i x v σ' H', xs[i]? = some x → Rp K H' v (enc x) → Pv i σ' H' → g v σ' H' fun σ2 H2 => tu { D1 with nx := Pv (i + 1), ct := Pv (i + 1), bk := D1.nx } σ2 H2) ∧ ∀ σ' H', Pv xs.length σ' H' → D1.nx σ' H') : tFor (iList K te) g tu D1 σ H := h H (Le.refl _) _ fun v d0 H1 e p r => by
  obtain ⟨xs, rfl, pl⟩ := p
  obtain ⟨a, us, rfl, s, nh, rr⟩ := rp_lst r
  obtain ⟨Pv, h0, hle, hs, hd⟩ := k xs a us H1 pl e s nh
  have el : us.length = xs.length := by rw [rr.len, List.length_map]
  refine ⟨a, rfl, ⟨us, SqL.of s⟩, for_it (walk_list (xs := us)) Pv h0 (fun i σ' H' hi q => SqL.of (hle i σ' H' (by rw [← el]; exact hi) q).2) ?_ (fun σ' H' q => hd σ' H' (by rw [← el]; exact q))⟩
  rintro i x σ' H' _ hi q ⟨rfl, hx⟩
  obtain ⟨d, h1, h2⟩ := rr.at' hx
  obtain ⟨b, hb, rfl⟩ := map_at h1
  exact hs i b x σ' _ hb (h2.leT (hle i σ' _ (by rw [← el]; omega) q).1 (E.noL _)) q
theorem q_forLP {PL : List α → Prop} (E : Enc enc) (h : EP K te σ H fun d _ => ∃ xs : List α, d = .lst (xs.map enc) ∧ PL xs)
    (k : ∀ xs a us H1, PL xs → Le H H1 → H1 a = some (.lst us) → NotH us → ∃ Pv : Nat → L2.St → Hp → Prop, Pv 0 σ H1 ∧ (∀ i σ' H', i ≤ xs.length → Pv i σ' H' → LeT H1 H' ∧ H' a = some (.lst us)) ∧
      (∀ i x v σ' H', xs[i]? = some x → Rp K H' v (enc x) → Pv i σ' H' → g v σ' H' fun σ2 H2 => tu { D1 with nx := Pv (i + 1), ct := Pv (i + 1), bk := tz D1 } σ2 H2) ∧ ∀ σ' H', Pv xs.length σ' H' → tz D1 σ' H') : tSeq (tFor (iList K te) g tu) tz D1 σ H := s_forLP (D1 := { D1 with nx := tz D1 }) E h k
/-- [x for x in range(n) if ..] -/
theorem ep_lcRS {n : Nat} {j : Nat} (h : EDA K ra σ H [.int (n : Int)]) (hz : n ≤ 50000) (hw : ∀ x, wipe ((wipe σ vs).set j (some x)) vs = wipe σ vs)
    (ht : ∀ (i : Nat) H1, Le H H1 → i < n → ET tt ((wipe σ vs).set j (some (.int (i : Int)))) H1 fun _ => True)
    (he : ∀ (i : Nat) H1, Le H H1 → i < n → ED K te ((wipe σ vs).set j (some (.int (i : Int)))) H1 (.int (i : Int))) :
    EP K (tLc (iRng1 ra) (gName j) tt te vs) σ H (fun d _ => ∃ zs : List Int, d = .lst (zs.map .int) ∧ zs.length ≤ n ∧ ∀ z ∈ zs, 0 ≤ z ∧ z < n) := by
  refine EP.weak (ep_lcR1 (I := GI D.int fun i zs => zs.length ≤ i ∧ ∀ z ∈ zs, 0 ≤ z ∧ z < (n : Int)) (PT := fun i b => True) (good enc_int _) h (by omega) hw ⟨[], rfl, Nat.zero_le _, Nat.le_refl _, by simp⟩ ?_ ?_ ?_) ?_
  · intro i acc H1 e hi _
    exact ht i H1 e (by omega)
  · rintro i acc H1 e hi ⟨zs, rfl, hl, hl2, hZ⟩ _
    refine (he i H1 e (by omega)).weak fun d' H2 _ p => ?_
    have p' : d' = .int (i : Int) := p
    subst p'
    refine ⟨GI.more (by simp; omega) ⟨by simp; omega, fun x hx => ?_⟩, .int _⟩
    rcases List.mem_append.mp hx with hx | hx
    · exact hZ x hx
    · rw [List.mem_singleton.mp hx]
      omega
  · rintro i acc hi ⟨zs, rfl, hl, hl2, hZ⟩ _
    exact ⟨zs, rfl, hl, by omega, hZ⟩
  · rintro d H2 _ ⟨acc, rfl, zs, rfl, _, hl, hZ⟩
    rw [Int.toNat_natCast] at hl
    exact ⟨zs, rfl, hl, hZ⟩
/-- new, known by what holds of it -/
theorem EP.anyL {PL : List D → Prop} (h : EP K te σ H fun d _ => ∃ ds, d = .lst ds ∧ PL ds) : EP K te σ H fun d _ => ∃ ds, d = .lst ds := h.weak fun d _ _ ⟨ds, e, _⟩ => ⟨ds, e⟩
theorem EA_weak {A : TA} {P1 P2 : List D → Hp → Prop} (h : EA K A σ H P1) (w : ∀ ds H2, P1 ds H2 → P2 ds H2) : EA K A σ H P2 := fun H1 a Q q => h H1 a Q fun vs ds H2 b p r => q vs ds H2 b (w ds H2 p) r
/-! promises of a new list -/
def spF (K : PySem.W.Frag) (R : List D → Hp → (List D → Prop) → Prop) : Sp := fun vs H Q _ => ∃ ds PL, Rps K H vs ds ∧ R ds H PL ∧ ∀ p us es H2, H p = none → Le H H2 → H2 p = some (.lst us) → NotH us → Rps K H2 us es → PL es → Q (.ref p) H2
theorem ef_call {R : List D → Hp → (List D → Prop) → Prop} {E : XK} {A : TA} {ds : List D} {PL : List D → Prop} (h : EDA K A σ H ds) (hr : ∀ H2, Le H H2 → R ds H2 PL) : EF K (tCall (spF K R) [] E A) σ H PL := fun H1 e Q q =>
  h H1 e _ fun vs es H2 e2 p r => by
    have p' : es = ds := p
    subst p'
    exact ⟨es, PL, by rw [List.append_nil]; exact r, hr H2 (e.trans e2), fun a us fs H3 na e3 ha nh r3 pl => q a us fs H3 (e2.fresh na) (e2.trans e3) ha nh r3 pl⟩
theorem ef_sortedI {PN : List Int → Prop} (h : EP K ta σ H fun d _ => ∃ ns : List Int, d = .lst (ns.map .int) ∧ PN ns) :
    EF K (tCB (rSortedI K) (tCons ta tNil)) σ H (fun ds => ∃ ns ns' : List Int, ds = ns'.map .int ∧ PN ns ∧ ns'.Perm ns ∧ ns'.Pairwise (· ≤ ·)) := fun H1 e Q q => h H1 e _ fun v d H2 e2 p r => by
  obtain ⟨ns, rfl, pn⟩ := p
  obtain ⟨a, xs, rfl, s, nh, rr⟩ := rp_lst r
  have ex := ints_rps rr
  subst ex
  exact ⟨a, ns, rfl, SqL.of s, fun ns' p hp hs hn => q p _ _ _ (e2.fresh hn) (e2.trans (Le.new hn)) upd_same (notH_ints _) (rps_ints _) ⟨ns, ns', rfl, pn, hp, hs⟩⟩
theorem s_retF {PL : List D → Prop} (h : EF K te σ H PL) (k : ∀ p us ds H1, H p = none → Le H H1 → H1 p = some (.lst us) → NotH us → Rps K H1 us ds → PL ds → D1.rt (.ref p) H1) : tRet te D1 σ H := h H (Le.refl _) _ k
theorem EF.le {PL : List D → Prop} (e : Le H H') (h : EF K te σ H PL) : EF K te σ H' PL := fun H1 a Q q => h H1 (e.trans a) Q q
theorem s_forLF {PL : List α → Prop} (E : Enc enc) (h : EF K te σ H fun ds => ∃ xs : List α, ds = xs.map enc ∧ PL xs)
    (k : ∀ xs a us H1, PL xs → H a = none → Le H H1 → H1 a = some (.lst us) → NotH us → ∃ Pv : Nat → L2.St → Hp → Prop, Pv 0 σ H1 ∧ (∀ i σ' H', i ≤ xs.length → Pv i σ' H' → LeT H1 H' ∧ H' a = some (.lst us)) ∧
      (∀ i x v σ' H', xs[i]? = some x → Rp K H' v (enc x) → Pv i σ' H' → g v σ' H' fun σ2 H2 => tu { D1 with nx := Pv (i + 1), ct := Pv (i + 1), bk := D1.nx } σ2 H2) ∧ ∀ σ' H', Pv xs.length σ' H' → D1.nx σ' H') : tFor (iList K te) g tu D1 σ H := h H (Le.refl _) _ fun a us ds H1 na e s nh rr p => by
  obtain ⟨xs, rfl, pl⟩ := p
  obtain ⟨Pv, h0, hle, hs, hd⟩ := k xs a us H1 pl na e s nh
  have el : us.length = xs.length := by rw [rr.len, List.length_map]
  refine ⟨a, rfl, ⟨us, SqL.of s⟩, for_it (walk_list (xs := us)) Pv h0 (fun i σ' H' hi q => SqL.of (hle i σ' H' (by rw [← el]; exact hi) q).2) ?_ (fun σ' H' q => hd σ' H' (by rw [← el]; exact q))⟩
  rintro i x σ' H' _ hi q ⟨rfl, hx⟩
  obtain ⟨d, h1, h2⟩ := rr.at' hx
  obtain ⟨b, hb, rfl⟩ := map_at h1
  exact hs i b x σ' _ hb (h2.leT (hle i σ' _ (by rw [← el]; omega) q).1 (E.noL _)) q
theorem q_forLF {PL : List α → Prop} (E : Enc enc) (h : EF K te σ H fun ds => ∃ xs : List α, ds = xs.map enc ∧ PL xs)
    (k : ∀ xs a us H1, PL xs → H a = none → Le H H1 → H1 a = some (.lst us) → NotH us → ∃ Pv : Nat → L2.St → Hp → Prop, Pv 0 σ H1 ∧ (∀ i σ' H', i ≤ xs.length → Pv i σ' H' → LeT H1 H' ∧ H' a = some (.lst us)) ∧
      (∀ i x v σ' H', xs[i]? = some x → Rp K H' v (enc x) → Pv i σ' H' → g v σ' H' fun σ2 H2 => tu { D1 with nx := Pv (i + 1), ct := Pv (i + 1), bk := tz D1 } σ2 H2) ∧ ∀ σ' H', Pv xs.length σ' H' → tz D1 σ' H') : tSeq (tFor (iList K te) g tu) tz D1 σ H := s_forLF (D1 := { D1 with nx := tz D1 }) E h k
end
section
variable {P : Program} {w : World} {K : PySem.W.Frag} {mg : Str → Option Value} {base : Heap}
theorem defF {x : Str} {st : Stmt} {N ps : List Str} {k : Nat} {R : List D → Hp → (List D → Prop) → Prop} (g : GDef K mg x st ps) (S : FnScope N ps (defScope st)) (hl : ∀ ds H Pd, R ds H Pd → ds.length = ps.length)
    (body : ∀ (cdv : Value) (A : Around) (outer : List Env) (s : Shared) (f : Addr) (H : Hp) (vs : List V) (ds : List D) (PL : List D → Prop) (Q : VK) (E : XK), Room k (A.deeper (envOfC x (defScope st) s.heap.objs.size f cdv)) → Rps K H vs ds → R ds H PL →
      (∀ p us es H2, H p = none → Le H H2 → H2 p = some (.lst us) → NotH us → Rps K H2 us es → PL es → Q (.ref p) H2) →
      ∃ t, PSs (cxOf CX0 P w K mg base N x (defScope st) f cdv A outer s H E).nox (defBody st) t ∧ t { nx := fun _ H' => Q .non H', rt := Q } (start N vs) H) : Def P w K mg base (k + 1) x ps (spF K R) := by
  refine defS g S (fun vs H Q E h => ?_) fun cdv A outer s f H vs Q E hr h => ?_
  · obtain ⟨ds, Pd, r, h, _⟩ := h
    rw [r.len]
    exact hl ds H Pd h
  · obtain ⟨ds, Pd, r, h, q⟩ := h
    exact body cdv A outer s f H vs ds Pd Q E hr r h q
end
end W1

set_option maxRecDepth 100000
set_option maxHeartbeats 4000000
namespace W1
open PySem PyProof.Rows L2
section
variable {X : Cx} {K : PySem.W.Frag} {σ : L2.St} {H H' : Hp} {ta tb tc te : TE} {tt : TT} {t u : TT} {d d1 d2 d3 : D} {P P1 P2 P3 : Pd} {D1 : Ends} {tu tw tz : TS}
/-- a name of the module that holds a number -/
theorem pe_gl {x : Str} {pos : Pos} {v : V} (hm : ∃ u, X.mg x = some u ∧ RelV v u) (hg : Gl X x := by rfl) (hd : (x == ("__debug__" : Str)) = false := by decide) : PE X (.Name x pos) (tC v) := by
  obtain ⟨u, h1, h2⟩ := hm
  exact pe_glob hg h1 h2 hd
/-- a way that is not taken -/
theorem s_no {b : Bool} (h : EB t σ H b) (hb : b = false) (k : ∀ H1, Le H H1 → tw D1 σ H1) : tIfS t tu tw D1 σ H := s_ifB h (fun e => by rw [hb] at e; cases e) fun _ => k
theorem q_no {b : Bool} (h : EB t σ H b) (hb : b = false) (k : ∀ H1, Le H H1 → tz D1 σ H1) : tSeq (tIfS t tu tNext) tz D1 σ H := s_no (D1 := { D1 with nx := tz D1 }) h hb k
theorem kitB_bool : kitB "bool" "int" = some true := by decide +kernel
end
/-! ### which data is an integer -/
def isI : D → Bool
  | .int _ => true
  | _ => false
def btw (l m : Int) : D → Bool
  | .int i => decide (l ≤ i) && decide (i ≤ m)
  | _ => false
def noObj : D → Bool
  | .obj _ => false
  | _ => true
theorem noObj_ne {d : D} (h : noObj d = true) : ∀ u, d ≠ .obj u := fun u e => by
  subst e
  cases h
def subI : D → Bool
  | .int _ => true
  | .bl _ => true
  | _ => false
theorem kit_int {d : D} (h : noObj d = true) : kitB (tyD d) "int" = some (subI d) := by
  cases d <;> first | rfl | decide +kernel | cases h
theorem kit_bool {d : D} (h : noObj d = true) : kitB (tyD d) "bool" = some (match d with | .bl _ => true | _ => false) := by
  cases d <;> first | rfl | decide +kernel | cases h
theorem kit_tup {d : D} (h : noObj d = true) : kitB (tyD d) "tuple" = some (match d with | .tup _ => true | _ => false) := by
  cases d <;> first | rfl | decide +kernel | cases h
/-! ### a web -/
def webFs (m t n : V) : List (Str × V) := putF "near" n (putF "ties" t (putF "memories" m []))
theorem mt_ : ¬ (("memories" : Str) = "ties") := by decide +kernel
theorem mn_ : ¬ (("memories" : Str) = "near") := by decide +kernel
theorem tn_ : ¬ (("ties" : Str) = "near") := by decide +kernel
theorem web_m (m t n : V) : (webFs m t n).lookup ("memories" : Str) = some m := by
  unfold webFs
  rw [lookup_putF, if_neg mn_, lookup_putF, if_neg mt_, lookup_putF, if_pos rfl]
theorem web_t (m t n : V) : (webFs m t n).lookup ("ties" : Str) = some t := by
  unfold webFs
  rw [lookup_putF, if_neg tn_, lookup_putF, if_pos rfl]
theorem web_n (m t n : V) : (webFs m t n).lookup ("near" : Str) = some n := by
  unfold webFs
  rw [lookup_putF, if_pos rfl]
structure WTxt (K : PySem.W.Frag) (C : Addr) : Prop where
  cl : Cls K C
  nM : NoAttr K C "memories"
  nT : NoAttr K C "ties"
  nN : NoAttr K C "near"
end W1

set_option maxRecDepth 100000
set_option maxHeartbeats 4000000
namespace W1
open PySem PyProof.Rows L2
abbrev topS (i : Nat) : Stmt := PySem.Challenge.pw_staletags_k02_whole_two_lots_or_an_odd_r.main.body.getD i (.Pass ⟨0, 0, 0, 0⟩)
abbrev s__law_draw : Stmt := topS 24
abbrev N__law_draw : List Str := ["_law_hand_here", "_law_many", "_law_cell", "_law_digit", "_law_number"]
theorem sc__law_draw : FnScope N__law_draw ["_law_hand_here", "_law_many"] (defScope s__law_draw) := ⟨rfl, rfl, rfl, by decide +kernel, rfl, by decide +kernel, by decide +kernel⟩
/-- no built-in that is called is hidden -/
structure Txt (mg : Str → Option Value) : Prop where
  n_len : mg "len" = none
  n_abs : mg "abs" = none
  n_int : mg "int" = none
  n_range : mg "range" = none
  n_tuple : mg "tuple" = none
  n_list : mg "list" = none
  n_sorted : mg "sorted" = none
  n_set : mg "set" = none
  n_enumerate : mg "enumerate" = none
  n_isinstance : mg "isinstance" = none
  n_all : mg "all" = none
  n_max : mg "max" = none
  n_min : mg "min" = none
  n_bool : mg "bool" = none
section
variable {P : Program} {w : World} {K : PySem.W.Frag} {mg : Str → Option Value} {base : Heap}
/-! ### _law_draw -/
def R_draw : List D → Hp → Pd → Prop := fun ds H P => ∃ (h : Addr) (m : Int), ds = [.obj (.ref h), .int m] ∧ Hand H h ∧ 1 ≤ m ∧ m ≤ 1000000 ∧ P = fun d _ => ∃ r : Int, d = .int r ∧ 0 ≤ r ∧ r < m
/-- the frame of a draw: the hand at h, H0 what stood -/
def Dw (H0 : Hp) (h : Addr) (H : Hp) : Prop := Le H0 H ∧ ∃ c cells p x s n, HandAt H h c cells p x s n
theorem ok_draw (T : Txt mg) (g : GDef K mg "_law_draw" s__law_draw ["_law_hand_here", "_law_many"]) : Def P w K mg base 1 "_law_draw" ["_law_hand_here", "_law_many"] (spD K R_draw) := by
  refine defD g sc__law_draw (fun ds H Pd h => ?_) fun cdv A outer s f H vs ds Pd Q E hr r h q => ?_
  · obtain ⟨h, m, rfl, _⟩ := h
    rfl
  obtain ⟨h, m, rfl, ⟨c, cells, p, x, z, n, a⟩, m1, m2, rfl⟩ := h
  obtain ⟨v1, v2, rfl, r1, r2⟩ := rps2 r
  have e1 := rp_obj r1
  have e2 := rp_int r2
  subst e1 e2
  refine ⟨_, (Evl.pss_cut (ps_if (PW.pt (pw_and (pt_cmpR op_eq (pe_ix ix_list (pv 0) pe_int (fun _ _ => rfl)) pe_int (nomark _)) (pw_and1 (pt_cmpR op_lt (pe_ix ix_list (pv 0) pe_int (fun _ _ => rfl)) (pe_callB call_len_seq (by rfl) T.n_len boot_len (pa_cons (pe_ix ix_list (pv 0) pe_int (fun _ _ => rfl)) pa_nil)) (nomark _)))))
      (pss_cons (ps_set (i := 2) sc__law_draw.nd rfl (Or.inl rfl) (pe_ix ix_list (pe_ix ix_list (pv 0) pe_int (fun _ _ => rfl)) (pe_ix ix_list (pv 0) pe_int (fun _ _ => rfl)) (fun _ _ => rfl)))
    (pss_cons (ps_asg (pe_op op_add (pe_ix ix_list (pv 0) pe_int (fun _ _ => rfl)) pe_int) (pg_sub (pv 0) pe_int set_list))
    (pss_cons (ps_asg (pe_op op_mod (pe_callTy call_int1 (by rfl) T.n_int boot_int (pa_cons (pe_op op_add (pe_op op_add (pe_op op_mul (pe_ix ix_list (pv 0) pe_int (fun _ _ => rfl)) pe_int) (pv 2)) pe_int) pa_nil)) pe_int) (pg_sub (pv 0) pe_int set_list))
    (pss_one (ps_if (pt_cmpR op_ge (pv 2) (pe_op op_pow pe_int pe_int) (nomark _))
      (pss_one (ps_asg (pv 2) (pg_sub (pv 0) pe_int set_list)))
      pss_nil)))))
      pss_nil)
    (pss_cons (ps_if (pt_cmpR op_gt (pe_ix ix_list (pv 0) pe_int (fun _ _ => rfl)) pe_int (nomark _))
      (pss_cons (ps_set (i := 3) sc__law_draw.nd rfl (Or.inl rfl) (pe_op op_modN (pe_callTy call_int1 (by rfl) T.n_int boot_int (pa_cons (pe_ix ix_list (pv 0) pe_int (fun _ _ => rfl)) pa_nil)) (pv 1)))
    (pss_cons (ps_asg (pe_op op_fdivN (pe_ix ix_list (pv 0) pe_int (fun _ _ => rfl)) (pv 1)) (pg_sub (pv 0) pe_int set_list))
    (pss_one (ps_ret (pv 3)))))
      pss_nil)
    (pss_cons (ps_asg (pe_op op_add (pe_ix ix_list (pv 0) pe_int (fun _ _ => rfl)) pe_int) (pg_sub (pv 0) pe_int set_list))
    (pss_cons (ps_set (i := 4) sc__law_draw.nd rfl (Or.inl rfl) (pe_op op_mod (pe_callTy call_int1 (by rfl) T.n_int boot_int (pa_cons (pe_op op_mul (pe_callTy call_int1 (by rfl) T.n_int boot_int (pa_cons (pe_op op_add (pe_ix ix_list (pv 0) pe_int (fun _ _ => rfl)) (pe_op op_mul pe_int (pe_ix ix_list (pv 0) pe_int (fun _ _ => rfl)))) pa_nil)) pe_int) pa_nil)) pe_int))
    (pss_cons (ps_set (i := 4) sc__law_draw.nd rfl (Or.inl rfl) (pe_op op_mod (pe_callTy call_int1 (by rfl) T.n_int boot_int (pa_cons (pe_op op_mul (pv 4) (pe_op op_add (pe_op op_fdiv (pv 4) pe_int) pe_int)) pa_nil)) pe_int))
    (pss_cons (ps_set (i := 4) sc__law_draw.nd rfl (Or.inl rfl) (pe_op op_mod (pe_callTy call_int1 (by rfl) T.n_int boot_int (pa_cons (pe_op op_mul (pv 4) (pe_op op_add (pe_op op_fdiv (pv 4) pe_int) pe_int)) pa_nil)) pe_int))
    (pss_one (ps_ret (pe_op op_modN (pe_callTy call_int1 (by rfl) T.n_int boot_int (pa_cons (pe_op op_fdiv (pv 4) pe_int) pa_nil)) (pv 1)))))))))), ?_⟩
  -- between the first if and the rest
  refine ⟨fun σ H' => (∃ y : Option V, σ = [some (.ref h), some (.int m), y, none, none]) ∧ Dw H h H', ?_, ?_⟩
  · refine ⟨_, rfl, h, _, 2, .int x, rfl, rfl, SqL.of a.hand, atI_nat (j := 2) rfl, rfl, _, rfl, ?_⟩
    refine ite2 (fun c1 => ?_) (fun c1 => ?_)
    · refine ⟨_, rfl, h, _, 1, .int p, rfl, rfl, SqL.of a.hand, atI_nat (j := 1) rfl, _, rfl, h, _, 0, .ref c, rfl, rfl, SqL.of a.hand, atI_nat (j := 0) rfl, c, _, rfl, .inl (SqL.of a.cell), p, _, rfl, rfl, _, rfl, ?_⟩
      refine ite2 (fun c2 => ?_) (fun c2 => ?_)
      · have hp : p.toNat < cells.length := by
          have c3 := of_decide_eq_true c2
          rw [List.length_map] at c3
          have := a.p0
          omega
        obtain ⟨y, hy⟩ : ∃ y, cells[p.toNat]? = some y := ⟨cells[p.toNat], List.getElem?_eq_getElem hp⟩
        have hy0 : 0 ≤ y := a.pos y (List.mem_of_getElem? hy)
        have ep : p = ((p.toNat : Nat) : Int) := by have := a.p0; omega
        have hyV : atI (cells.map V.int) p = some (.int y) := by
          rw [ep]
          exact atI_nat (by rw [List.getElem?_map, hy]; rfl)
        -- cell = hand[0][hand[1]]
        refine ⟨_, rfl, h, _, 0, .ref c, rfl, rfl, SqL.of a.hand, atI_nat (j := 0) rfl, _, rfl, h, _, 1, .int p, rfl, rfl, SqL.of a.hand, atI_nat (j := 1) rfl, c, _, p, .int y, rfl, rfl, SqL.of a.cell, hyV, ?_⟩
        -- hand[1] = hand[1] + 1
        refine ⟨_, rfl, h, _, 1, .int p, rfl, rfl, SqL.of a.hand, atI_nat (j := 1) rfl, p, 1, rfl, rfl, _, rfl, h, _, 1, 1, rfl, rfl, a.hand, rfl, ?_⟩
        obtain ⟨a1, l1⟩ := a.put (p2 := p + 1) (x2 := x) (s2 := z) (n2 := n) (by have := a.p0; omega) a.x0
        -- hand[3] = int(hand[3] * 69621 + cell + 11) % 2147483629
        refine ⟨_, rfl, h, _, 3, .int z, rfl, rfl, SqL.of a1.hand, atI_nat (j := 3) rfl, z, 69621, rfl, rfl, .inr ⟨by decide, by decide⟩, _, rfl, _, y, rfl, rfl, _, 11, rfl, rfl, .inl ⟨_, rfl, _, 2147483629, rfl, rfl, (by show (0 : Int) < 2147483629; decide), _, rfl, h, _, 3, 3, rfl, rfl, a1.hand, rfl, ?_⟩⟩
        obtain ⟨a2, l2⟩ := a1.put (p2 := p + 1) (x2 := x) (s2 := (z * 69621 + y + 11) % 2147483629) (n2 := n) (by have := a.p0; omega) a.x0
        -- if cell >= 10 ** 18: hand[2] = cell
        refine ⟨_, rfl, 10, 18, rfl, rfl, ⟨by decide, by decide, by decide⟩, y, _, rfl, rfl, _, rfl, ?_⟩
        refine ite2 (fun c3 => ?_) (fun c3 => ?_)
        · refine ⟨_, rfl, _, rfl, h, _, 2, 2, rfl, rfl, a2.hand, rfl, ?_⟩
          obtain ⟨a3, l3⟩ := a2.put (p2 := p + 1) (x2 := y) (s2 := (z * 69621 + y + 11) % 2147483629) (n2 := n) (by have := a.p0; omega) hy0
          exact ⟨⟨_, rfl⟩, (l1.trans l2).trans l3, c, cells, _, _, _, _, a3⟩
        · exact ⟨⟨_, rfl⟩, l1.trans l2, c, cells, _, _, _, _, a2⟩
      · exact ⟨⟨none, rfl⟩, Le.refl _, c, cells, _, _, _, _, a⟩
    · exact ⟨⟨none, rfl⟩, Le.refl _, c, cells, _, _, _, _, a⟩
  · clear a
    rintro σ H1 ⟨⟨y, rfl⟩, l0, c, cells, p, x, z, n, a⟩
    -- if hand[2] > 0
    refine ⟨_, rfl, h, _, 2, .int x, rfl, rfl, SqL.of a.hand, atI_nat (j := 2) rfl, x, 0, rfl, rfl, _, rfl, ?_⟩
    refine ite2 (fun c1 => ?_) (fun c1 => ?_)
    · have hx0 : (0 : Int) < x := of_decide_eq_true c1
      refine ⟨_, rfl, h, _, 2, .int x, rfl, rfl, SqL.of a.hand, atI_nat (j := 2) rfl, .inl ⟨x, rfl, _, rfl, x, m, rfl, rfl, by omega, ?_⟩⟩
      refine ⟨_, rfl, h, _, 2, .int x, rfl, rfl, SqL.of a.hand, atI_nat (j := 2) rfl, _, rfl, x, m, rfl, rfl, ⟨by omega, by omega⟩, _, rfl, h, _, 2, 2, rfl, rfl, a.hand, rfl, ?_⟩
      obtain ⟨a1, l1⟩ := a.put (p2 := p) (x2 := x.fdiv m) (s2 := z) (n2 := n) a.p0 (by
        rw [Int.fdiv_eq_ediv_of_nonneg _ (by omega)]
        exact Int.ediv_nonneg (by omega) (by omega))
      refine ⟨_, rfl, ?_⟩
      refine q _ (.int (x.fmod m)) _ (l0.trans l1) ⟨_, rfl, ?_⟩ (.int _)
      rw [Int.fmod_eq_emod_of_nonneg _ (by omega)]
      exact ⟨Int.emod_nonneg _ (by omega), Int.emod_lt_of_pos _ (by omega)⟩
    · -- hand[4] = hand[4] + 1
      refine ⟨_, rfl, h, _, 4, .int n, rfl, rfl, SqL.of a.hand, atI_nat (j := 4) rfl, n, 1, rfl, rfl, _, rfl, h, _, 4, 4, rfl, rfl, a.hand, rfl, ?_⟩
      obtain ⟨a1, l1⟩ := a.put (p2 := p) (x2 := x) (s2 := z) (n2 := n + 1) a.p0 a.x0
      -- number = int(int(hand[3] + 7919 * hand[4]) * 48271) % 2147483647
      refine ⟨_, rfl, h, _, 3, .int z, rfl, rfl, SqL.of a1.hand, atI_nat (j := 3) rfl, _, rfl, h, _, 4, .int (n + 1), rfl, rfl, SqL.of a1.hand, atI_nat (j := 4) rfl, 7919, n + 1, rfl, rfl, .inl ⟨by decide, by decide⟩, z, _, rfl, rfl, .inl ⟨_, rfl, _, 48271, rfl, rfl, .inr ⟨by decide, by decide⟩, .inl ⟨_, rfl, _, 2147483647, rfl, rfl, (by show (0 : Int) < 2147483647; decide), ?_⟩⟩⟩
      obtain ⟨u, eu⟩ : ∃ u : Int, u = (z + 7919 * (n + 1)) * 48271 % 2147483647 := ⟨_, rfl⟩
      have hu : 0 ≤ u ∧ u < 2147483647 := by omega
      have ev : ((fun i j => V.int (i % j)) ((z + 7919 * (n + 1)) * 48271) 2147483647 : V) = V.int u := by rw [eu]
      rw [ev]
      refine ⟨_, rfl, _, rfl, u, 1009, rfl, rfl, ⟨by decide, by decide⟩, _, 69621, rfl, rfl, u, _, rfl, rfl, .inl ⟨by omega, by omega⟩, .inl ⟨_, rfl, _, 2147483647, rfl, rfl, (by show (0 : Int) < 2147483647; decide), ?_⟩⟩
      obtain ⟨u2, eu2⟩ : ∃ u2 : Int, u2 = u * (u / 1009 + 69621) % 2147483647 := ⟨_, rfl⟩
      have hu2 : 0 ≤ u2 ∧ u2 < 2147483647 := by
        rw [eu2]
        exact ⟨Int.emod_nonneg _ (by decide), Int.emod_lt_of_pos _ (by decide)⟩
      have ev2 : ((fun i j => V.int (i % j)) (u * (u / 1009 + 69621)) 2147483647 : V) = V.int u2 := by rw [eu2]
      rw [ev2]
      refine ⟨_, rfl, _, rfl, u2, 2003, rfl, rfl, ⟨by decide, by decide⟩, _, 40692, rfl, rfl, u2, _, rfl, rfl, .inl ⟨by omega, by omega⟩, .inl ⟨_, rfl, _, 2147483399, rfl, rfl, (by show (0 : Int) < 2147483399; decide), ?_⟩⟩
      obtain ⟨u3, eu3⟩ : ∃ u3 : Int, u3 = u2 * (u2 / 2003 + 40692) % 2147483399 := ⟨_, rfl⟩
      have ev3 : ((fun i j => V.int (i % j)) (u2 * (u2 / 2003 + 40692)) 2147483399 : V) = V.int u3 := by rw [eu3]
      rw [ev3]
      refine ⟨_, rfl, u3, 16, rfl, rfl, ⟨by decide, by decide⟩, .inl ⟨_, rfl, _, rfl, _, m, rfl, rfl, by omega, ?_⟩⟩
      refine q _ (.int ((u3 / 16).fmod m)) _ (l0.trans l1) ⟨_, rfl, ?_⟩ (.int _)
      rw [Int.fmod_eq_emod_of_nonneg _ (by omega)]
      exact ⟨Int.emod_nonneg _ (by omega), Int.emod_lt_of_pos _ (by omega)⟩
end
end W1

set_option maxRecDepth 100000
set_option maxHeartbeats 4000000
namespace W1
open PySem PyProof.Rows L2
local macro_rules | `(tactic| walk_at "rp") => `(tactic| first | assumption | exact Rp.int _ | exact Rp.bl _ | exact Rp.str _ | exact Rp.non | exact Rp.obj _ | (refine Rp.le (by assumption) ?_; walk_at "rp"))
local macro_rules | `(tactic| walk_at "ed") => `(tactic| first
  | exact ed_int | exact ed_str | exact ed_bl | exact ed_non
  | (refine ed_var rfl ?_; walk_at "rp")
  | (refine ed_ixT (ds := [_, _]) ?_ ed_int (by decide) rfl; walk_at "ed")
  | (refine ed_I0 ?_ ?_ <;> walk_at "ed")
  | (refine ed_B0 ?_ ?_ <;> walk_at "ed")
  | (refine ed_eqS ?_ ?_ rfl rfl rfl <;> walk_at "ed")
  | assumption)
local macro_rules | `(tactic| walk_at "ea") => `(tactic| first | exact ea_nil | (refine ea_cons ?_ ?_; walk_at "ed"; walk_at "ea"))

abbrev s__law_hand : Stmt := topS 23
abbrev N__law_hand : List Str := ["_law_script", "_law_cells", "_law_cell"]
theorem sc__law_hand : FnScope N__law_hand ["_law_script"] (defScope s__law_hand) := ⟨rfl, rfl, rfl, by decide +kernel, rfl, by decide +kernel, by decide +kernel⟩
abbrev s__law_any : Stmt := topS 25
abbrev N__law_any : List Str := ["_law_hand_here", "_law_items"]
theorem sc__law_any : FnScope N__law_any ["_law_hand_here", "_law_items"] (defScope s__law_any) := ⟨rfl, rfl, rfl, by decide +kernel, rfl, by decide +kernel, by decide +kernel⟩
section
variable {P : Program} {w : World} {K : PySem.W.Frag} {mg : Str → Option Value} {base : Heap}
/-! ### _law_hand -/
theorem Le.sqlI {H H' : Hp} {a : Addr} {ns : List Int} (e : Le H H') (h : SqL K H a (ns.map V.int)) : SqL K H' a (ns.map V.int) := by
  rcases h with (h | ⟨o, h⟩) | h
  · exact .inl (.inl (e.lst h (notH_ints _)))
  · exact .inl (.inr ⟨o, e.frz h⟩)
  · exact .inr h
theorem ed_slS {σ : L2.St} {H : Hp} {i : Nat} {a : Addr} {ns : List Int} {m : Int} (h : σ[i]? = some (some (.ref a))) (hs : SqL K H a (ns.map V.int)) : ED K (tSl (rSlL K) (tVar i) tNoPart (tPart (tC (.int m)))) σ H (.lst ((cutG ns none (some m)).map .int)) := fun H1 e Q q => by
  have ec : cutV (ns.map V.int) none (some m) = (cutG ns none (some m)).map V.int := by
    unfold cutV cutG
    rw [List.length_map, List.map_take, List.map_drop]
  refine ⟨_, h, m, rfl, a, _, rfl, e.sqlI hs, fun p np => ?_⟩
  rw [ec]
  exact q _ _ _ (Le.new np) rfl (.lst upd_same (notH_ints _) (rps_ints _))
def R_hand (K : PySem.W.Frag) : List D → Hp → Pd → Prop := fun ds H P => ∃ (a : Addr) (ns : List Int), ds = [.obj (.ref a)] ∧ SqL K H a (ns.map V.int) ∧ ns.length ≤ 63 ∧ P = fun d H2 => ∃ h, d = .obj (.ref h) ∧ Hand H2 h
theorem ok_hand (T : Txt mg) (g : GDef K mg "_law_hand" s__law_hand ["_law_script"]) : Def P w K mg base 1 "_law_hand" ["_law_script"] (spD K (R_hand K)) := by
  refine defD g sc__law_hand (fun ds H Pd h => ?_) fun cdv A outer s f H vs ds Pd Q E hr r h q => ?_
  · obtain ⟨a, ns, rfl, _⟩ := h
    rfl
  obtain ⟨a, ns, rfl, hS, hl, rfl⟩ := h
  obtain ⟨v1, rfl, r1⟩ := rps1 r
  have e1 := rp_obj r1
  subst e1
  refine ⟨_, (pss_cons (ps_setLc (i := 1) (own := [("_law_cell", 2)]) rfl sc__law_hand.nd rfl rfl (sw_true rfl rfl rfl (by decide +kernel)) (kpi_list (K := K) (pe_slice (ksl_list (K := K)) (pv 0) po_none (po_some pe_int))) (blkOk_by (N := N__law_hand) (sc := defScope s__law_hand) (by decide +kernel)) (fun _ _ _ _ _ => (pg_name (i := 2) sc__law_hand.nd rfl (Or.inl rfl))) (fun _ _ _ _ _ => pts_nil) (fun _ _ _ _ _ => (pe_callB call_abs (by rfl) T.n_abs boot_abs (pa_cons (pe_callTy call_int1 (by rfl) T.n_int boot_int (pa_cons (pv 2) pa_nil)) pa_nil))))
    (pss_one (ps_ret (pe_lst (pa_cons (pv 1) (pa_cons pe_int (pa_cons pe_int (pa_cons (pe_op op_add pe_int (pe_callB (kc_len (K := K)) (by rfl) T.n_len boot_len (pa_cons (pv 1) pa_nil))) (pa_cons pe_int pa_nil))))))))), ?_⟩
  refine q_asgD (ed_lcL enc_int (encS := .int) (cutG ns none (some 63)) (fun _ => true) (fun z => if z < 0 then -z else z) (ed_slS rfl hS) ?_ (fun _ => rfl) (fun b v H1 e _ r => et_yes) (fun b v H1 e _ r _ => ed_abs (ed_int1 (ed_var rfl r)))) fun v H1 e1 r1 => ?_
  · rw [cutG_hi _ _ (by decide)]
    exact Nat.le_trans (List.length_take_le' _ _) (by omega)
  rw [List.filter_eq_self.mpr (fun _ _ => rfl)] at r1
  generalize hz : (cutG ns none (some 63)).map (fun z => if z < 0 then -z else z) = zs at r1
  obtain ⟨c, xs, rfl, hc, nh, rr⟩ := rp_lst r1
  have ex := ints_rps rr
  subst ex
  refine s_ret (P := fun d H2 => ∃ h, d = .obj (.ref h) ∧ Hand H2 h) ?_ fun v d H2 e2 p r2 => q v d H2 (e1.trans e2) p r2
  intro H2 e2 Q' q'
  have hc2 := e2.lst hc (notH_ints _)
  refine ⟨_, rfl, _, rfl, c, _, rfl, .inl (SqL.of hc2), _, _, rfl, rfl, (by show 5 ≤ sizeLine; decide), fun p np => ?_⟩
  have hcp : c ≠ p := ne_of_none hc2 np
  refine q' _ (.obj (.ref p)) _ (Le.new np) ⟨p, rfl, c, zs, 0, 0, _, 0, upd_same, by rw [upd_ne hcp]; exact hc2, by decide, by decide, fun z hz2 => ?_⟩ (.obj _)
  rw [← hz] at hz2
  obtain ⟨y, _, rfl⟩ := List.mem_map.mp hz2
  by_cases hy : y < 0
  · rw [if_pos hy]; omega
  · rw [if_neg hy]; omega
/-! ### _law_any -/
def R_any : List D → Hp → Pd → Prop := fun ds H P => ∃ (h : Addr) (xs : List D), ds = [.obj (.ref h), .lst xs] ∧ Hand H h ∧ xs ≠ [] ∧ xs.length ≤ 100000 ∧ P = fun d _ => d ∈ xs
theorem ep_draw {σ : L2.St} {H : Hp} {E : XK} {h : Addr} {m : Int} {ta : TA} (hh : Hand H h) (ha : EDA K ta σ H [.obj (.ref h), .int m]) (h1 : 1 ≤ m ∧ m ≤ 1000000) : EP K (tCall (spD K R_draw) [] E ta) σ H (fun d _ => ∃ r : Int, d = .int r ∧ 0 ≤ r ∧ r < m) :=
  ed_call ha fun H2 e => ⟨h, m, rfl, hh.le e, h1.1, h1.2, rfl⟩
theorem ok_any (T : Txt mg) (g : GDef K mg "_law_any" s__law_any ["_law_hand_here", "_law_items"]) (G_law_draw : Def P w K mg base 1 "_law_draw" ["_law_hand_here", "_law_many"] (spD K R_draw)) :
    Def P w K mg base 2 "_law_any" ["_law_hand_here", "_law_items"] (spD K R_any) := by
  refine defD g sc__law_any (fun ds H Pd h => ?_) fun cdv A outer s f H vs ds Pd Q E hr r h q => ?_
  · obtain ⟨h, xs, rfl, _⟩ := h
    rfl
  obtain ⟨h, xs, rfl, hh, hne, hl, rfl⟩ := h
  obtain ⟨v1, v2, rfl, r1, r2⟩ := rps2 r
  refine ⟨_, (pss_one (ps_ret (pe_ix (kix_list (K := K)) (pv 1) (pe_def G_law_draw (hr.mono (by decide)) (pa_cons (pv 0) (pa_cons (pe_callB (kc_len (K := K)) (by rfl) T.n_len boot_len (pa_cons (pv 1) pa_nil)) pa_nil))) (fun _ _ => rfl)))), ?_⟩
  have hlen : 1 ≤ (xs.length : Int) ∧ (xs.length : Int) ≤ 1000000 := by
    have : xs.length ≠ 0 := fun e => hne (List.eq_nil_of_length_eq_zero e)
    omega
  refine s_ret (P := fun d _ => d ∈ xs) ?_ q
  refine ep_op (P1 := is (.lst xs)) (P2 := fun d _ => ∃ r : Int, d = .int r ∧ 0 ≤ r ∧ r < xs.length) (ed_var rfl r2) ?_ ?_
  · exact ep_draw hh (ea_cons (ed_var rfl r1) (ea_cons (ed_lenL (ed_var rfl r2)) ea_nil)) hlen
  · rintro x y d1 d2 H1 H2 _ _ rfl ⟨i, rfl, h0, h1⟩ q1 q2 Q' q'
    obtain ⟨a, us, rfl, s, nh, rr⟩ := rp_lst q1
    have hi : xs[i.toNat]? = some xs[i.toNat] := List.getElem?_eq_getElem (by omega)
    obtain ⟨v, h3, h4⟩ := atI_rps rr h0 hi
    exact ⟨a, us, i, v, rfl, rp_int q2, SqL.of s, h3, q' v _ H2 (Le.refl _) (List.getElem_mem _) h4⟩
end
end W1

set_option maxRecDepth 100000
set_option maxHeartbeats 4000000
/-! own rules: zip of a tuple and a list; a tuple from behind -/
namespace L2
open PySem PySem.Spec PyProof.Rows
/-- the tuple at a and the list at b side by side, the items of each turn in a new pair -/
def IzTL (K : PySem.W.Frag) (a b : Addr) : It where
  go := fun i H => ∃ (xs ys : List V) (x y : V), SqT K H a xs ∧ SqL K H b ys ∧ xs[i]? = some x ∧ ys[i]? = some y
  yld := fun i H v H' => ∃ T x y, v = .ref T ∧ H T = none ∧ H' = upd H T (.tup [x, y]) ∧ (∀ xs, SqT K H a xs → xs[i]? = some x) ∧ ∀ ys, SqL K H b ys → ys[i]? = some y
  stop := fun i H => ∃ xs ys : List V, SqT K H a xs ∧ SqL K H b ys ∧ (xs.length ≤ i ∨ ys.length ≤ i) ∧ i ≤ xs.length ∧ i ≤ ys.length
theorem sqt_inj {X : Cx} {pins : List (Addr × Obj)} {σ : L2.St} {H : Hp} {s : Shared} {a : Addr} {xs ys : List V} (I : Inv X pins σ H s) (h1 : SqT X.K H a xs) (h2 : SqT X.K H a ys) : xs = ys := I.tuple_inj h1 h2
theorem turn_zTL {P : Program} {w : World} {K : PySem.W.Frag} {elts : List Expr} {kk : Nat} {tp : Pos} {a b z TI TO i1 i2 : Addr} (S : ZipSep2 z TI TO i1 i2 [i1, a] [i2, b]) (ha : a ≠ i1) (hb : b ≠ i2) :
    Turn P w K (.Tuple elts kk tp) (IzTL K a b) [z, TI, TO, i1, i2] z (fun i h => IsZip h z TI TO .none ∧ IsTupOf2 h TI (.ref i1) (.ref i2) ∧ (∃ x y, IsTupOf2 h TO x y) ∧ h.IsTupleIter i1 a i ∧ h.IsListIter i2 b i) := by
  refine ⟨by simp, ?_, ?_, ?_, ?_, ?_⟩
  · rintro i h ⟨g1, g2, ⟨x, y, g3⟩, ⟨o4, g4, _, k4⟩, ⟨o5, g5, _, k5⟩⟩ c hc
    simp only [List.mem_cons, List.not_mem_nil, or_false] at hc
    rcases hc with rfl | rfl | rfl | rfl | rfl
    · exact ⟨_, g1, fun v q => nomatch q⟩
    · exact ⟨_, g2, fun v q => nomatch q⟩
    · exact ⟨_, g3, fun v q => nomatch q⟩
    · exact ⟨o4, g4, fun v q => by rw [k4] at q; cases q⟩
    · exact ⟨o5, g5, fun v q => by rw [k5] at q; cases q⟩
  · rintro i h h' ⟨g1, g2, ⟨x, y, g3⟩, g4, g5⟩ k
    exact ⟨k _ (by simp) _ g1, k _ (by simp) _ g2, ⟨x, y, k _ (by simp) _ g3⟩, g4.at fun o q => k _ (by simp) o q, g5.at fun o q => k _ (by simp) o q⟩
  · intro X hP hw hK hc i pins s σ H E I hf st hg
    subst hP hw hK
    obtain ⟨g1, g2, ⟨x0, y0, g3⟩, g4, g5⟩ := st
    obtain ⟨xs, ys, x, y, hqx, hqy, hx, hy⟩ := hg
    obtain ⟨its, rv, pt, _⟩ := I.tuple hqx
    obtain ⟨jts, rw', pl, _⟩ := I.list hqy
    have hzl : z < s.heap.objs.size := Heap.lt_size g1
    have hn : X.A.in1.handled = none := by
      have h0 := I.ok.hd hc
      simpa using h0
    have in1 : i < its.toArray.size := by
      have h2 := (List.getElem?_eq_some_iff.mp hx).1
      have h3 := rv.length
      simpa [← h3] using h2
    have in2 : i < jts.toArray.size := by
      have h2 := (List.getElem?_eq_some_iff.mp hy).1
      have h3 := rw'.length
      simpa [← h3] using h2
    refine wpAny_pyNext_zipD2_item S (Draws.tuple hn i1 a ha its.toArray) (Draws.list hn i2 b hb jts.toArray) g1 g2 g3 ⟨g4, isTup_isTuple pt⟩ ⟨g5, pl.isList⟩ in1 in2 fun u1 u2 h' tk hu1 hu2 z' TO' s1' s2' hT hsz hk => ?_
    refine ⟨_, rfl, wpAny_letOwnedTupleGo_zip (s := { s with heap := h', toks := tk }) z' fun h2 z2 sb => ?_⟩
    have hT2 : h2.get? s.heap.objs.size = some { cls := .type "tuple", data := .seq #[u1, u2] } := (sb.2 _ (Nat.ne_of_gt hzl)).trans hT
    obtain ⟨w1, hw1, ru1⟩ := rv.get hx
    obtain ⟨w2, hw2, ru2⟩ := rw'.get hy
    have e1 : u1 = w1 := by
      have h3 : its.toArray[i]? = some w1 := by simpa using hw1
      exact Option.some.inj (hu1.symm.trans h3)
    have e2 : u2 = w2 := by
      have h3 : jts.toArray[i]? = some w2 := by simpa using hw2
      exact Option.some.inj (hu2.symm.trans h3)
    subst e1 e2
    have nw : ObjOk X.prog X.w (upd H s.heap.objs.size (.tup [x, y])) h2 s.heap.objs.size (.tup [x, y]) := by
      refine ⟨?_, [u1, u2], .cons ru1 (.cons ru2 .nil), ?_⟩
      · show 2 ≤ sizeLine
        decide
      · exact ⟨_, hT2, rfl, _, rfl⟩
    have nz : ∀ c, c ∉ [z, TI, TO, i1, i2] → c ≠ z ∧ c ≠ TO ∧ c ≠ i1 ∧ c ≠ i2 := fun c hc => ⟨fun q => hc (by simp [q]), fun q => hc (by simp [q]), fun q => hc (by simp [q]), fun q => hc (by simp [q])⟩
    have I1 : Inv X pins σ (upd H s.heap.objs.size (.tup [x, y])) { s with heap := h2, toks := tk } := by
      refine I.turnedNew (ch := [z, TI, TO, i1, i2]) (fun c o hb q => ?_) hf (Nat.le_refl _) nw
      obtain ⟨n1, n2, n3, n4⟩ := nz c hb
      exact (sb.2 c n1).trans (hk c o n1 n2 n3 n4 q)
    refine ⟨.ref s.heap.objs.size, _, I1, rfl, ⟨_, x, y, rfl, I.hok.fresh (Nat.le_refl _), rfl, fun l hl => ?_, fun l hl => ?_⟩, ⟨z2, ?_, ⟨u1, u2, ?_⟩, ?_, ?_⟩, fun c hcm => ?_⟩
    · rw [sqt_inj I hl hqx]
      exact hx
    · rw [I.list_inj hl hqy]
      exact hy
    · exact (sb.2 _ S.TIz).trans (hk _ _ S.TIz S.TITO S.TIi1 S.TIi2 g2)
    · exact (sb.2 _ S.TOz).trans TO'
    · exact s1'.1.at fun o q => (sb.2 i1 (Ne.symm S.zi1)).trans q
    · exact s2'.1.at fun o q => (sb.2 i2 (Ne.symm S.zi2)).trans q
    · have hlt : c < s.heap.objs.size := by
        simp only [List.mem_cons, List.not_mem_nil, or_false] at hcm
        obtain ⟨o4, q4, _⟩ := g4
        obtain ⟨o5, q5, _⟩ := g5
        rcases hcm with rfl | rfl | rfl | rfl | rfl
        · exact hzl
        · exact Heap.lt_size g2
        · exact Heap.lt_size g3
        · exact Heap.lt_size q4
        · exact Heap.lt_size q5
      rw [upd_ne (Nat.ne_of_lt hlt)]
      exact (hf c hcm).1
  · intro X hP hw hK hc i pins s σ H E I hf st hg
    subst hP hw hK
    obtain ⟨g1, g2, ⟨x0, y0, g3⟩, g4, g5⟩ := st
    obtain ⟨xs, ys, hqx, hqy, hend, l1, l2⟩ := hg
    obtain ⟨its, rv, pt, _⟩ := I.tuple hqx
    obtain ⟨jts, rw', pl, _⟩ := I.list hqy
    have hn : X.A.in1.handled = none := by
      have h0 := I.ok.hd hc
      simpa using h0
    have e1 : its.toArray.size = xs.length := by simp [← rv.length]
    have e2 : jts.toArray.size = ys.length := by simp [← rw'.length]
    refine wpAny_pyNext_zipD2_end S (Draws.tuple hn i1 a ha its.toArray) (Draws.list hn i2 b hb jts.toArray) g1 g2 g3 ⟨g4, isTup_isTuple pt⟩ ⟨g5, pl.isList⟩ (by omega) (by omega) (by omega) fun h' tk hk => ⟨rfl, ?_⟩
    exact I.turnedL (t' := tk) (ch := [z, TI, TO, i1, i2]) (fun c o hb q => hk c o (fun e => hb (by simp [e])) (fun e => hb (by simp [e])) (fun e => hb (by simp [e])) (fun e => hb (by simp [e])) q) hf
  · rintro A i s Q E ⟨g1, _⟩ h
    exact wpAny_pyIter_zip g1 h
def iZTL (K : PySem.W.Frag) (ta : TA) : TI := fun σ H R => ta σ H fun vs H1 => ∃ a b xs ys, vs = [.ref a, .ref b] ∧ SqT K H1 a xs ∧ SqL K H1 b ys ∧ R (IzTL K a b) H1
theorem pi_zTL {X : Cx} {e e2 : Expr} {ta : TA} {p pos tp : Pos} {elts : List Expr} {kk : Nat} (hg : Gl X "zip") (hm : X.mg "zip" = none) (ha : PA X [e, e2] ta)
    (hs : starEach [e, e2] X.env = (false, eval e X.env) :: starEach [e2] X.env := by rfl) (hpl : (backTo pos (starEach [e2] X.env)).any (·.1) = false := by rfl) :
    PI X (.Tuple elts kk tp) (.Call (.Name "zip" p) [e, e2] [] pos) (iZTL X.K ta) := by
  constructor
  intro pins s σ H R I h
  refine Call_ (ld_blt I hg hm boot_zip ?_)
  refine PyProof.Rows.callWith_type1 (thn (ha.run pos pins s σ H _ I h) fun us s1 hh => ?_) hs hpl
  obtain ⟨vs, H1, I1, r1, a, b, xs, ys, rfl, hqx, hqy, q⟩ := hh
  cases r1 with
  | cons r rr =>
    cases rr with
    | cons r' rr =>
      cases rr
      cases r
      cases r'
      obtain ⟨its, rv, pt, _⟩ := I1.tuple hqx
      obtain ⟨jts, rw', pl, _⟩ := I1.list hqy
      have la : a < s1.heap.objs.size := by
        obtain ⟨o, ho, _⟩ := pt
        exact Heap.lt_size ho
      have lb : b < s1.heap.objs.size := pl.lt
      refine zip_begins2 (begins_tuple a its.toArray) (begins_list b jts.toArray) (isTup_isTuple pt) pl.isList fun h' y1 y2 y3 y4 y5 y6 hk => ?_
      refine wpAny_pyIter_zip y1 ?_
      have I2 : Inv X pins σ H1 { s1 with heap := h' } := I1.kept (t' := s1.toks) hk
      have S : ZipSep2 (s1.heap.objs.size + 4) (s1.heap.objs.size + 2) (s1.heap.objs.size + 3) s1.heap.objs.size (s1.heap.objs.size + 1) [s1.heap.objs.size, a] [s1.heap.objs.size + 1, b] := zip_sep2 (fp1 := [a]) (fp2 := [b]) (fun c hc => by rw [List.mem_singleton.mp hc]; exact la) (fun c hc => by rw [List.mem_singleton.mp hc]; exact lb)
      refine ⟨s1.heap.objs.size + 4, [s1.heap.objs.size + 4, s1.heap.objs.size + 2, s1.heap.objs.size + 3, s1.heap.objs.size, s1.heap.objs.size + 1], _, _, H1, rfl, I2, turn_zTL S (Nat.ne_of_lt la) (Nat.ne_of_lt (Nat.lt_succ_of_lt lb)), ⟨y1, y2, ⟨_, _, y3⟩, ⟨_, y4, rfl, rfl⟩, ⟨_, y5, rfl, rfl⟩⟩, fun c hc => ?_, q⟩
      have hle : s1.heap.objs.size ≤ c := by
        simp only [List.mem_cons, List.not_mem_nil, or_false] at hc
        rcases hc with rfl | rfl | rfl | rfl | rfl <;> first | exact Nat.le_refl _ | exact Nat.le_add_right _ _
      exact I1.fpOk hle (I1.hok.fresh hle)
theorem walk_zTL {K : PySem.W.Frag} {a b : Addr} {xs ys : List V} (hl : xs.length = ys.length) : Walk (IzTL K a b) xs.length (fun H => SqT K H a xs ∧ SqL K H b ys) (YPair (fun i => xs[i]?) (fun i => ys[i]?)) := by
  constructor
  · intro i H hi q
    have h2 : i < ys.length := by omega
    exact ⟨xs, ys, xs[i], ys[i], q.1, q.2, by simp [hi], by simp [h2]⟩
  · intro H q
    exact ⟨xs, ys, q.1, q.2, .inl (Nat.le_refl _), Nat.le_refl _, by omega⟩
  · rintro i H v H' _ q ⟨T, x, y, h1, h2, h3, h4, h5⟩
    exact ⟨T, x, y, h1, h2, h3, h4 xs q.1, h5 ys q.2⟩

/-! ### a tuple from behind -/
section
variable {P : Program} {w : World} {A : Around} {E : Value → Shared → Prop} {s : Shared}
theorem back_adjust (n : Nat) : Builtin.Slice.sliceAdjust none none (-1) (n : Int) = ((n : Int) - 1, -1) := by
  unfold Builtin.Slice.sliceAdjust
  rfl
theorem back_places (n : Nat) : Builtin.Slice.slicePlaces ((n : Int) - 1) (-1) (-1) = n := by
  unfold Builtin.Slice.slicePlaces
  rw [if_neg (by decide)]
  by_cases hn : (n : Int) - 1 > -1
  · rw [if_pos hn]
    have e : -(-1 : Int) = 1 := by decide
    rw [e, Int.ediv_one]
    omega
  · rw [if_neg hn]
    omega
theorem back_items {α : Type} (xs : Array α) : ((List.range xs.size).filterMap fun (m : Nat) => xs[((xs.size : Int) - 1 + (m : Int) * (-1)).toNat]?) = xs.toList.reverse := by
  apply List.ext_getElem?
  intro i
  have h0 : ∀ n, n ≤ xs.size → ((List.range n).filterMap fun (m : Nat) => xs[((xs.size : Int) - 1 + (m : Int) * (-1)).toNat]?) = (xs.toList.reverse).take n := by
    intro n
    induction n with
    | zero => intro _; simp
    | succ n ih =>
      intro hn
      have hi : n < xs.toList.reverse.length := by simp; omega
      rw [List.range_succ, List.filterMap_append, ih (by omega), List.take_add_one, List.getElem?_eq_getElem hi]
      congr 1
      have e : ((xs.size : Int) - 1 + (n : Int) * (-1)).toNat = xs.size - 1 - n := by omega
      have e2 : xs[xs.size - 1 - n]? = some (xs.toList.reverse[n]) := by
        rw [Array.getElem?_eq_getElem (by omega)]
        simp
      show List.filterMap _ [n] = _
      rw [List.filterMap_cons, e, e2]
      rfl
  rw [h0 xs.size (Nat.le_refl _), List.take_of_length_le (by simp)]
theorem tup_back {t c : Addr} {its : Array Value} {v : Value} {Q : Value → Shared → Prop} (qt : IsTup s.heap t its) (qs : s.heap.IsSliceOf c .none .none v) (pv : IsPart v (some (-1))) (hz : its.size ≤ sizeLine)
    (h : Q (.ref s.heap.objs.size) { s with heap := s.heap.push { cls := .type "tuple", data := .seq its.toList.reverse.toArray } }) : wpAny (model P w) A (getItem (.ref t) (.ref c)) Q E s := by
  have zl : sizeOk (.seq its.toList.reverse.toArray) := by
    show its.toList.reverse.toArray.size ≤ sizeLine
    simpa using hz
  obtain ⟨oc, gc, cc, dc⟩ := id qs
  have yc : s.TypeIs (.ref c) "slice" := ⟨oc, gc, cc⟩
  have ac : wpAny (model P w) A.in1 (Builtin.Slice.sliceApplied (.ref c) (pure (its.size : Int))) (fun r s1 => r = ((its.size : Int) - 1, (-1 : Int), its.size) ∧ s1 = s) (fun _ _ => False) s := by
    unfold Builtin.Slice.sliceApplied Builtin.Slice.sliceFields
    refine wpAny_bind (wpAny_bind (wpAny_field gc dc (x := .none) rfl (wpAny_bind (wpAny_field gc dc (x := .none) rfl (wpAny_bind (wpAny_field gc dc (x := v) rfl (wpAny_pure ?_)))))))
    refine wpAny_bind (HT.slicePart_ pv ?_)
    show wpAny _ _ (if ((-1 : Int) == 0) = true then _ else _) _ _ _
    rw [if_neg (by decide)]
    refine wpAny_bind (HT.slicePart_ .none (wpAny_bind (HT.slicePart_ .none (wpAny_bind (wpAny_pure ?_)))))
    show wpAny _ _ (match Builtin.Slice.sliceAdjust none none (-1) (its.size : Int) with | (lo, hi) => pure (lo, (-1 : Int), Builtin.Slice.slicePlaces lo hi (-1))) _ _ _
    rw [back_adjust]
    show wpAny _ _ (pure ((its.size : Int) - 1, (-1 : Int), Builtin.Slice.slicePlaces ((its.size : Int) - 1) (-1) (-1))) _ _ _
    rw [back_places]
    exact wpAny_pure ⟨rfl, rfl⟩
  unfold getItem
  try with_reducible refine wpAny_holding ?_
  first | refine wpAny_bind (wpAny_pure ?_) | skip
  refine wpAny_bind (wpAny_sequenceKey qt.typeIs (by decide) ?_)
  refine wpAny_bind (wpAny_callSpecial?_slot (name := Str.ofString "__getitem__") qt.typeIs slot_tuple_getitem (wpAny_call_entry slot_tuple_getitem qt.typeIs entry_tuple_getitem ?_ (args_tuple_getitem _ _)))
  show wpAny _ _ (Builtin.Tuple.tupleItemsOf (.ref t) >>= _) _ _ _
  refine wpAny_bind (tupleItemsOf_ qt ?_)
  refine wpAny_bind (wpAny_typeOf yc ?_)
  rw [if_pos (by decide)]
  refine wpAny_bind (wpAny_mono ac (fun r s1 hr => ?_) fun _ _ z => z.elim)
  obtain ⟨rfl, rfl⟩ := hr
  show wpAny _ _ (if (((its.size : Int) - 1) == 0 && (-1 : Int) == 1 && its.size == its.size) = true then _ else _) _ _ _
  rw [if_neg (by simp), back_items]
  first
    | exact wpAny_bind (m := Builtin.Tuple.tupleExact _) (wpAny_newObj_type (wpAny_pure ⟨_, rfl, wpAny_pure h⟩) zl)
    | exact wpAny_bind (m := Builtin.Tuple.tupleExact _) (wpAny_newObj_type (wpAny_bind (wpAny_pure (wpAny_pure ⟨_, rfl, wpAny_pure h⟩))) zl)
    | exact wpAny_bind (wpAny_bind (m := Builtin.Tuple.tupleExact _) (wpAny_newObj_type (wpAny_pure (wpAny_pure ⟨_, rfl, wpAny_pure h⟩)) zl))
    | exact wpAny_bind (wpAny_bind (m := Builtin.Tuple.tupleExact _) (wpAny_newObj_type (wpAny_pure ⟨_, rfl, wpAny_pure h⟩) zl))
end
/-- t[::-1] -/
def tRevT (K : PySem.W.Frag) (te : TE) : TE := fun σ H Q => te σ H fun x H1 => ∃ a xs, x = .ref a ∧ SqT K H1 a xs ∧ ∀ p, H1 p = none → Q (.ref p) (upd H1 p (.tup xs.reverse))
theorem pe_revT {X : Cx} {e : Expr} {te : TE} {k : Nat} {p1 p2 p3 pos : Pos} (he : PE X e te) : PE X (.Subscript e (.Slice none none (some (.UnaryOp .USub (.Constant (.int 1) k p1) p2)) p3) pos) (tRevT X.K te) := by
  constructor
  intro pins s σ H Q I h
  refine Subscript_ (thn (he.run pins s σ H _ I h) fun v s1 hh => ?_)
  obtain ⟨x, H1, I1, r1, a, xs, rfl, hx, q⟩ := hh
  cases r1
  have hs : PO X (some (.UnaryOp .USub (.Constant (.int 1) k p1) p2)) (tPart (tUn (rU fun i => .int (-i)) (tC (.int 1)))) := po_some (pe_un un_neg pe_int)
  refine wpAny_Slice (thn (po_none.run pins s1 σ H1 (fun o H2 => o = none ∧ H2 = H1) I1 ⟨rfl, rfl⟩) fun vl s2 h2 => ?_)
  obtain ⟨l, H2, I2, pl, rfl, rfl⟩ := h2
  refine thn (po_none.run pins s2 σ _ (fun o H3 => o = none ∧ H3 = H2) I2 ⟨rfl, rfl⟩) fun vu s3 h3 => ?_
  obtain ⟨u, H3, I3, pu, rfl, rfl⟩ := h3
  refine thn (hs.run pins s3 σ _ (fun o H4 => o = some (-1) ∧ H4 = H3) I3 ⟨1, rfl, -1, rfl, rfl, rfl⟩) fun vs s4 h4 => ?_
  obtain ⟨o, H4, I4, ps, rfl, rfl⟩ := h4
  cases pl
  cases pu
  have I5 : Inv X pins σ H4 { s4 with heap := s4.heap.push { cls := .type "slice", data := .fields #[.none, .none, vs] } } := I4.kept (t' := s4.toks) fun b ob q => Heap.get?_push_of_some _ q
  obtain ⟨its, r, qt, hz⟩ := I5.tuple hx
  show wpAny (model X.prog X.w) X.A (subscriptTail e (.Slice none none (some (.UnaryOp .USub (.Constant (.int 1) k p1) p2)) p3) (.ref a) (.ref s4.heap.objs.size)) (EP X pins σ Q) X.xe { s4 with heap := s4.heap.push { cls := .type "slice", data := .fields #[.none, .none, vs] } }
  refine tail_any (ops := [.ref a, .ref s4.heap.objs.size]) qt.typeIs (slot_tuple_getitem.lookup) ?_ (by with_unfolding_all rfl)
  have hl := r.length
  refine tup_back qt (Heap.IsSliceOf.new _ .none .none vs) ps (by rw [List.size_toArray]; omega) ?_
  refine ⟨.ref _, _, I5.laid (t' := s4.toks) (o := .tup xs.reverse) (fun b ob q => Heap.get?_push_of_some _ q) (Nat.le_refl _) ?_, rfl, q _ (I5.hok.fresh (Nat.le_refl _))⟩
  exact ⟨by rw [List.length_reverse]; exact hz, its.reverse, r.reverse, ⟨_, Heap.get?_push_size _ rfl, rfl, _, rfl⟩⟩
end L2

set_option maxRecDepth 100000
set_option maxHeartbeats 4000000
/-! things of any kind: lists and dicts told by their kind alone -/
namespace W1
open PySem PyProof.Rows L2
theorem Le.dK {H H' : Hp} {a : Addr} {kvs : List (Key × V)} (e : Le H H') (h : H a = some (.dK kvs)) : H' a = some (.dK kvs) := by
  rcases e a _ h with h1 | ⟨_, _, _, _, _, _, _, _, _, z, _⟩
  · exact h1
  · cases z
theorem Le.anyL {H H' : Hp} {a : Addr} (e : Le H H') (h : ∃ xs, H a = some (.lst xs)) : ∃ xs, H' a = some (.lst xs) := by
  obtain ⟨xs, h⟩ := h
  rcases e a _ h with h1 | ⟨c, p, x, s, n, p', x', s', n', _, h1, _⟩
  · exact ⟨_, h1⟩
  · exact ⟨_, h1⟩
/-- some list, or an empty dict -/
def Ob (H : Hp) (v : V) : Prop := ∃ a, v = .ref a ∧ ((∃ xs, H a = some (.lst xs)) ∨ H a = some (.dK []))
theorem Ob.le {H H' : Hp} {v : V} (e : Le H H') (h : Ob H v) : Ob H' v := by
  obtain ⟨a, rfl, h⟩ := h
  exact ⟨a, rfl, h.imp e.anyL e.dK⟩
theorem Ob.ty {K : PySem.W.Frag} {H : Hp} {v : V} (h : Ob H v) : TyX K H v (.type "list") ∨ TyX K H v (.type "dict") := by
  obtain ⟨a, rfl, h⟩ := h
  rcases h with ⟨xs, h⟩ | h
  · exact .inl (.base (.lst h))
  · exact .inr (.base (.dK h))
def Tk (H : Hp) (d : D) : Prop := noObj d = true ∨ ∃ v, d = .obj v ∧ Ob H v
theorem Tk.le {H H' : Hp} {d : D} (e : Le H H') (h : Tk H d) : Tk H' d := h.imp (fun h => h) fun ⟨v, h1, h2⟩ => ⟨v, h1, h2.le e⟩
def sca : D → Bool
  | .non => true
  | .bl _ => true
  | .int _ => true
  | .str _ => true
  | _ => false
inductive Th (H : Hp) : D → Prop
  | sc {d : D} : sca d = true → Th H d
  | tup {ds : List D} : ds.length ≤ 50000 → (∀ d ∈ ds, Th H d) → Th H (.tup ds)
  | ob {v : V} : Ob H v → Th H (.obj v)
theorem Th.le {H H' : Hp} {d : D} (e : Le H H') (h : Th H d) : Th H' d := by
  induction h with
  | sc h => exact .sc h
  | tup hl _ ih => exact .tup hl ih
  | ob h => exact .ob (h.le e)
theorem Th.tk {H : Hp} {d : D} (h : Th H d) : Tk H d := by
  cases h with
  | sc h => exact .inl (by cases d <;> first | rfl | cases h)
  | tup _ _ => exact .inl rfl
  | ob h => exact .inr ⟨_, rfl, h⟩
theorem Th.noL {H : Hp} {d : D} (h : Th H d) : NoL d := by
  induction h with
  | @sc d h => cases d <;> first | exact .non | exact .bl _ | exact .int _ | exact .str _ | cases h
  | tup _ _ ih => exact .tup ih
  | ob _ => exact .obj _
theorem Th.items {H : Hp} {ds : List D} (h : Th H (.tup ds)) : ds.length ≤ 50000 ∧ ∀ d ∈ ds, Th H d := by
  cases h with
  | sc h => cases h
  | tup h1 h2 => exact ⟨h1, h2⟩
/-- isinstance(x, T) of a thing -/
theorem ed_isK {K : PySem.W.Frag} {σ : L2.St} {H : Hp} {ta : TE} {d : D} {T : String} {f : D → Bool} (h : ED K ta σ H d) (t : Tk H d) (hb : noObj d = true → kitB (tyD d) T = some (f d)) (h1 : kitB "list" T = some false) (h2 : kitB "dict" T = some false) (h3 : ∀ v, f (.obj v) = false) :
    ED K (tCB (rIsi K) (tCons ta (tCons (tC (.ty T)) tNil))) σ H (.bl (f d)) := by
  rcases t with hn | ⟨v, rfl, ho⟩
  · exact ed_isi h (noObj_ne hn) (hb hn)
  · intro H1 e Q q
    refine h H1 e _ fun x d' H2 e2 p r => ?_
    have p' : d' = .obj v := p
    subst p'
    have ex := rp_obj r
    subst ex
    rw [h3]  at q
    rcases (ho.le (e.trans e2)).ty (K := K) with ty | ty
    · exact ⟨x, .ty T, .type "list", .type T, false, rfl, .ty T, ty, kit_ty h1, q _ _ H2 e2 rfl (.bl _)⟩
    · exact ⟨x, .ty T, .type "dict", .type T, false, rfl, .ty T, ty, kit_ty h2, q _ _ H2 e2 rfl (.bl _)⟩
def tupB : D → Bool
  | .tup _ => true
  | _ => false
def strB : D → Bool
  | .str _ => true
  | _ => false
def blB : D → Bool
  | .bl _ => true
  | _ => false
section
variable {K : PySem.W.Frag} {σ : L2.St} {H : Hp} {ta : TE} {d : D}
theorem ed_isTup (h : ED K ta σ H d) (t : Tk H d) : ED K (tCB (rIsi K) (tCons ta (tCons (tC (.ty "tuple")) tNil))) σ H (.bl (tupB d)) :=
  ed_isK (f := tupB) h t (fun hn => by cases d <;> first | rfl | decide +kernel | cases hn) (by decide +kernel) (by decide +kernel) fun _ => rfl
theorem ed_isStr (h : ED K ta σ H d) (t : Tk H d) : ED K (tCB (rIsi K) (tCons ta (tCons (tC (.ty "str")) tNil))) σ H (.bl (strB d)) :=
  ed_isK (f := strB) h t (fun hn => by cases d <;> first | rfl | decide +kernel | cases hn) (by decide +kernel) (by decide +kernel) fun _ => rfl
theorem ed_isInt (h : ED K ta σ H d) (t : Tk H d) : ED K (tCB (rIsi K) (tCons ta (tCons (tC (.ty "int")) tNil))) σ H (.bl (subI d)) :=
  ed_isK (f := subI) h t (fun hn => kit_int hn) (by decide +kernel) (by decide +kernel) fun _ => rfl
theorem ed_isBool (h : ED K ta σ H d) (t : Tk H d) : ED K (tCB (rIsi K) (tCons ta (tCons (tC (.ty "bool")) tNil))) σ H (.bl (blB d)) :=
  ed_isK (f := blB) h t (fun hn => by cases d <;> first | rfl | decide +kernel | cases hn) (by decide +kernel) (by decide +kernel) fun _ => rfl
/-- a list is told by its kind -/
theorem ep_hide {P : List D → Hp → Prop} (h : EP K ta σ H fun d H2 => ∃ ds, d = .lst ds ∧ P ds H2) : EP K ta σ H fun d H2 => ∃ v, d = .obj v ∧ Ob H2 v := fun H1 e Q q => h H1 e _ fun v d H2 e2 p r => by
  obtain ⟨ds, rfl, _⟩ := p
  obtain ⟨a, xs, rfl, s, _, _⟩ := rp_lst r
  exact q _ (.obj (.ref a)) H2 e2 ⟨_, rfl, a, rfl, .inl ⟨xs, s⟩⟩ (.obj _)
theorem ep_lstO {A : TA} {P : List D → Hp → Prop} (h : EA K A σ H P) (hl : ∀ ds H2, P ds H2 → ds.length ≤ 100000) : EP K (tLst A) σ H fun d H2 => ∃ v, d = .obj v ∧ Ob H2 v := fun H1 e Q q => h H1 e _ fun vs ds H2 e2 p r => by
  refine ⟨by rw [r.len]; exact Evl.sz_of (hl ds H2 p), fun a na => ?_⟩
  exact q _ (.obj (.ref a)) _ (e2.trans (Le.new na)) ⟨_, rfl, a, rfl, .inl ⟨vs, upd_same⟩⟩ (.obj _)
/-- a list of a length that no hand has -/
theorem ed_lstN {A : TA} {ds : List D} (h : EDA K A σ H ds) (hl : ds.length ≤ 100000) (hn : ds.length ≠ 5) : ED K (tLst A) σ H (.lst ds) :=
  ep_lst h (fun ds' H2 p => by rw [show ds' = ds from p]; exact hl) (fun ds' H2 xs p r => by rw [show ds' = ds from p] at r; exact notH_len (by rw [r.len]; exact hn)) fun ds' H2 p H3 _ => by rw [show ds' = ds from p]
theorem ep_lstN {A : TA} {P : List D → Hp → Prop} (h : EA K A σ H P) (hl : ∀ ds H2, P ds H2 → ds.length ≤ 100000) (hn : ∀ ds H2, P ds H2 → ds.length ≠ 5) (hP : ∀ ds H2, P ds H2 → ∀ H3, Le H2 H3 → P ds H3) : EP K (tLst A) σ H fun d H2 => ∃ ds, d = .lst ds ∧ P ds H2 :=
  ep_lst h hl (fun ds H2 xs p r => notH_len (by rw [r.len]; exact hn ds H2 p)) fun ds H2 p H3 e => ⟨ds, rfl, hP ds H2 p H3 e⟩
/-- t[::-1] -/
theorem rps_rev {H : Hp} : ∀ {vs : List V} {ds : List D}, Rps K H vs ds → Rps K H vs.reverse ds.reverse
  | _, _, .nil => .nil
  | _, _, .cons h r => by
    rw [List.reverse_cons, List.reverse_cons]
    exact (rps_rev r).app (.cons h .nil)
theorem ed_revT {ds : List D} (h : ED K ta σ H (.tup ds)) : ED K (tRevT K ta) σ H (.tup ds.reverse) := fun H1 e Q q =>
  h H1 e _ fun v d H2 e2 p r => by
    have p' : d = .tup ds := p
    subst p'
    obtain ⟨a, xs, rfl, s, rr⟩ := rp_tup r
    exact ⟨a, xs, rfl, s, fun p np => q _ _ _ (e2.trans (Le.new np)) rfl (.tup (Evl.st_of upd_same) ((rps_rev rr).le (Le.new np)))⟩
end
section
variable {X : Cx} {K : PySem.W.Frag}
theorem kpe_revT {e : Expr} {te : TE} {k : Nat} {p1 p2 p3 pos : Pos} (he : PE X e te) (h : X.K = K := by rfl) : PE X (.Subscript e (.Slice none none (some (.UnaryOp .USub (.Constant (.int 1) k p1) p2)) p3) pos) (tRevT K te) := h ▸ pe_revT he
theorem kpi_zTL {e e2 : Expr} {ta : TA} {p pos tpos : Pos} {elts : List Expr} {kk : Nat} (hg : Gl X "zip") (hm : X.mg "zip" = none) (ha : PA X [e, e2] ta)
    (hs : starEach [e, e2] X.env = (false, eval e X.env) :: starEach [e2] X.env := by rfl) (hpl : (backTo pos (starEach [e2] X.env)).any (·.1) = false := by rfl) (h : X.K = K := by rfl) :
    PI X (.Tuple elts kk tpos) (.Call (.Name "zip" p) [e, e2] [] pos) (iZTL K ta) := h ▸ pi_zTL hg hm ha hs hpl
end
/-! ### loops in which nothing changes but by calls -/
section
variable {K : PySem.W.Frag} {σ : L2.St} {H H' : Hp} {te : TE} {D1 : Ends} {tu tz : TS} {g : TG}
theorem s_forT2 {ds : List D} (h : ED K te σ H (.tup ds))
    (k : ∀ H1, Le H H1 → ∃ Pv : Nat → L2.St → Hp → Prop, Pv 0 σ H1 ∧ (∀ i σ' H', i ≤ ds.length → Pv i σ' H' → Le H1 H') ∧
      (∀ i d v σ' H', ds[i]? = some d → Rp K H' v d → Pv i σ' H' → g v σ' H' fun σ2 H2 => tu (bodyEnds D1 (Pv (i + 1))) σ2 H2) ∧ ∀ σ' H', Pv ds.length σ' H' → D1.nx σ' H') : tFor (iTup K te) g tu D1 σ H := h H (Le.refl _) _ fun v d0 H1 e p r => by
  have p' : d0 = .tup ds := p
  subst p'
  obtain ⟨a, xs, rfl, s, rr⟩ := rp_tup r
  obtain ⟨Pv, h0, hle, hs, hd⟩ := k H1 e
  refine ⟨a, rfl, ⟨xs, s⟩, for_it (walk_tup (xs := xs)) Pv h0 (fun i σ' H' hi q => (hle i σ' H' (by rw [← rr.len]; exact hi) q).sqt s) ?_ (fun σ' H' q => hd σ' H' (by rw [← rr.len]; exact q))⟩
  rintro i x σ' H' _ hi q ⟨rfl, hx⟩
  obtain ⟨d, h1, h2⟩ := rr.at' hx
  exact hs i d x σ' _ h1 (h2.le (hle i σ' _ (by rw [← rr.len]; omega) q)) q
theorem q_forT2 {ds : List D} (h : ED K te σ H (.tup ds))
    (k : ∀ H1, Le H H1 → ∃ Pv : Nat → L2.St → Hp → Prop, Pv 0 σ H1 ∧ (∀ i σ' H', i ≤ ds.length → Pv i σ' H' → Le H1 H') ∧
      (∀ i d v σ' H', ds[i]? = some d → Rp K H' v d → Pv i σ' H' → g v σ' H' fun σ2 H2 => tu ({ D1 with nx := Pv (i + 1), ct := Pv (i + 1), bk := tz D1 }) σ2 H2) ∧ ∀ σ' H', Pv ds.length σ' H' → tz D1 σ' H') : tSeq (tFor (iTup K te) g tu) tz D1 σ H := s_forT2 (D1 := { D1 with nx := tz D1 }) h k
theorem s_forL2 {ds : List D} (h : ED K te σ H (.lst ds))
    (k : ∀ H1, Le H H1 → ∃ Pv : Nat → L2.St → Hp → Prop, Pv 0 σ H1 ∧ (∀ i σ' H', i ≤ ds.length → Pv i σ' H' → Le H1 H') ∧
      (∀ i d v σ' H', ds[i]? = some d → Rp K H' v d → Pv i σ' H' → g v σ' H' fun σ2 H2 => tu (bodyEnds D1 (Pv (i + 1))) σ2 H2) ∧ ∀ σ' H', Pv ds.length σ' H' → D1.nx σ' H') : tFor (iList K te) g tu D1 σ H := h H (Le.refl _) _ fun v d0 H1 e p r => by
  have p' : d0 = .lst ds := p
  subst p'
  obtain ⟨a, xs, rfl, s, nh, rr⟩ := rp_lst r
  obtain ⟨Pv, h0, hle, hs, hd⟩ := k H1 e
  refine ⟨a, rfl, ⟨xs, SqL.of s⟩, for_it (walk_list (xs := xs)) Pv h0 (fun i σ' H' hi q => SqL.of ((hle i σ' H' (by rw [← rr.len]; exact hi) q).lst s nh)) ?_ (fun σ' H' q => hd σ' H' (by rw [← rr.len]; exact q))⟩
  rintro i x σ' H' _ hi q ⟨rfl, hx⟩
  obtain ⟨d, h1, h2⟩ := rr.at' hx
  exact hs i d x σ' _ h1 (h2.le (hle i σ' _ (by rw [← rr.len]; omega) q)) q
end
end W1

set_option maxRecDepth 100000
set_option maxHeartbeats 4000000
/-! lists of things, all of one kind -/
namespace W1
open PySem PyProof.Rows L2
/-- what stays when what is tracked stays -/
def Mono (Pc : Pd) : Prop := ∀ d H H', Le H H' → Pc d H → Pc d H'
abbrev AllA (Pc : Pd) (n : Nat) : List D → Hp → Prop := fun xs H => xs.length = n ∧ ∀ d ∈ xs, Pc d H
abbrev AllL (Pc : Pd) (n : Nat) : Pd := fun d H => ∃ xs, d = .lst xs ∧ AllA Pc n xs H
section
variable {K : PySem.W.Frag} {σ : L2.St} {H : Hp} {te ta tb : TE} {A : TA} {Pc : Pd} {n m : Nat}
theorem ea_all0 : EA K tNil σ H (AllA Pc 0) := EA_weak ea_nil fun ds H2 p => by
  have p' : ds = [] := p
  subst p'
  exact ⟨rfl, fun d hd => nomatch hd⟩
theorem ea_allC (M : Mono Pc) (h : EP K te σ H Pc) (hr : EA K A σ H (AllA Pc n)) : EA K (tCons te A) σ H (AllA Pc (n + 1)) := EA_weak (ep_cons h hr) fun ds H2 p => by
  obtain ⟨d, r, H1, rfl, e, pd, h1, h2⟩ := p
  refine ⟨by rw [List.length_cons, h1], fun x hx => ?_⟩
  rcases List.mem_cons.mp hx with rfl | hx
  · exact M _ _ _ e pd
  · exact h2 x hx
theorem ep_allL (M : Mono Pc) (h : EA K A σ H (AllA Pc n)) (hn : n ≠ 5) (hz : n ≤ 100000) : EP K (tLst A) σ H (AllL Pc n) :=
  ep_lst h (fun ds H2 p => by rw [p.1]; exact hz) (fun ds H2 xs p r => notH_len (by rw [r.len, p.1]; exact hn)) fun ds H2 p H3 e => ⟨ds, rfl, p.1, fun d hd => M _ _ _ e (p.2 d hd)⟩
theorem AllA.mono (M : Mono Pc) {xs : List D} {H' : Hp} (e : Le H H') (h : AllA Pc n xs H) : AllA Pc n xs H' := ⟨h.1, fun d hd => M _ _ _ e (h.2 d hd)⟩
theorem ep_allCat (M : Mono Pc) (h : EP K ta σ H (AllL Pc n)) (h2 : EP K tb σ H (AllL Pc m)) (hn : n + m ≠ 5) (hz : n + m ≤ 100000) : EP K (tOp rCat ta tb) σ H (AllL Pc (n + m)) :=
  ep_op h h2 fun x y d1 d2 H1 H2 _ e12 p1 p2 r1 r2 Q q => by
    obtain ⟨ds, rfl, q1⟩ := p1
    obtain ⟨es, rfl, q2⟩ := p2
    obtain ⟨a, xs, rfl, s, nh, rr⟩ := rp_lst r1
    obtain ⟨b, ys, rfl, s2, nh2, rr2⟩ := rp_lst r2
    refine ⟨a, b, xs, ys, rfl, rfl, s, s2, by rw [rr.len, rr2.len, q1.1, q2.1]; exact Evl.sz_of hz, fun p np => ?_⟩
    have rf := (rr.app rr2).le (Le.new (o := .lst (xs ++ ys)) np)
    refine q _ (.lst (ds ++ es)) _ (Le.new np) ⟨_, rfl, by rw [List.length_append, q1.1, q2.1], fun d hd => ?_⟩ (.lst upd_same (notH_len (by rw [List.length_append, rr.len, rr2.len, q1.1, q2.1]; exact hn)) rf)
    rcases List.mem_append.mp hd with hd | hd
    · exact M _ _ _ (e12.trans (Le.new np)) (q1.2 d hd)
    · exact M _ _ _ (Le.new np) (q2.2 d hd)
theorem ep_anyH {E : XK} {h : Addr} {tl : TE} (M : Mono Pc) (hh : Hand H h) (h1 : ED K ta σ H (.obj (.ref h))) (h2 : EP K tl σ H (AllL Pc n)) (hn : 1 ≤ n) (hz : n ≤ 100000) :
    EP K (tCall (spD K R_any) [] E (tCons ta (tCons tl tNil))) σ H Pc :=
  ep_call (ep_cons h1 (ep_cons h2 ea_nil)) fun ds H2 e p => by
    obtain ⟨d1, r1, H3, rfl, e3, p1, d2, r2, H4, rfl, e4, ⟨xs, rfl, q1, q2⟩, p3⟩ := p
    have p1' : d1 = .obj (.ref h) := p1
    have p3' : r2 = [] := p3
    subst p1' p3'
    exact ⟨fun d _ => d ∈ xs, ⟨h, xs, rfl, hh.le e, (fun e => by rw [e] at q1; simp at q1; omega), by omega, rfl⟩, fun d H5 e5 hd => M _ _ _ (e4.trans e5) (q2 d hd)⟩
theorem ep_var {i : Nat} {v : V} {d : D} (M : Mono Pc) (h : σ[i]? = some (some v)) (r : Rp K H v d) (p : Pc d H) : EP K (tVar i) σ H Pc := (ed_var h r).weak fun d' H2 e p' => by
  have p'' : d' = d := p'
  subst p''
  exact M _ _ _ e p
theorem ep_of {d : D} (M : Mono Pc) (h : ED K te σ H d) (p : Pc d H) : EP K te σ H Pc := h.weak fun d' H2 e p' => by
  have p'' : d' = d := p'
  subst p''
  exact M _ _ _ e p
theorem ep_dict : EP K tDNewK σ H (fun d H => ∃ v, d = .obj v ∧ Ob H v) := fun H1 e Q q d nd => q _ (.obj (.ref d)) _ (Le.new nd) ⟨_, rfl, d, rfl, .inr upd_same⟩ (.obj _)
/-- list(a tuple), told by its kind -/
theorem ep_lstOfO (h : EP K ta σ H fun d _ => ∃ ds, d = .tup ds) : EP K (tCB (rLstOf K) (tCons ta tNil)) σ H (fun d H => ∃ v, d = .obj v ∧ Ob H v) := fun H1 e Q q => h H1 e _ fun v d H2 e2 p r => by
  obtain ⟨ds, rfl⟩ := p
  obtain ⟨a, xs, rfl, s, rr⟩ := rp_tup r
  exact ⟨a, xs, rfl, .inr s, fun l hl => q _ (.obj (.ref l)) _ (e2.trans (Le.new hl)) ⟨_, rfl, l, rfl, .inl ⟨xs, upd_same⟩⟩ (.obj _)⟩
/-! tuples of things -/
abbrev AllT (Pc : Pd) (n : Nat) : Pd := fun d H => ∃ xs, d = .tup xs ∧ xs.length ≤ n ∧ ∀ d ∈ xs, Pc d H
theorem ep_tup1 (M : Mono Pc) (h : EP K te σ H Pc) : EP K (tTup (tCons te tNil)) σ H (AllT Pc 1) :=
  ep_tup (ea_allC M h ea_all0) (fun ds H2 p => by rw [p.1]; decide) fun ds H2 p H3 e => ⟨ds, rfl, by rw [p.1]; exact Nat.le_refl _, fun d hd => M _ _ _ e (p.2 d hd)⟩
theorem ep_slP {tl th : TO} {lo hi : Option Int} (M : Mono Pc) (h : EP K ta σ H (AllT Pc n)) (h1 : EO tl σ H lo) (h2 : EO th σ H hi) : EP K (tSl (rSlA K) ta tl th) σ H (AllT Pc n) := fun H1 e Q q =>
  h H1 e _ fun v d H2 e2 p r => h1 H2 (e.trans e2) _ fun H3 e3 => h2 H3 ((e.trans e2).trans e3) _ fun H4 e4 => by
    obtain ⟨ds, rfl, hl, hp⟩ := p
    have hc : ∀ H', Le H2 H' → AllT Pc n (.tup (cutG ds lo hi)) H' := fun H' e' => ⟨_, rfl, by
      unfold cutG
      rw [List.length_take, List.length_drop]
      omega, fun d hd => M _ _ _ e' (hp d (by
      unfold cutG at hd
      exact List.mem_of_mem_drop (List.mem_of_mem_take hd)))⟩
    obtain ⟨a, xs, rfl, s, rr⟩ := rp_tup (r.le (e3.trans e4))
    refine ⟨a, xs, rfl, s, fun w => ?_, fun _ p np => ?_⟩
    · rw [rr.len] at w
      have hh := hc H4 (e3.trans e4)
      rw [cutG_all ds lo hi w] at hh
      exact q _ _ H4 ((e2.trans e3).trans e4) hh (.tup s rr)
    · exact q _ _ _ (((e2.trans e3).trans e4).trans (Le.new np)) (hc _ ((e3.trans e4).trans (Le.new np))) (.tup (Evl.st_of upd_same) ((rps_cut lo hi rr).le (Le.new np)))
theorem ep_catP (M : Mono Pc) (h : EP K ta σ H (AllT Pc n)) (h2 : EP K tb σ H (AllT Pc m)) (hz : n + m ≤ 100000) : EP K (tOp (rCatA K) ta tb) σ H (AllT Pc (n + m)) :=
  ep_op h h2 fun x y d1 d2 H1 H2 _ e12 p1 p2 r1 r2 Q q => by
    obtain ⟨ds, rfl, l1, q1⟩ := p1
    obtain ⟨es, rfl, l2, q2⟩ := p2
    obtain ⟨a, xs, rfl, s, rr⟩ := rp_tup r1
    obtain ⟨b, ys, rfl, s2, rr2⟩ := rp_tup r2
    have hc : ∀ H', Le H2 H' → AllT Pc (n + m) (.tup (ds ++ es)) H' := fun H' e' => ⟨_, rfl, by rw [List.length_append]; omega, fun d hd => by
      rcases List.mem_append.mp hd with hd | hd
      · exact M _ _ _ (e12.trans e') (q1 d hd)
      · exact M _ _ _ e' (q2 d hd)⟩
    refine ⟨a, b, xs, ys, rfl, rfl, s, s2, by rw [rr.len, rr2.len]; exact Evl.sz_of (by omega), fun e => ?_, fun _ e => ?_, fun _ _ p np => ?_⟩
    · subst e
      cases rr
      exact q _ _ H2 (Le.refl _) (hc H2 (Le.refl _)) r2
    · subst e
      cases rr2
      have hh := hc H2 (Le.refl _)
      rw [List.append_nil] at hh
      exact q _ _ H2 (Le.refl _) hh r1
    · exact q _ _ _ (Le.new np) (hc _ (Le.new np)) (.tup (Evl.st_of upd_same) ((rr.app rr2).le (Le.new np)))
theorem ep_revP (M : Mono Pc) (h : EP K ta σ H (AllT Pc n)) : EP K (tRevT K ta) σ H (AllT Pc n) := fun H1 e Q q =>
  h H1 e _ fun v d H2 e2 p r => by
    obtain ⟨ds, rfl, hl, hp⟩ := p
    obtain ⟨a, xs, rfl, s, rr⟩ := rp_tup r
    exact ⟨a, xs, rfl, s, fun p np => q _ _ _ (e2.trans (Le.new np)) ⟨_, rfl, by rw [List.length_reverse]; exact hl, fun d hd => M _ _ _ (Le.new np) (hp d (List.mem_reverse.mp hd))⟩ (.tup (Evl.st_of upd_same) ((rps_rev rr).le (Le.new np)))⟩
end
end W1

set_option maxRecDepth 100000
set_option maxHeartbeats 4000000
namespace W1
open PySem PyProof.Rows L2
local macro_rules | `(tactic| walk_at "rp") => `(tactic| first | assumption | exact Rp.int _ | exact Rp.bl _ | exact Rp.str _ | exact Rp.non | exact Rp.obj _ | (refine Rp.le (by assumption) ?_; walk_at "rp"))
local macro_rules | `(tactic| walk_at "ed") => `(tactic| first
  | exact ed_int | exact ed_str | exact ed_bl | exact ed_non
  | (refine ed_var rfl ?_; walk_at "rp")
  | (refine ed_ixT (ds := [_, _]) ?_ ed_int (by decide) rfl; walk_at "ed")
  | (refine ed_I0 ?_ ?_ <;> walk_at "ed")
  | (refine ed_B0 ?_ ?_ <;> walk_at "ed")
  | (refine ed_eqS ?_ ?_ rfl rfl rfl <;> walk_at "ed")
  | assumption)
local macro_rules | `(tactic| walk_at "ea") => `(tactic| first | exact ea_nil | (refine ea_cons ?_ ?_; walk_at "ed"; walk_at "ea"))

abbrev s__law_pairs : Stmt := topS 28
abbrev N__law_pairs : List Str := ["_law_many", "_law_found", "_law_one", "_law_other"]
theorem sc__law_pairs : FnScope N__law_pairs ["_law_many"] (defScope s__law_pairs) := ⟨rfl, rfl, rfl, by decide +kernel, rfl, by decide +kernel, by decide +kernel⟩
abbrev s__law_near : Stmt := topS 31
abbrev N__law_near : List Str := ["_law_parts_here", "_law_room", "_law_one", "_law_other"]
theorem sc__law_near : FnScope N__law_near ["_law_parts_here", "_law_room"] (defScope s__law_near) := ⟨rfl, rfl, rfl, by decide +kernel, rfl, by decide +kernel, by decide +kernel⟩
/-- the pairs i < j below n, row by row -/
def pairsL (n : Nat) : List (Int × Int) := (List.range n).flatMap fun i : Nat => (List.range ((n : Int) - ((i : Int) + 1)).toNat).map fun j : Nat => ((i : Int), (i : Int) + 1 + (j : Int))
theorem mem_pairsL {n : Nat} {p : Int × Int} : p ∈ pairsL n ↔ 0 ≤ p.1 ∧ p.1 < p.2 ∧ p.2 < n := by
  unfold pairsL
  rw [List.mem_flatMap]
  constructor
  · rintro ⟨i, hi, hp⟩
    obtain ⟨j, hj, rfl⟩ := List.mem_map.mp hp
    rw [List.mem_range] at hi hj
    dsimp only
    omega
  · rintro ⟨h1, h2, h3⟩
    refine ⟨p.1.toNat, List.mem_range.mpr (by omega), List.mem_map.mpr ⟨(p.2 - p.1 - 1).toNat, List.mem_range.mpr (by omega), ?_⟩⟩
    have e1 : ((p.1.toNat : Nat) : Int) = p.1 := by omega
    rw [e1]
    have e2 : p.1 + 1 + (((p.2 - p.1 - 1).toNat : Nat) : Int) = p.2 := by omega
    rw [e2]
theorem flatMap_len {α β : Type} (f : α → List β) (m : Nat) : ∀ l : List α, (∀ a ∈ l, (f a).length ≤ m) → (l.flatMap f).length ≤ l.length * m
  | [], _ => by simp
  | a :: l, h => by
    rw [List.flatMap_cons, List.length_append, List.length_cons, Nat.add_mul, Nat.one_mul]
    have h1 := h a (List.mem_cons_self ..)
    have h2 := flatMap_len f m l fun b hb => h b (List.mem_cons_of_mem _ hb)
    omega
theorem pairs_len {n i : Nat} (hi : i ≤ n) (hn : n ≤ 60) : ((List.range i).flatMap fun i : Nat => (List.range ((n : Int) - ((i : Int) + 1)).toNat).map fun j : Nat => ((i : Int), (i : Int) + 1 + (j : Int))).length ≤ 3600 := by
  refine Nat.le_trans (flatMap_len _ 60 _ fun a _ => ?_) ?_
  · rw [List.length_map, List.length_range]
    omega
  · rw [List.length_range]
    have := Nat.mul_le_mul (show i ≤ 60 by omega) (Nat.le_refl 60)
    omega
section
variable {P : Program} {w : World} {K : PySem.W.Frag} {mg : Str → Option Value} {base : Heap}
def R_pairs : List D → Hp → Pd → Prop := fun ds _ P => ∃ n : Nat, ds = [.int (n : Int)] ∧ n ≤ 60 ∧ P = is (.lst ((pairsL n).map eP))
theorem ok_pairs (T : Txt mg) (g : GDef K mg "_law_pairs" s__law_pairs ["_law_many"]) : Def P w K mg base 1 "_law_pairs" ["_law_many"] (spD K R_pairs) := by
  refine defD g sc__law_pairs (fun ds H Pd h => ?_) fun cdv A outer s f H vs ds Pd Q E hr r h q => ?_
  · obtain ⟨n, rfl, _⟩ := h
    rfl
  obtain ⟨n, rfl, hn, rfl⟩ := h
  obtain ⟨v1, rfl, r1⟩ := rps1 r
  have e1 := rp_int r1
  subst e1
  refine ⟨_, (pss_cons (ps_set (i := 1) sc__law_pairs.nd rfl (Or.inl rfl) (pe_lst pa_nil))
    (pss_cons (ps_for PassesOwn.never rfl (pi_range1 (by rfl) T.n_range (pa_cons (pv 0) pa_nil)) (pg_name (i := 2) sc__law_pairs.nd rfl (Or.inr rfl))
      (pss_one (ps_expr (pe_bm PySem.F.plainAttrs_list PySem.F.slot_list_extend PySem.F.type_list_extend mt_extend (pv 1) (pa_cons (pe_lc (own := [("_law_other", 3)]) rfl sc__law_pairs.nd (pi_range2 (by rfl) T.n_range (pa_cons (pe_op op_add (pv 2) pe_int) (pa_cons (pv 0) pa_nil))) (blkOk_by (N := N__law_pairs) (sc := defScope s__law_pairs) (by decide +kernel)) (fun _ _ _ _ _ => (pg_name (i := 3) sc__law_pairs.nd rfl (Or.inl rfl))) (fun _ _ _ _ _ => pts_nil) (fun _ _ _ _ _ => (pe_tup (pa_cons (pv 2) (pa_cons (pv 3) pa_nil))))) pa_nil)))))
    (pss_one (ps_ret (pv 1))))), ?_⟩
  refine q_asgF (K := K) (ef_lst (ds := []) ea_nil (by decide) rfl) fun c vs ds H1 nc e1 hc nh rr hd => ?_
  subst hd
  refine q_forR1 (K := K) (n := (n : Int)) (ea_cons (ed_var rfl (.int _)) ea_nil) (by omega) fun H2 e2 => ?_
  refine ⟨fun i σ H' => ∃ y ws, σ = [some (.int (n : Int)), some (.ref c), y, none] ∧ Le H H' ∧ H' c = some (.lst ws) ∧ i ≤ n ∧
    Rps K H' ws (((List.range i).flatMap fun i : Nat => (List.range ((n : Int) - ((i : Int) + 1)).toNat).map fun j : Nat => ((i : Int), (i : Int) + 1 + (j : Int))).map eP), ⟨none, vs, rfl, e1.trans e2, e2.lst hc nh, Nat.zero_le _, rr.le e2⟩, ?_, ?_⟩
  · rintro i σ H' hi ⟨y, ws, rfl, e, hc', _, rr'⟩
    have nh' : NotH ws := (enc_P.un _).notH rr'
    refine s_ext (ds := ((List.range ((n : Int) - ((i : Int) + 1)).toNat).map fun j : Nat => ((i : Int), (i : Int) + 1 + (j : Int))).map eP) hc' nh' (ed_var rfl (.obj _)) (fun H3 e3 => ?_) ?_ ?_
    · refine ed_lcR2 enc_P (fun k => ((i : Int), k)) (ea_cons (ed_I0 (f := fun i j => i + j) (ed_var rfl (.int (i : Int))) ed_int) (ea_cons (ed_var rfl (.int (n : Int))) ea_nil)) (by omega) (fun _ => rfl) fun j H4 e4 hj => ?_
      exact ed_tup (ea_cons (ed_var rfl (.int _)) (ea_cons (ed_var rfl (.int _)) ea_nil)) (by show 2 ≤ 100000; decide)
    · rw [rr'.len, List.length_map, List.length_map, List.length_map, List.length_range]
      have := pairs_len (n := n) (i := i) (by omega) hn
      omega
    · intro ws2 H3 e3 rr2 hc3
      refine ⟨_, ws ++ ws2, rfl, (e.trans e3).mut nc, upd_same, by omega, ?_⟩
      rw [List.range_succ, List.flatMap_append, List.map_append]
      refine ((rr'.le e3).upd hc3 (enc_P.nl _)).app ?_
      rw [List.flatMap_cons, List.flatMap_nil, List.append_nil]
      exact rr2.upd hc3 (enc_P.nl _)
  · rintro σ H' ⟨y, ws, rfl, e, hc', _, rr'⟩
    rw [Int.toNat_natCast] at rr'
    refine s_retD (ed_var rfl (.lst hc' ((enc_P.un _).notH rr') rr')) fun v H3 e3 r3 => ?_
    exact q v _ H3 (e.trans e3) rfl r3
/-! ### parts as data -/
def eW (ms : List Int) (ties : List (Int × Int)) : D := .tup [.tup (ms.map .int), .tup (ties.map eP)]
def rawNear (ties : List (Int × Int)) (r : Int) : List Int := (ties.filter fun p => decide (r ∈ [p.1, p.2])).map fun p => p.1 + p.2 - r
structure Near (ties : List (Int × Int)) (r : Int) (ns : List Int) : Prop where
  perm : ns.Perm (rawNear ties r)
  up : ns.Pairwise (· ≤ ·)
def R_near : List D → Hp → (List D → Prop) → Prop := fun ds _ P => ∃ ms ties r, ds = [eW ms ties, .int r] ∧ ties.length ≤ 3600 ∧ P = fun es => ∃ ns : List Int, es = ns.map .int ∧ Near ties r ns
theorem ok_near (T : Txt mg) (g : GDef K mg "_law_near" s__law_near ["_law_parts_here", "_law_room"]) : Def P w K mg base 1 "_law_near" ["_law_parts_here", "_law_room"] (spF K R_near) := by
  refine defF g sc__law_near (fun ds H Pd h => ?_) fun cdv A outer s f H vs ds Pd Q E hr r h q => ?_
  · obtain ⟨ms, ties, n, rfl, _⟩ := h
    rfl
  obtain ⟨ms, ties, n, rfl, hz, rfl⟩ := h
  obtain ⟨v1, v2, rfl, r1, r2⟩ := rps2 r
  refine ⟨_, (pss_one (ps_ret (pe_callB (kc_sortedI (K := K)) (by rfl) T.n_sorted boot_sorted (pa_cons (pe_lc (own := [("_law_one", 2), ("_law_other", 3)]) rfl sc__law_near.nd (kpi_tup (K := K) (pe_ix (kix_tup (K := K)) (pv 0) pe_int (fun _ _ => rfl))) (blkOk_by (N := N__law_near) (sc := defScope s__law_near) (by decide +kernel)) (fun _ _ _ _ _ => (kpg_tup (K := K) (n := 2) rfl (pgs_cons (pg_name (i := 2) sc__law_near.nd rfl (Or.inl rfl)) (pgs_cons (pg_name (i := 3) sc__law_near.nd rfl (Or.inl rfl)) pgs_nil)))) (fun _ _ _ _ _ => (pts_one (pt_cmpR (kop_in (K := K)) (pv 1) (pe_tup (pa_cons (pv 2) (pa_cons (pv 3) pa_nil))) (by rfl)))) (fun _ _ _ _ _ => (pe_op op_sub (pe_op op_add (pv 2) (pv 3)) (pv 1)))) pa_nil)))), ?_⟩
  refine s_retF (ef_sortedI (PN := fun ns => ns = rawNear ties n) ?_) fun p us es H1 np e1 hp nh rr pl => q p us es H1 np e1 hp nh rr (by
    obtain ⟨ns, ns', rfl, rfl, hp, hs⟩ := pl
    exact ⟨ns', rfl, hp, hs⟩)
  · refine EP.weak (ed_lcT2 enc_int ties (fun p => decide (n ∈ [p.1, p.2])) (fun p => p.1 + p.2 - n) (ed_ixT (ds := [_, _]) (ed_var rfl r1) ed_int (by decide) rfl) (by omega) (fun _ _ => rfl) (fun p H1 e hp => ?_) fun p H1 e hp _ => ?_) fun d H2 _ p => ⟨_, p, rfl⟩
    · exact et_test (ed_inT (ns := [p.1, p.2]) (ed_var rfl (r2.le e)) (ed_tup (ea_cons (ed_var rfl (.int _)) (ea_cons (ed_var rfl (.int _)) ea_nil)) (by show 2 ≤ 100000; decide)))
    · exact ed_I0 (f := fun i j => i - j) (ed_I0 (f := fun i j => i + j) (ed_var rfl (.int _)) (ed_var rfl (.int _))) (ed_var rfl (r2.le e))
def eR (x : Bool × List Int) : D := .tup [.bl x.1, .tup (x.2.map .int)]
theorem enc_R : Enc eR := enc_tup fun a d hd => by
  rcases List.mem_cons.mp hd with rfl | hd
  · exact .bl _
  · rcases List.mem_cons.mp hd with rfl | hd
    · exact .tup (noL_ints _)
    · cases hd
theorem rep_flat {α : Type} (a : α) : ∀ n : Nat, (List.replicate n [a]).flatten = List.replicate n a
  | 0 => rfl
  | n + 1 => by
    rw [List.replicate_succ, List.flatten_cons, rep_flat a n]
    rfl
end
end W1

set_option maxRecDepth 100000
set_option maxHeartbeats 4000000
namespace W1
open PySem PyProof.Rows L2
local macro_rules | `(tactic| walk_at "rp") => `(tactic| first | assumption | exact Rp.int _ | exact Rp.bl _ | exact Rp.str _ | exact Rp.non | exact Rp.obj _ | (refine Rp.le (by assumption) ?_; walk_at "rp"))
local macro_rules | `(tactic| walk_at "ed") => `(tactic| first
  | exact ed_int | exact ed_str | exact ed_bl | exact ed_non
  | (refine ed_var rfl ?_; walk_at "rp")
  | (refine ed_ixT (ds := [_, _]) ?_ ed_int (by decide) rfl; walk_at "ed")
  | (refine ed_I0 ?_ ?_ <;> walk_at "ed")
  | (refine ed_B0 ?_ ?_ <;> walk_at "ed")
  | (refine ed_eqS ?_ ?_ rfl rfl rfl <;> walk_at "ed")
  | assumption)
local macro_rules | `(tactic| walk_at "ea") => `(tactic| first | exact ea_nil | (refine ea_cons ?_ ?_; walk_at "ed"; walk_at "ea"))

abbrev s__law_parts : Stmt := topS 29
abbrev N__law_parts : List Str := ["_law_hand_here", "_law_most", "_law_memory", "_law_many", "_law_kind", "_law_share", "_law_memories", "_law_pairs_here", "_law_ties", "_law_room", "_law_pair"]
theorem sc__law_parts : FnScope N__law_parts ["_law_hand_here", "_law_most", "_law_memory"] (defScope s__law_parts) := ⟨rfl, rfl, rfl, by decide +kernel, rfl, by decide +kernel, by decide +kernel⟩
structure PartsOk (ms : List Int) (ties : List (Int × Int)) : Prop where
  some : 1 ≤ ms.length
  few : ms.length ≤ 60
  mem : ∀ m ∈ ms, 0 ≤ m ∧ m ≤ 30
  sub : ties.Sublist (pairsL ms.length)
theorem PartsOk.len {ms : List Int} {ties : List (Int × Int)} (h : PartsOk ms ties) : ties.length ≤ 3600 := Nat.le_trans h.sub.length_le (pairs_len (n := ms.length) (i := ms.length) (Nat.le_refl _) h.few)
section
variable {P : Program} {w : World} {K : PySem.W.Frag} {mg : Str → Option Value} {base : Heap}
section
variable {σ : L2.St} {H : Hp} {E : XK} {h : Addr} {ta tb : TE} {a : TA}
theorem ep_plus {m k : Int} (hd : EP K tb σ H (fun d _ => ∃ r : Int, d = .int r ∧ 0 ≤ r ∧ r < m)) : EP K (tOp (rI0 fun i j => .int (i + j)) (tC (.int k)) tb) σ H (fun d _ => ∃ r : Int, d = .int r ∧ k ≤ r ∧ r < k + m) :=
  ep_I0 ed_int hd fun d1 d2 H1 H2 _ _ p1 ⟨r, e, h0, h1⟩ => ⟨k, r, p1, e, _, ⟨k + r, rfl, by omega, by omega⟩, .int _⟩
theorem et_eq0 {k : Int} (hd : EP K ta σ H (fun d _ => ∃ r : Int, d = .int r)) : ET (tTest (tOp rEq ta (tC (.int k)))) σ H fun _ => True :=
  et_testp (ep_op hd ed_int fun x y d1 d2 H1 H2 _ _ ⟨r, e⟩ p2 r1 r2 Q q => by
    have p2' : d2 = .int k := p2
    subst e p2'
    rw [rp_int r1, rp_int r2]
    exact ⟨rfl, q _ (.bl _) H2 (Le.refl _) ⟨_, rfl⟩ (.bl _)⟩)
theorem et_cmp {g : Int → Int → Bool} (hd : EP K ta σ H (fun d _ => ∃ r : Int, d = .int r)) (hb : EP K tb σ H (fun d _ => ∃ r : Int, d = .int r)) : ET (tTest (tOp (rI0 fun i j => .bl (g i j)) ta tb)) σ H fun _ => True :=
  et_testp (ep_I0 hd hb fun d1 d2 H1 H2 _ _ ⟨i, e1⟩ ⟨j, e2⟩ => ⟨i, j, e1, e2, .bl (g i j), ⟨_, rfl⟩, .bl _⟩)
theorem EP.anyI {m : Int} (hd : EP K tb σ H (fun d _ => ∃ r : Int, d = .int r ∧ 0 ≤ r ∧ r < m)) : EP K tb σ H (fun d _ => ∃ r : Int, d = .int r) := hd.weak fun d _ _ ⟨r, e, _⟩ => ⟨r, e⟩
end
def R_parts : List D → Hp → Pd → Prop := fun ds H P => ∃ (h : Addr) (most m : Int), ds = [.obj (.ref h), .int most, .int m] ∧ Hand H h ∧ 1 ≤ most ∧ most ≤ 60 ∧ 0 ≤ m ∧ m ≤ 30 ∧
  P = fun d _ => ∃ ms ties, d = eW ms ties ∧ PartsOk ms ties ∧ (ms.length : Int) ≤ most ∧ ∀ z ∈ ms, z ≤ m
theorem ok_parts (T : Txt mg) (g : GDef K mg "_law_parts" s__law_parts ["_law_hand_here", "_law_most", "_law_memory"]) (G_law_draw : Def P w K mg base 1 "_law_draw" ["_law_hand_here", "_law_many"] (spD K R_draw))
    (G_law_pairs : Def P w K mg base 1 "_law_pairs" ["_law_many"] (spD K R_pairs)) : Def P w K mg base 2 "_law_parts" ["_law_hand_here", "_law_most", "_law_memory"] (spD K R_parts) := by
  refine defD g sc__law_parts (fun ds H Pd h => ?_) fun cdv A outer s f H vs ds Pd Q E hr r h q => ?_
  · obtain ⟨h, a, b, rfl, _⟩ := h
    rfl
  obtain ⟨h, most, mm, rfl, hh, m1, m2, mm0, mm1, rfl⟩ := h
  obtain ⟨v1, v2, v3, rfl, r1, r2, r3⟩ := rps3 r
  refine ⟨_, (pss_cons (ps_asg (pe_tup (pa_cons (pe_op op_add pe_int (pe_def G_law_draw (hr.mono (by decide)) (pa_cons (pv 0) (pa_cons (pv 1) pa_nil)))) (pa_cons (pe_def G_law_draw (hr.mono (by decide)) (pa_cons (pv 0) (pa_cons pe_int pa_nil))) (pa_cons (pe_op op_add pe_int (pe_def G_law_draw (hr.mono (by decide)) (pa_cons (pv 0) (pa_cons pe_int pa_nil)))) pa_nil)))) (kpg_tup (K := K) (n := 3) rfl (pgs_cons (pg_name (i := 3) sc__law_parts.nd rfl (Or.inr rfl)) (pgs_cons (pg_name (i := 4) sc__law_parts.nd rfl (Or.inl rfl)) (pgs_cons (pg_name (i := 5) sc__law_parts.nd rfl (Or.inr rfl)) pgs_nil)))))
    (pss_cons (ps_setLc (i := 6) (own := [("_law_room", 9)]) rfl sc__law_parts.nd rfl rfl (sw_true rfl rfl rfl (by decide +kernel)) (pi_range1 (by rfl) T.n_range (pa_cons (pv 3) pa_nil)) (blkOk_by (N := N__law_parts) (sc := defScope s__law_parts) (by decide +kernel)) (fun _ _ _ _ _ => (pg_name (i := 9) sc__law_parts.nd rfl (Or.inl rfl))) (fun _ _ _ _ _ => pts_nil) (fun _ _ _ _ _ => (pe_def G_law_draw (hr.mono (by decide)) (pa_cons (pv 0) (pa_cons (pe_op op_add (pv 2) pe_int) pa_nil)))))
    (Evl.pss_cut (ps_if (pt_cmpR op_eq (pe_def G_law_draw (hr.mono (by decide)) (pa_cons (pv 0) (pa_cons pe_int pa_nil))) pe_int (nomark _))
      (pss_one (ps_set (i := 6) sc__law_parts.nd rfl (Or.inl rfl) (pe_op op_rep (pe_lst (pa_cons (pe_ix (kix_list (K := K)) (pv 6) pe_int (fun _ _ => rfl)) pa_nil)) (pv 3))))
      pss_nil)
    (pss_cons (ps_set (i := 7) sc__law_parts.nd rfl (Or.inl rfl) (pe_def G_law_pairs (hr.mono (by decide)) (pa_cons (pv 3) pa_nil)))
    (Evl.pss_cut (ps_if (pt_cmpR op_eq (pv 4) pe_int (nomark _))
      (pss_one (ps_setLc (i := 8) (own := [("_law_pair", 10)]) rfl sc__law_parts.nd rfl rfl (sw_true rfl rfl rfl (by decide +kernel)) (kpi_list (K := K) (pv 7)) (blkOk_by (N := N__law_parts) (sc := defScope s__law_parts) (by decide +kernel)) (fun _ _ _ _ _ => (pg_name (i := 10) sc__law_parts.nd rfl (Or.inl rfl))) (fun _ _ _ _ _ => (pts_one (pt_cmpR (kop_in (K := K)) (pe_op op_sub (pe_ix (kix_tup (K := K)) (pv 10) pe_int (fun _ _ => rfl)) (pe_ix (kix_tup (K := K)) (pv 10) pe_int (fun _ _ => rfl))) (pe_tup (pa_cons pe_int (pa_cons (pe_op op_sub (pv 3) pe_int) pa_nil))) (by rfl)))) (fun _ _ _ _ _ => (pv 10))))
      (pss_one (ps_if (pt_cmpR op_eq (pv 4) pe_int (nomark _))
      (pss_one (ps_setLc (i := 8) (own := [("_law_pair", 10)]) rfl sc__law_parts.nd rfl rfl (sw_true rfl rfl rfl (by decide +kernel)) (kpi_list (K := K) (pv 7)) (blkOk_by (N := N__law_parts) (sc := defScope s__law_parts) (by decide +kernel)) (fun _ _ _ _ _ => (pg_name (i := 10) sc__law_parts.nd rfl (Or.inl rfl))) (fun _ _ _ _ _ => (pts_one (pt_cmpR op_eq (pe_op op_sub (pe_ix (kix_tup (K := K)) (pv 10) pe_int (fun _ _ => rfl)) (pe_ix (kix_tup (K := K)) (pv 10) pe_int (fun _ _ => rfl))) pe_int (nomark _)))) (fun _ _ _ _ _ => (pv 10))))
      (pss_one (ps_if (pt_cmpR op_eq (pv 4) pe_int (nomark _))
      (pss_one (ps_setLc (i := 8) (own := [("_law_pair", 10)]) rfl sc__law_parts.nd rfl rfl (sw_true rfl rfl rfl (by decide +kernel)) (kpi_list (K := K) (pv 7)) (blkOk_by (N := N__law_parts) (sc := defScope s__law_parts) (by decide +kernel)) (fun _ _ _ _ _ => (pg_name (i := 10) sc__law_parts.nd rfl (Or.inl rfl))) (fun _ _ _ _ _ => (pts_one (PW.pt (pw_and (pt_cmpR op_eq (pe_op op_mod (pe_callTy call_int1 (by rfl) T.n_int boot_int (pa_cons (pe_op op_add (pe_ix (kix_tup (K := K)) (pv 10) pe_int (fun _ _ => rfl)) (pe_ix (kix_tup (K := K)) (pv 10) pe_int (fun _ _ => rfl))) pa_nil)) pe_int) pe_int (nomark _)) (pw_and1 (pt_cmpR op_lt (pe_def G_law_draw (hr.mono (by decide)) (pa_cons (pv 0) (pa_cons pe_int pa_nil))) (pv 5) (nomark _))))))) (fun _ _ _ _ _ => (pv 10))))
      (pss_one (ps_if (pt_cmpR op_eq (pv 4) pe_int (nomark _))
      (pss_one (ps_setLc (i := 8) (own := [("_law_pair", 10)]) rfl sc__law_parts.nd rfl rfl (sw_true rfl rfl rfl (by decide +kernel)) (kpi_list (K := K) (pv 7)) (blkOk_by (N := N__law_parts) (sc := defScope s__law_parts) (by decide +kernel)) (fun _ _ _ _ _ => (pg_name (i := 10) sc__law_parts.nd rfl (Or.inl rfl))) (fun _ _ _ _ _ => (pts_one (pt_cmpR op_eq (pe_ix (kix_tup (K := K)) (pv 10) pe_int (fun _ _ => rfl)) pe_int (nomark _)))) (fun _ _ _ _ _ => (pv 10))))
      (pss_one (ps_setLc (i := 8) (own := [("_law_pair", 10)]) rfl sc__law_parts.nd rfl rfl (sw_true rfl rfl rfl (by decide +kernel)) (kpi_list (K := K) (pv 7)) (blkOk_by (N := N__law_parts) (sc := defScope s__law_parts) (by decide +kernel)) (fun _ _ _ _ _ => (pg_name (i := 10) sc__law_parts.nd rfl (Or.inl rfl))) (fun _ _ _ _ _ => (pts_one (pt_cmpR op_lt (pe_def G_law_draw (hr.mono (by decide)) (pa_cons (pv 0) (pa_cons pe_int pa_nil))) (pv 5) (nomark _)))) (fun _ _ _ _ _ => (pv 10)))))))))))
    (pss_one (ps_ret (pe_tup (pa_cons (pe_callTy (kc_tuple (K := K)) (by rfl) T.n_tuple boot_tuple (pa_cons (pv 6) pa_nil)) (pa_cons (pe_callTy (kc_tuple (K := K)) (by rfl) T.n_tuple boot_tuple (pa_cons (pv 8) pa_nil)) pa_nil)))))))))), ?_⟩
  -- many, kind, share
  refine q_tup3 (K := K) (ep_cons (ep_plus (ep_draw hh (ea_cons (ed_var rfl r1) (ea_cons (ed_var rfl r2) ea_nil)) (by omega)))
    (ep_cons (ep_draw hh (ea_cons (ed_var rfl r1) (ea_cons ed_int ea_nil)) (by omega)) (ep_cons (ep_plus (ep_draw hh (ea_cons (ed_var rfl r1) (ea_cons ed_int ea_nil)) (by omega))) ea_nil))) ?_ ?_
  · rintro ds H1 ⟨d, r, H2, rfl, _, _, d2, r2, H3, rfl, _, _, d3, r3, H4, rfl, _, _, rfl⟩
    rfl
  rintro w1 w2 w3 d1 d2 d3 H1 e1 ⟨d, r, H2, er, _, ⟨many, em, n1, n2⟩, d', r', H3, er2, _, ⟨kind, ek, _, _⟩, d'', r'', H4, er3, _, ⟨share, es, _, _⟩, er4⟩ q1 q2 q3 H5 e5
  injection er with ea eb
  subst eb
  injection er2 with ea2 eb
  subst eb
  injection er3 with ea3 eb
  subst er4 ea ea2 ea3 em ek es
  have ew1 := rp_int q1
  have ew2 := rp_int q2
  have ew3 := rp_int q3
  subst ew1 ew2 ew3
  have e0 := e1.trans e5
  obtain ⟨n, rfl⟩ : ∃ n : Nat, many = (n : Int) := ⟨many.toNat, by omega⟩
  have hh1 := hh.le e0
  have hv1 : v1 = .ref h := rp_obj r1
  have hv3 : v3 = .int mm := rp_int r3
  subst hv1 hv3
  -- memories
  refine q_asg (K := K) (ep_lcR enc_int (n := n) (fun z => 0 ≤ z ∧ z ≤ mm) (ea_cons (ed_var rfl (.int _)) ea_nil) (by omega) (fun _ => rfl) fun i H6 e6 hi => ?_) ?_
  · refine (ep_draw (hh1.le e6) (ea_cons (ed_var rfl (.obj _)) (ea_cons (ed_I0 (f := fun i j => i + j) (ed_var rfl (.int mm)) ed_int) ea_nil)) (by omega)).weak fun d H7 _ p => ?_
    obtain ⟨r, rfl, h0, h1⟩ := p
    exact ⟨r, rfl, h0, by omega⟩
  rintro v6 d6 H6 e6 ⟨zs, rfl, hzl, hz⟩ r6
  -- all of one memory, perhaps
  refine q_cut (M := fun σ H' => ∃ v6 zs, σ = [some (.ref h), some v2, some (.int mm), some (.int (n : Int)), some (.int kind), some (.int share), some v6, none, none, none, none] ∧ Le H6 H' ∧ Rp K H' v6 (.lst (List.map D.int zs)) ∧ zs.length = n ∧ ∀ z ∈ zs, 0 ≤ z ∧ z ≤ mm) ?_ ?_
  · refine s_if (et_eq0 (K := K) (EP.anyI (ep_draw (hh1.le e6) (ea_cons (ed_var rfl (.obj _)) (ea_cons ed_int ea_nil)) (by omega)))) (fun _ H7 e7 => ?_) (fun _ H7 e7 => ?_)
    · obtain ⟨z, zs, rfl⟩ : ∃ z r, zs = z :: r := by
        cases zs with
        | nil =>
          rw [List.length_nil] at hzl
          omega
        | cons z r => exact ⟨z, r, rfl⟩
      have eq : (List.replicate ((n : Int)).toNat [D.int z]).flatten = (List.replicate n z).map D.int := by
        rw [rep_flat, Int.toNat_natCast, List.map_replicate]
      refine s_asgD (ed_eq (ed_rep (ds := [.int z]) (k := (n : Int)) (ed_lst (ea_cons (ed_ixL (ed_var rfl (r6.le e7)) ed_int (by decide) rfl) ea_nil) (by show 1 ≤ 100000; decide) rfl) (ed_var rfl (.int _)) (by omega) (by show 1 ≤ 1000; decide) (by rw [eq]; exact enc_int.un _)) (congrArg D.lst eq)) fun v H8 e8 r8 => ?_
      refine ⟨v, List.replicate n z, rfl, e7.trans e8, r8, List.length_replicate, fun y hy => ?_⟩
      rw [List.eq_of_mem_replicate hy]
      exact hz z (List.mem_cons_self ..)
    · exact ⟨v6, zs, rfl, e7, r6.le e7, hzl, hz⟩
  clear r6 hz hzl zs v6
  rintro σ H7 ⟨v6, zs, rfl, e7, r6, hzl, hz⟩
  have e07 := (e0.trans e6).trans e7
  -- the pairs
  refine q_asgD (K := K) (ed_call (P := is (.lst ((pairsL n).map eP))) (ea_cons (ed_var rfl (.int (n : Int))) ea_nil) fun H8 _ => ⟨n, rfl, by omega, rfl⟩) fun v7 H8 e8 r7 => ?_
  have pl : (pairsL n).length ≤ 50000 := Nat.le_trans (pairs_len (n := n) (i := n) (Nat.le_refl _) (by omega)) (by decide)
  have hh8 := hh.le (e07.trans e8)
  -- the ties
  refine q_cut (M := fun σ H' => ∃ v8 ties, σ = [some (.ref h), some v2, some (.int mm), some (.int (n : Int)), some (.int kind), some (.int share), some v6, some v7, some v8, none, none] ∧ Le H8 H' ∧ Rp K H' v8 (.lst (List.map eP ties)) ∧ ties.Sublist (pairsL n)) ?_ ?_
  · have fin : ∀ {σ : L2.St} {H9 : Hp} {te : TE} {D1 : Ends}, σ = [some (.ref h), some v2, some (.int mm), some (.int (n : Int)), some (.int kind), some (.int share), some v6, some v7, none, none, none] → Le H8 H9 →
        (D1.nx = fun σ H' => ∃ v8 ties, σ = [some (.ref h), some v2, some (.int mm), some (.int (n : Int)), some (.int kind), some (.int share), some v6, some v7, some v8, none, none] ∧ Le H8 H' ∧ Rp K H' v8 (.lst (List.map eP ties)) ∧ ties.Sublist (pairsL n)) →
        EP K te σ H9 (fun d _ => ∃ zs, d = .lst (List.map eP zs) ∧ zs.Sublist (pairsL n)) → tAsg te (gName 8) D1 σ H9 := by
      intro σ H9 te D1 es e9 en hp
      refine s_asg hp fun v d H10 e10 p r => ?_
      obtain ⟨zs, rfl, hs⟩ := p
      rw [en, es]
      exact ⟨v, zs, rfl, e9.trans e10, r, hs⟩
    have prs : ∀ {H9 : Hp} {σ : L2.St}, Le H8 H9 → σ[7]? = some (some v7) → ED K (tVar 7) σ H9 (.lst (List.map eP (pairsL n))) := fun e9 hs => ed_var hs (r7.le e9)
    have comp : ∀ {H9 : Hp} {σ : L2.St} {tt : TT}, Le H8 H9 → σ[7]? = some (some v7) → (∀ x, wipe ((wipe σ [10]).set 10 (some x)) [10] = wipe σ [10]) → ((wipe σ [10]).length = 11) →
        (∀ b v H1, Le H9 H1 → Rp K H1 v (eP b) → ET tt ((wipe σ [10]).set 10 (some v)) H1 fun _ => True) → EP K (tLc (iList K (tVar 7)) (gName 10) tt (tVar 10) [10]) σ H9 (fun d _ => ∃ zs, d = .lst (List.map eP zs) ∧ zs.Sublist (pairsL n)) := by
      intro H9 σ tt e9 h7 hw hlen ht
      refine ep_lcSub enc_P (pairsL n) (fun _ => True) (prs e9 h7) pl hw (fun b v H1 e hb r => et_weak (ht b v H1 e r) fun _ _ _ => trivial) fun b v H1 e hb r => ed_var ?_ r
      rw [List.getElem?_set_self (by omega)]
    have dif : ∀ {H1 : Hp} {σ : L2.St} {v : V} {b : Int × Int}, σ[10]? = some (some v) → Rp K H1 v (eP b) → ED K (tOp (rI0 fun i j => .int (i - j)) (tOp (rIxT K) (tVar 10) (tC (.int 1))) (tOp (rIxT K) (tVar 10) (tC (.int 0)))) σ H1 (.int (b.2 - b.1)) := fun hs r =>
      ed_I0 (f := fun i j => i - j) (ed_ixT (ds := [_, _]) (ed_var hs r) ed_int (by decide) rfl) (ed_ixT (ds := [_, _]) (ed_var hs r) ed_int (by decide) rfl)
    refine s_if (et_eq0 (K := K) (EP.weak (ed_var rfl (.int kind)) fun d _ _ p => ⟨_, p⟩)) (fun _ H9 e9 => ?_) (fun _ H9 e9 => ?_)
    · refine fin rfl e9 rfl (comp e9 rfl (fun _ => rfl) rfl fun b v H1 e r => et_weak (et_test (ed_inT (ns := [1, (n : Int) - 1]) (dif rfl r) (ed_tup (ea_cons ed_int (ea_cons (ed_I0 (f := fun i j => i - j) (ed_var rfl (.int _)) ed_int) ea_nil)) (by show 2 ≤ 100000; decide)))) fun _ _ => trivial)
    refine s_if (et_eq0 (K := K) (EP.weak (ed_var rfl (.int kind)) fun d _ _ p => ⟨_, p⟩)) (fun _ H10 e10 => ?_) (fun _ H10 e10 => ?_)
    · refine fin rfl (e9.trans e10) rfl (comp (e9.trans e10) rfl (fun _ => rfl) rfl fun b v H1 e r => et_weak (et_test (ed_eqS (dif rfl r) ed_int rfl rfl rfl)) fun _ _ => trivial)
    refine s_if (et_eq0 (K := K) (EP.weak (ed_var rfl (.int kind)) fun d _ _ p => ⟨_, p⟩)) (fun _ H11 e11 => ?_) (fun _ H11 e11 => ?_)
    · refine fin rfl ((e9.trans e10).trans e11) rfl (comp ((e9.trans e10).trans e11) rfl (fun _ => rfl) rfl fun b v H1 e r => ?_)
      refine et_weak (et_and (et_test (ed_eqS (ed_I (f := fun i j => i % j) (ed_int1 (ed_I0 (f := fun i j => i + j) (ed_ixT (ds := [_, _]) (ed_var rfl r) ed_int (by decide) rfl) (ed_ixT (ds := [_, _]) (ed_var rfl r) ed_int (by decide) rfl))) ed_int (by show (0 : Int) < 2; decide)) ed_int rfl rfl rfl)) fun _ => et_cmp (K := K) (EP.anyI (ep_draw (((hh8.le e9).le (e10.trans e11)).le e) (ea_cons (ed_var rfl (.obj _)) (ea_cons ed_int ea_nil)) (by omega))) (EP.weak (ed_var rfl (.int share)) fun d _ _ p => ⟨_, p⟩)) fun _ _ => trivial
    refine s_if (et_eq0 (K := K) (EP.weak (ed_var rfl (.int kind)) fun d _ _ p => ⟨_, p⟩)) (fun _ H12 e12 => ?_) (fun _ H12 e12 => ?_)
    · refine fin rfl (((e9.trans e10).trans e11).trans e12) rfl (comp (((e9.trans e10).trans e11).trans e12) rfl (fun _ => rfl) rfl fun b v H1 e r => et_weak (et_test (ed_eqS (ed_ixT (ds := [_, _]) (ed_var rfl r) ed_int (by decide) rfl) ed_int rfl rfl rfl)) fun _ _ => trivial)
    · refine fin rfl (((e9.trans e10).trans e11).trans e12) rfl (comp (((e9.trans e10).trans e11).trans e12) rfl (fun _ => rfl) rfl fun b v H1 e r => ?_)
      exact et_cmp (K := K) (EP.anyI (ep_draw ((((hh8.le e9).le (e10.trans e11)).le e12).le e) (ea_cons (ed_var rfl (.obj _)) (ea_cons ed_int ea_nil)) (by omega))) (EP.weak (ed_var rfl (.int share)) fun d _ _ p => ⟨_, p⟩)
  rintro σ H9 ⟨v8, ties, rfl, e9, r8, hs⟩
  refine s_retD (ed_tup (ea_cons (ed_tupOf (ed_var rfl (r6.le (e8.trans e9)))) (ea_cons (ed_tupOf (ed_var rfl r8)) ea_nil)) (by show 2 ≤ 100000; decide)) fun v H10 e10 r => ?_
  refine q v _ H10 (((e07.trans e8).trans e9).trans e10) ⟨zs, ties, rfl, ⟨by omega, by omega, fun z hz2 => ?_, by rw [hzl]; exact hs⟩, by omega, fun z hz2 => (hz z hz2).2⟩ r
  have := hz z hz2
  omega
end
end W1

set_option maxRecDepth 100000
set_option maxHeartbeats 4000000
namespace W1
open PySem PyProof.Rows L2
local macro_rules | `(tactic| walk_at "rp") => `(tactic| first | assumption | exact Rp.int _ | exact Rp.bl _ | exact Rp.str _ | exact Rp.non | exact Rp.obj _ | (refine Rp.le (by assumption) ?_; walk_at "rp"))
local macro_rules | `(tactic| walk_at "ed") => `(tactic| first
  | exact ed_int | exact ed_str | exact ed_bl | exact ed_non
  | (refine ed_var rfl ?_; walk_at "rp")
  | (refine ed_ixT (ds := [_, _]) ?_ ed_int (by decide) rfl; walk_at "ed")
  | (refine ed_I0 ?_ ?_ <;> walk_at "ed")
  | (refine ed_B0 ?_ ?_ <;> walk_at "ed")
  | (refine ed_eqS ?_ ?_ rfl rfl rfl <;> walk_at "ed")
  | assumption)
local macro_rules | `(tactic| walk_at "ea") => `(tactic| first | exact ea_nil | (refine ea_cons ?_ ?_; walk_at "ed"; walk_at "ea"))

abbrev s_is_integer : Stmt := topS 4
abbrev N_is_integer : List Str := ["thing"]
theorem sc_is_integer : FnScope N_is_integer ["thing"] (defScope s_is_integer) := ⟨rfl, rfl, rfl, by decide +kernel, rfl, by decide +kernel, by decide +kernel⟩
abbrev s_is_between : Stmt := topS 5
abbrev N_is_between : List Str := ["least", "most", "thing"]
theorem sc_is_between : FnScope N_is_between ["least", "most", "thing"] (defScope s_is_between) := ⟨rfl, rfl, rfl, by decide +kernel, rfl, by decide +kernel, by decide +kernel⟩
abbrev s_check_memories : Stmt := topS 10
abbrev N_check_memories : List Str := ["memories", "memory"]
theorem sc_check_memories : FnScope N_check_memories ["memories"] (defScope s_check_memories) := ⟨rfl, rfl, rfl, by decide +kernel, rfl, by decide +kernel, by decide +kernel⟩
abbrev s_is_tie : Stmt := topS 12
abbrev N_is_tie : List Str := ["many", "thing", "room"]
theorem sc_is_tie : FnScope N_is_tie ["many", "thing"] (defScope s_is_tie) := ⟨rfl, rfl, rfl, by decide +kernel, rfl, by decide +kernel, by decide +kernel⟩
abbrev s_check_ties : Stmt := topS 11
abbrev N_check_ties : List Str := ["many", "ties", "at", "tie"]
theorem sc_check_ties : FnScope N_check_ties ["many", "ties"] (defScope s_check_ties) := ⟨rfl, rfl, rfl, by decide +kernel, rfl, by decide +kernel, by decide +kernel⟩
structure GTxt (mg : Str → Option Value) : Prop extends Txt mg where
  g_rooms : ∃ u, mg "MOST_ROOMS" = some u ∧ RelV (.int 60) u
  g_memory : ∃ u, mg "MOST_MEMORY" = some u ∧ RelV (.int 30) u
section
variable {P : Program} {w : World} {K : PySem.W.Frag} {mg : Str → Option Value} {base : Heap}
def R_isint : List D → Hp → Pd → Prop := fun ds H P => ∃ d, ds = [d] ∧ Tk H d ∧ P = is (.bl (isI d))
theorem ok_isint (T : Txt mg) (g : GDef K mg "is_integer" s_is_integer ["thing"]) : Def P w K mg base 1 "is_integer" ["thing"] (spD K R_isint) := by
  refine defD g sc_is_integer (fun ds H Pd h => ?_) fun cdv A outer s f H vs ds Pd Q E hr r h q => ?_
  · obtain ⟨d, rfl, _⟩ := h
    rfl
  obtain ⟨d, rfl, hn, rfl⟩ := h
  obtain ⟨v1, rfl, r1⟩ := rps1 r
  refine ⟨_, (pss_one (ps_ret (pe_and (pe_callB (kc_isi (K := K)) (by rfl) T.n_isinstance boot_isinstance (pa_cons (pv 0) (pa_cons (pe_bltn (v := V.ty "int") (by rfl) T.n_int boot_int rfl) pa_nil))) (pe_one (pe_not (pe_callB (kc_isi (K := K)) (by rfl) T.n_isinstance boot_isinstance (pa_cons (pv 0) (pa_cons (pe_bltn (v := V.ty "bool") (by rfl) T.n_bool boot_bool rfl) pa_nil)))))))), ?_⟩
  refine s_retD (ed_eq (ed_andV (ed_isInt (ed_var rfl r1) hn) fun _ => ed_notV (ed_isBool (ed_var rfl r1) hn)) ?_) fun v H1 e1 r => q v _ H1 e1 rfl r
  cases d <;> rfl
def R_btw : List D → Hp → Pd → Prop := fun ds H P => ∃ l m d, ds = [.int l, .int m, d] ∧ Tk H d ∧ P = is (.bl (btw l m d))
theorem ok_btw (T : Txt mg) (g : GDef K mg "is_between" s_is_between ["least", "most", "thing"]) (Gis_integer : Def P w K mg base 1 "is_integer" ["thing"] (spD K R_isint)) : Def P w K mg base 2 "is_between" ["least", "most", "thing"] (spD K R_btw) := by
  refine defD g sc_is_between (fun ds H Pd h => ?_) fun cdv A outer s f H vs ds Pd Q E hr r h q => ?_
  · obtain ⟨l, m, d, rfl, _⟩ := h
    rfl
  obtain ⟨l, m, d, rfl, hn, rfl⟩ := h
  obtain ⟨v1, v2, v3, rfl, r1, r2, r3⟩ := rps3 r
  refine ⟨_, (pss_one (ps_ret (pe_and (pe_def Gis_integer (hr.mono (by decide)) (pa_cons (pv 2) pa_nil)) (pe_one (pe_chain op_le op_le (pv 0) (pv 2) (pv 1)))))), ?_⟩
  have hc : ED K (tCall (spD K R_isint) [] E0 (tCons (tVar 2) tNil)) [some v1, some v2, some v3] H (.bl (isI d)) := ed_call (ea_cons (ed_var rfl r3) ea_nil) fun H1 e => ⟨d, rfl, hn.le e, rfl⟩
  have fin : isI d = false → btw l m d = false := fun h => by
    cases d <;> first | rfl | cases h
  cases hi : isI d with
  | false =>
    rw [hi] at hc
    refine s_retD (ed_andV (b := true) hc fun h => nomatch h) fun v H1 e1 r => q v _ H1 e1 (by rw [fin hi]; rfl) r
  | true =>
    rw [hi] at hc
    obtain ⟨i, rfl⟩ : ∃ i, d = .int i := by
      cases d with
      | int i => exact ⟨i, rfl⟩
      | _ => cases hi
    refine s_retD (ed_andV hc fun _ => ed_chain (f := fun i j => decide (i ≤ j)) (g := fun i j => decide (i ≤ j)) (ed_var rfl r1) (ed_var rfl r3) (ed_var rfl r2)) fun v H1 e1 r => q v _ H1 e1 rfl r
/-- a call of is_between -/
theorem ed_btw {σ : L2.St} {H : Hp} {ta tb tc : TE} {E : XK} {l m : Int} {d : D} (ha : ED K ta σ H (.int l)) (hb : ED K tb σ H (.int m)) (hc : ED K tc σ H d) (hn : noObj d = true) : ED K (tCall (spD K R_btw) [] E (tCons ta (tCons tb (tCons tc tNil)))) σ H (.bl (btw l m d)) :=
  ed_call (ea_cons ha (ea_cons hb (ea_cons hc ea_nil))) fun H1 _ => ⟨l, m, d, rfl, .inl hn, rfl⟩
theorem ed_btwK {σ : L2.St} {H : Hp} {ta tb tc : TE} {E : XK} {l m : Int} {d : D} (ha : ED K ta σ H (.int l)) (hb : ED K tb σ H (.int m)) (hc : ED K tc σ H d) (hn : Tk H d) : ED K (tCall (spD K R_btw) [] E (tCons ta (tCons tb (tCons tc tNil)))) σ H (.bl (btw l m d)) :=
  ed_call (ea_cons ha (ea_cons hb (ea_cons hc ea_nil))) fun H1 e => ⟨l, m, d, rfl, hn.le e, rfl⟩
theorem all_true {α : Type} {f : α → Bool} : ∀ {xs : List α}, (∀ x ∈ xs, f x = true) → ((xs.map f).all id) = true
  | [], _ => rfl
  | x :: xs, h => by
    rw [List.map_cons, List.all_cons, all_true fun y hy => h y (List.mem_cons_of_mem _ hy)]
    simp [h x (List.mem_cons_self ..)]
def R_cmem : List D → Hp → Pd → Prop := fun ds _ P => ∃ ms : List Int, ds = [.tup (ms.map .int)] ∧ 1 ≤ ms.length ∧ ms.length ≤ 60 ∧ (∀ m ∈ ms, 0 ≤ m ∧ m ≤ 30) ∧ P = is .non
theorem ok_cmem (T : GTxt mg) (g : GDef K mg "check_memories" s_check_memories ["memories"]) (Gis_between : Def P w K mg base 2 "is_between" ["least", "most", "thing"] (spD K R_btw)) : Def P w K mg base 3 "check_memories" ["memories"] (spD K R_cmem) := by
  refine defD g sc_check_memories (fun ds H Pd h => ?_) fun cdv A outer s f H vs ds Pd Q E hr r h q => ?_
  · obtain ⟨ms, rfl, _⟩ := h
    rfl
  obtain ⟨ms, rfl, h1, h2, hm, rfl⟩ := h
  obtain ⟨v1, rfl, r1⟩ := rps1 r
  refine ⟨_, (pss_cons (ps_if (PW.pt (pw_or (pt_not (pt_val (pe_callB (kc_isi (K := K)) (by rfl) T.n_isinstance boot_isinstance (pa_cons (pv 0) (pa_cons (pe_bltn (v := V.ty "tuple") (by rfl) T.n_tuple boot_tuple rfl) pa_nil))))) (pw_or1 (pt_not (pt_val (pe_def Gis_between (hr.mono (by decide)) (pa_cons pe_int (pa_cons (pe_gl T.g_rooms) (pa_cons (pe_callB (kc_len (K := K)) (by rfl) T.n_len boot_len (pa_cons (pv 0) pa_nil)) pa_nil)))))))))
      (pss_one ps_never)
      pss_nil)
    (pss_one (ps_if (pt_not (pt_val (pe_callB (kc_all (K := K) rfl) (by rfl) T.n_all boot_all (pa_cons (pe_lc (own := [("memory", 1)]) rfl sc_check_memories.nd (kpi_tup (K := K) (pv 0)) (blkOk_by (N := N_check_memories) (sc := defScope s_check_memories) (by decide +kernel)) (fun _ _ _ _ _ => (pg_name (i := 1) sc_check_memories.nd rfl (Or.inl rfl))) (fun _ _ _ _ _ => pts_nil) (fun _ _ _ _ _ => (pe_def Gis_between (hr.mono (by decide)) (pa_cons pe_int (pa_cons (pe_gl T.g_memory) (pa_cons (pv 1) pa_nil)))))) pa_nil))))
      (pss_one ps_never)
      pss_nil))), ?_⟩
  refine q_no (eb_or (eb_not (et_B (ed_isi (d := .tup (ms.map .int)) (ed_var rfl r1) (noObj_ne rfl) (kit_tup rfl)))) fun _ => eb_not (et_B (ed_btw ed_int ed_int (ed_lenT (ed_var rfl r1)) rfl))) ?_ fun H1 e1 => ?_
  · have e : btw 1 60 (.int (((ms.map D.int).length : Nat) : Int)) = true := by
      rw [List.length_map]
      show (decide _ && decide _) = true
      rw [decide_eq_true (by omega), decide_eq_true (by omega)]
      rfl
    rw [e]
    rfl
  refine s_no (eb_not (et_B (ed_all (bs := ms.map fun m => btw 0 30 (.int m)) (ed_eq (ed_lcT enc_bl (encS := .int) ms (fun _ => true) (fun m => btw 0 30 (.int m)) (ed_var rfl (r1.le e1)) (by omega) (fun _ => rfl) (fun b v H2 e hb r => et_yes) fun b v H2 e hb r _ => ed_btw ed_int ed_int (ed_var rfl r) rfl) ?_)))) ?_ fun H2 e2 => q _ .non H2 (e1.trans e2) rfl .non
  · rw [List.filter_eq_self.mpr (fun _ _ => rfl)]
  · rw [all_true]
    · rfl
    · intro m hm2
      have := hm m hm2
      show (decide _ && decide _) = true
      rw [decide_eq_true (by omega), decide_eq_true (by omega)]
      rfl
def R_istie : List D → Hp → Pd → Prop := fun ds _ P => ∃ n p, ds = [.int n, eP p] ∧ 0 ≤ p.1 ∧ p.1 < p.2 ∧ p.2 < n ∧ P = is (.bl true)
theorem ok_istie (T : Txt mg) (g : GDef K mg "is_tie" s_is_tie ["many", "thing"]) (Gis_between : Def P w K mg base 2 "is_between" ["least", "most", "thing"] (spD K R_btw)) : Def P w K mg base 3 "is_tie" ["many", "thing"] (spD K R_istie) := by
  refine defD g sc_is_tie (fun ds H Pd h => ?_) fun cdv A outer s f H vs ds Pd Q E hr r h q => ?_
  · obtain ⟨n, p, rfl, _⟩ := h
    rfl
  obtain ⟨n, p, rfl, h1, h2, h3, rfl⟩ := h
  obtain ⟨v1, v2, rfl, r1, r2⟩ := rps2 r
  refine ⟨_, (pss_cons (ps_if (PW.pt (pw_or (pt_not (pt_val (pe_callB (kc_isi (K := K)) (by rfl) T.n_isinstance boot_isinstance (pa_cons (pv 1) (pa_cons (pe_bltn (v := V.ty "tuple") (by rfl) T.n_tuple boot_tuple rfl) pa_nil))))) (pw_or1 (pt_cmpR op_ne (pe_callB (kc_len (K := K)) (by rfl) T.n_len boot_len (pa_cons (pv 1) pa_nil)) pe_int (nomark _)))))
      (pss_one (ps_ret pe_bl))
      pss_nil)
    (pss_cons (ps_if (pt_not (pt_val (pe_callB (kc_all (K := K) rfl) (by rfl) T.n_all boot_all (pa_cons (pe_lc (own := [("room", 2)]) rfl sc_is_tie.nd (kpi_tup (K := K) (pv 1)) (blkOk_by (N := N_is_tie) (sc := defScope s_is_tie) (by decide +kernel)) (fun _ _ _ _ _ => (pg_name (i := 2) sc_is_tie.nd rfl (Or.inl rfl))) (fun _ _ _ _ _ => pts_nil) (fun _ _ _ _ _ => (pe_def Gis_between (hr.mono (by decide)) (pa_cons pe_int (pa_cons (pe_op op_sub (pv 0) pe_int) (pa_cons (pv 2) pa_nil)))))) pa_nil))))
      (pss_one (ps_ret pe_bl))
      pss_nil)
    (pss_one (ps_ret (pe_cmpR op_lt (pe_ix (kix_tup (K := K)) (pv 1) pe_int (fun _ _ => rfl)) (pe_ix (kix_tup (K := K)) (pv 1) pe_int (fun _ _ => rfl)) (nomark _)))))), ?_⟩
  refine q_no (eb_or (eb_not (et_B (ed_isi (d := eP p) (ed_var rfl r2) (noObj_ne rfl) (kit_tup rfl)))) fun _ => et_test (ed_neS (d2 := .int 2) (ed_lenT (ds := [_, _]) (ed_var rfl r2)) ed_int rfl rfl rfl)) (by show (!true || !decide _) = false; simp [vOf]) fun H1 e1 => ?_
  refine q_no (eb_not (et_B (ed_all (bs := [p.1, p.2].map fun m => btw 0 (n - 1) (.int m)) (ed_eq (ed_lcT enc_bl (encS := .int) [p.1, p.2] (fun _ => true) (fun m => btw 0 (n - 1) (.int m)) (ed_var rfl (r2.le e1)) (by show 2 ≤ 50000; decide) (fun _ => rfl) (fun b v H2 e hb r => et_yes) fun b v H2 e hb r _ => ed_btw ed_int (ed_I0 (f := fun i j => i - j) (ed_var rfl (r1.le (e1.trans e))) ed_int) (ed_var rfl r) rfl) ?_)))) ?_ fun H2 e2 => ?_
  · rw [List.filter_eq_self.mpr (fun _ _ => rfl)]
  · rw [all_true]
    · rfl
    · intro m hm2
      simp only [List.mem_cons, List.not_mem_nil, or_false] at hm2
      show (decide _ && decide _) = true
      rcases hm2 with rfl | rfl
      · rw [decide_eq_true (by omega), decide_eq_true (by omega)]
        rfl
      · rw [decide_eq_true (by omega), decide_eq_true (by omega)]
        rfl
  · have r2' := r2.le (e1.trans e2)
    refine s_retD (ed_eq (ed_B0 (f := fun i j => decide (i < j)) (i := p.1) (j := p.2) (ed_ixT (ds := [_, _]) (ed_var rfl r2') ed_int (by decide) rfl) (ed_ixT (ds := [_, _]) (ed_var rfl r2') ed_int (by decide) rfl)) ?_) fun v H3 e3 r => q v _ H3 ((e1.trans e2).trans e3) rfl r
    rw [decide_eq_true h2]
end
end W1

set_option maxRecDepth 100000
set_option maxHeartbeats 4000000
namespace W1
open PySem PyProof.Rows L2
local macro_rules | `(tactic| walk_at "rp") => `(tactic| first | assumption | exact Rp.int _ | exact Rp.bl _ | exact Rp.str _ | exact Rp.non | exact Rp.obj _ | (refine Rp.le (by assumption) ?_; walk_at "rp"))
local macro_rules | `(tactic| walk_at "ed") => `(tactic| first
  | exact ed_int | exact ed_str | exact ed_bl | exact ed_non
  | (refine ed_var rfl ?_; walk_at "rp")
  | (refine ed_ixT (ds := [_, _]) ?_ ed_int (by decide) rfl; walk_at "ed")
  | (refine ed_I0 ?_ ?_ <;> walk_at "ed")
  | (refine ed_B0 ?_ ?_ <;> walk_at "ed")
  | (refine ed_eqS ?_ ?_ rfl rfl rfl <;> walk_at "ed")
  | assumption)
local macro_rules | `(tactic| walk_at "ea") => `(tactic| first | exact ea_nil | (refine ea_cons ?_ ?_; walk_at "ed"; walk_at "ea"))

abbrev s_near_lots : Stmt := topS 13
abbrev N_near_lots : List Str := ["many", "ties", "near", "one", "other", "_", "rooms"]
theorem sc_near_lots : FnScope N_near_lots ["many", "ties"] (defScope s_near_lots) := ⟨rfl, rfl, rfl, by decide +kernel, rfl, by decide +kernel, by decide +kernel⟩
theorem map_get {α : Type} {f : α → D} {xs : List α} {i : Nat} {a : α} (h : xs[i]? = some a) : (xs.map f)[i]? = some (f a) := by
  rw [List.getElem?_map, h]
  rfl
/-! ### the ties ascend -/
def ltP (p q : Int × Int) : Prop := p.1 < q.1 ∨ (p.1 = q.1 ∧ p.2 < q.2)
theorem pairs_row (n : Nat) (i : Nat) : ((List.range ((n : Int) - ((i : Int) + 1)).toNat).map fun j : Nat => ((i : Int), (i : Int) + 1 + (j : Int))).Pairwise ltP := by
  rw [List.pairwise_map]
  exact (List.pairwise_lt_range).imp fun {a b} h => .inr ⟨rfl, by dsimp only; omega⟩
theorem pairs_up (n : Nat) : ∀ m : Nat, ((List.range m).flatMap fun i : Nat => (List.range ((n : Int) - ((i : Int) + 1)).toNat).map fun j : Nat => ((i : Int), (i : Int) + 1 + (j : Int))).Pairwise ltP
  | 0 => by simp
  | m + 1 => by
    rw [List.range_succ, List.flatMap_append, List.pairwise_append]
    refine ⟨pairs_up n m, ?_, fun a ha b hb => ?_⟩
    · rw [List.flatMap_cons, List.flatMap_nil, List.append_nil]
      exact pairs_row n m
    · rw [List.flatMap_cons, List.flatMap_nil, List.append_nil] at hb
      obtain ⟨i, hi, ha⟩ := List.mem_flatMap.mp ha
      obtain ⟨j, _, rfl⟩ := List.mem_map.mp ha
      obtain ⟨l, _, rfl⟩ := List.mem_map.mp hb
      have := List.mem_range.mp hi
      exact .inl (by dsimp only; omega)
theorem PartsOk.up {ms : List Int} {ties : List (Int × Int)} (ok : PartsOk ms ties) : ties.Pairwise ltP := (pairs_up ms.length ms.length).sublist ok.sub
theorem PartsOk.tie {ms : List Int} {ties : List (Int × Int)} (ok : PartsOk ms ties) {p : Int × Int} (h : p ∈ ties) : 0 ≤ p.1 ∧ p.1 < p.2 ∧ p.2 < ms.length := mem_pairsL.mp (ok.sub.subset h)
section
variable {P : Program} {w : World} {K : PySem.W.Frag} {mg : Str → Option Value} {base : Heap}
theorem ed_leP {σ : L2.St} {H : Hp} {ta tb : TE} {p q : Int × Int} (ha : ED K ta σ H (eP p)) (hb : ED K tb σ H (eP q)) (h : ltP q p) : ED K (tOp (rLeT K) ta tb) σ H (.bl false) :=
  ed_op ha hb fun x y H2 _ r1 r2 Q q' => by
    obtain ⟨a, xs, rfl, s, rr⟩ := rp_tup r1
    obtain ⟨b, ys, rfl, s2, rr2⟩ := rp_tup r2
    have e1 := ints_rps (ns := [p.1, p.2]) rr
    have e2 := ints_rps (ns := [q.1, q.2]) rr2
    subst e1 e2
    refine ⟨a, b, [p.1, p.2], [q.1, q.2], rfl, rfl, s, s2, ?_⟩
    have e : Ob.lexAt (fun j => decide ([p.1, p.2].getD j 0 = [q.1, q.2].getD j 0)) (fun j => decide ([p.1, p.2].getD j 0 ≤ [q.1, q.2].getD j 0)) (decide ([p.1, p.2].length ≤ [q.1, q.2].length)) 0 (min [p.1, p.2].length [q.1, q.2].length) = false := by
      show (if decide (p.1 = q.1) = true then (if decide (p.2 = q.2) = true then _ else decide (p.2 ≤ q.2)) else decide (p.1 ≤ q.1)) = false
      rcases h with h | ⟨h, h2⟩
      · rw [if_neg (by simp; omega)]
        exact decide_eq_false (by omega)
      · rw [if_pos (by simp; omega), if_neg (by simp; omega)]
        exact decide_eq_false (by omega)
    rw [e]
    exact q' _ _ H2 (Le.refl _) rfl (.bl _)
def R_cties : List D → Hp → Pd → Prop := fun ds _ P => ∃ ms ties, ds = [.int ((ms : List Int).length : Int), .tup (ties.map eP)] ∧ PartsOk ms ties ∧ P = is .non
theorem ok_cties (T : GTxt mg) (g : GDef K mg "check_ties" s_check_ties ["many", "ties"]) (Gis_tie : Def P w K mg base 3 "is_tie" ["many", "thing"] (spD K R_istie)) : Def P w K mg base 4 "check_ties" ["many", "ties"] (spD K R_cties) := by
  refine defD g sc_check_ties (fun ds H Pd h => ?_) fun cdv A outer s f H vs ds Pd Q E hr r h q => ?_
  · obtain ⟨ms, ties, rfl, _⟩ := h
    rfl
  obtain ⟨ms, ties, rfl, ok, rfl⟩ := h
  obtain ⟨v1, v2, rfl, r1, r2⟩ := rps2 r
  refine ⟨_, (pss_cons (ps_if (pt_not (pt_val (pe_callB (kc_isi (K := K)) (by rfl) T.n_isinstance boot_isinstance (pa_cons (pv 1) (pa_cons (pe_bltn (v := V.ty "tuple") (by rfl) T.n_tuple boot_tuple rfl) pa_nil)))))
      (pss_one ps_never)
      pss_nil)
    (pss_one (ps_for PassesOwn.never rfl (kpi_enumT (K := K) (by rfl) T.n_enumerate (pa_cons (pv 1) pa_nil)) (kpg_tup (K := K) (n := 2) rfl (pgs_cons (pg_name (i := 2) sc_check_ties.nd rfl (Or.inl rfl)) (pgs_cons (pg_name (i := 3) sc_check_ties.nd rfl (Or.inl rfl)) pgs_nil)))
      (pss_cons (ps_if (pt_not (pt_val (pe_def Gis_tie (hr.mono (by decide)) (pa_cons (pv 0) (pa_cons (pv 3) pa_nil)))))
      (pss_one ps_never)
      pss_nil)
    (pss_one (ps_if (PW.pt (pw_and (pt_cmpR op_gt (pv 2) pe_int (nomark _)) (pw_and1 (pt_cmpR (kop_leT (K := K) hr.units0) (pv 3) (pe_ix (kix_tup (K := K)) (pv 1) (pe_op op_sub (pv 2) pe_int) (fun _ _ => rfl)) (nomark _)))))
      (pss_one ps_never)
      pss_nil)))))), ?_⟩
  refine q_no (eb_not (et_B (ed_isi (d := .tup (ties.map eP)) (ed_var rfl r2) (noObj_ne rfl) (kit_tup rfl)))) rfl fun H1 e1 => ?_
  refine s_forE (K := K) (ds := ties.map eP) (ea_cons (ed_var rfl (r2.le e1)) ea_nil) (enc_P.nl _) fun H2 e2 => ?_
  refine ⟨fun i σ H' => ∃ y1 y2, σ = [some v1, some v2, y1, y2] ∧ Le H2 H', ⟨none, none, rfl, Le.refl _⟩, fun i σ H' _ ⟨_, _, _, e⟩ => e.t, ?_, ?_⟩
  · rintro i d v σ' H' H3 hd ⟨y1, y2, rfl, e⟩ e3 rv
    obtain ⟨p, hp, rfl⟩ := map_at hd
    obtain ⟨h1, h2, h3⟩ := ok.tie (List.mem_of_getElem? hp)
    have hil : i < ties.length := (List.getElem?_eq_some_iff.mp hp).1
    refine ⟨rfl, ?_⟩
    have e03 := ((e1.trans e2).trans e).trans e3
    refine q_no (eb_not (et_B (K := K) (b := true) (ed_call (ea_cons (ed_var rfl (r1.le e03)) (ea_cons (ed_var rfl rv) ea_nil)) fun H4 _ => ⟨_, p, rfl, h1, h2, h3, rfl⟩))) rfl fun H4 e4 => ?_
    refine s_no (eb_and (b := false) (et_test (K := K) (ed_B0 (f := fun i j => decide (j < i)) (ed_var rfl (.int (i : Int))) ed_int)) fun hi => ?_) (Bool.and_false _) fun H5 e5 => ⟨_, _, rfl, ((e.trans e3).trans e4).trans e5⟩
    have hi2 : 0 < i := by
      have := of_decide_eq_true hi
      omega
    obtain ⟨p0, hp0⟩ : ∃ p0, ties[i - 1]? = some p0 := ⟨ties[i - 1], List.getElem?_eq_getElem (by omega)⟩
    have hlt : ltP p0 p := by
      have h := List.pairwise_iff_getElem.mp ok.up (i - 1) i (by omega) hil (by omega)
      rw [List.getElem?_eq_getElem (by omega)] at hp0
      rw [List.getElem?_eq_getElem hil] at hp
      rw [Option.some.inj hp0, Option.some.inj hp] at h
      exact h
    refine et_test (K := K) (ed_leP (p := p) (q := p0) (ed_var rfl (rv.le e4)) (ed_ixT (ds := ties.map eP) (ed_var rfl (r2.le (e03.trans e4))) (ed_I0 (f := fun i j => i - j) (ed_var rfl (.int (i : Int))) ed_int) (by omega) ?_) hlt)
    have en : ((i : Int) - 1).toNat = i - 1 := by omega
    rw [en]
    exact map_get hp0
  · rintro σ' H' ⟨y1, y2, rfl, e⟩
    exact q _ .non H' ((e1.trans e2).trans e) rfl .non
end
end W1

set_option maxRecDepth 100000
set_option maxHeartbeats 4000000
namespace W1
open PySem PyProof.Rows L2
local macro_rules | `(tactic| walk_at "rp") => `(tactic| first | assumption | exact Rp.int _ | exact Rp.bl _ | exact Rp.str _ | exact Rp.non | exact Rp.obj _ | (refine Rp.le (by assumption) ?_; walk_at "rp"))
local macro_rules | `(tactic| walk_at "ed") => `(tactic| first
  | exact ed_int | exact ed_str | exact ed_bl | exact ed_non
  | (refine ed_var rfl ?_; walk_at "rp")
  | (refine ed_ixT (ds := [_, _]) ?_ ed_int (by decide) rfl; walk_at "ed")
  | (refine ed_I0 ?_ ?_ <;> walk_at "ed")
  | (refine ed_B0 ?_ ?_ <;> walk_at "ed")
  | (refine ed_eqS ?_ ?_ rfl rfl rfl <;> walk_at "ed")
  | assumption)
local macro_rules | `(tactic| walk_at "ea") => `(tactic| first | exact ea_nil | (refine ea_cons ?_ ?_; walk_at "ed"; walk_at "ea"))

/-- a list of lists of ints, each a list of its own -/
structure Rows (H : Hp) (L : Addr) (as : List Addr) (f : Nat → List Int) (H0 : Hp) : Prop where
  top : H L = some (.lst (as.map V.ref))
  row : ∀ (i : Nat) a, as[i]? = some a → H a = some (.lst ((f i).map V.int))
  new : ∀ a ∈ as, H0 a = none
  nd : as.Nodup
  nL : L ∉ as
  nL0 : H0 L = none
  le : Le H0 H
theorem notH_refs (as : List Addr) : NotH (as.map V.ref) := notH_of fun v hv i e => by
  rw [List.getElem?_map] at hv
  cases h : as[1]? with
  | none =>
    rw [h] at hv
    cases hv
  | some a =>
    rw [h] at hv
    have := Option.some.inj hv
    rw [e] at this
    cases this
theorem Rows.le2 {H H' H0 : Hp} {L : Addr} {as : List Addr} {f : Nat → List Int} (r : Rows H L as f H0) (e : Le H H') : Rows H' L as f H0 :=
  ⟨e.lst r.top (notH_refs as), fun i a h => e.lst (r.row i a h) (notH_ints _), r.new, r.nd, r.nL, r.nL0, r.le.trans e⟩
theorem Rows.put {H H0 : Hp} {L a : Addr} {as : List Addr} {f : Nat → List Int} {i : Nat} {z : Int} (r : Rows H L as f H0) (h : as[i]? = some a) :
    Rows (upd H a (.lst ((f i).map V.int ++ [.int z]))) L as (fun j => if j = i then f i ++ [z] else f j) H0 := by
  have hm := List.mem_of_getElem? h
  have ne : L ≠ a := fun e => r.nL (e ▸ hm)
  refine ⟨by rw [upd_ne ne]; exact r.top, fun j b hb => ?_, r.new, r.nd, r.nL, r.nL0, r.le.mut (r.new a hm)⟩
  by_cases hj : j = i
  · subst hj
    cases hb.symm.trans h
    rw [if_pos rfl, upd_same, List.map_append]
    rfl
  · have nb : b ≠ a := fun e => hj (nd_ix r.nd hb (e ▸ h))
    rw [if_neg hj, upd_ne nb]
    exact r.row j b hb
theorem Rows.leT {H H' H0 : Hp} {L : Addr} {as : List Addr} {f f' : Nat → List Int} (r : Rows H L as f H0) (r' : Rows H' L as f' H0) : Le H0 H' := r'.le
section
variable {P : Program} {w : World} {K : PySem.W.Frag} {mg : Str → Option Value} {base : Heap}
theorem raw_more {l : List (Int × Int)} {p : Int × Int} {i : Int} : rawNear (l ++ [p]) i = rawNear l i ++ (if i ∈ [p.1, p.2] then [p.1 + p.2 - i] else []) := by
  unfold rawNear
  rw [List.filter_append, List.map_append]
  congr 1
  by_cases h : i ∈ [p.1, p.2]
  · rw [if_pos h, List.filter_cons, if_pos (decide_eq_true h)]
    rfl
  · rw [if_neg h, List.filter_cons, if_neg (by rw [decide_eq_false h]; exact Bool.false_ne_true)]
    rfl
def nearD (ms : List Int) (ties : List (Int × Int)) : D := .tup ((List.range ms.length).map fun i : Nat => .tup ((rawNear ties (i : Int)).map .int))
def R_nlots : List D → Hp → Pd → Prop := fun ds _ P => ∃ ms ties, ds = [.int ((ms : List Int).length : Int), .tup (ties.map eP)] ∧ PartsOk ms ties ∧ P = is (nearD ms ties)
theorem ok_nlots (T : GTxt mg) (g : GDef K mg "near_lots" s_near_lots ["many", "ties"]) : Def P w K mg base 1 "near_lots" ["many", "ties"] (spD K R_nlots) := by
  refine defD g sc_near_lots (fun ds H Pd h => ?_) fun cdv A outer s f H vs ds Pd Q E hr r h q => ?_
  · obtain ⟨ms, ties, rfl, _⟩ := h
    rfl
  obtain ⟨ms, ties, rfl, ok, rfl⟩ := h
  obtain ⟨v1, v2, rfl, r1, r2⟩ := rps2 r
  have hv1 := rp_int r1
  subst hv1
  generalize hn : ms.length = n at *
  have n60 : n ≤ 60 := by rw [← hn]; exact ok.few
  refine ⟨_, (pss_cons (ps_setLc (i := 2) (own := [("_", 5)]) rfl sc_near_lots.nd rfl rfl (sw_true rfl rfl rfl (by decide +kernel)) (pi_range1 (by rfl) T.n_range (pa_cons (pv 0) pa_nil)) (blkOk_by (N := N_near_lots) (sc := defScope s_near_lots) (by decide +kernel)) (fun _ _ _ _ _ => (pg_name (i := 5) sc_near_lots.nd rfl (Or.inl rfl))) (fun _ _ _ _ _ => pts_nil) (fun _ _ _ _ _ => (pe_lst pa_nil)))
    (pss_cons (ps_for PassesOwn.never rfl (kpi_tup (K := K) (pv 1)) (kpg_tup (K := K) (n := 2) rfl (pgs_cons (pg_name (i := 3) sc_near_lots.nd rfl (Or.inl rfl)) (pgs_cons (pg_name (i := 4) sc_near_lots.nd rfl (Or.inl rfl)) pgs_nil)))
      (pss_cons (ps_expr (pe_bm PySem.F.plainAttrs_list PySem.F.slot_list_append PySem.F.type_list_append mt_append (pe_ix (kix_list (K := K)) (pv 2) (pv 3) (fun _ _ => rfl)) (pa_cons (pv 4) pa_nil)))
    (pss_one (ps_expr (pe_bm PySem.F.plainAttrs_list PySem.F.slot_list_append PySem.F.type_list_append mt_append (pe_ix (kix_list (K := K)) (pv 2) (pv 4) (fun _ _ => rfl)) (pa_cons (pv 3) pa_nil))))))
    (pss_one (ps_ret (pe_callTy (kc_tuple (K := K)) (by rfl) T.n_tuple boot_tuple (pa_cons (pe_lc (own := [("rooms", 6)]) rfl sc_near_lots.nd (kpi_list (K := K) (pv 2)) (blkOk_by (N := N_near_lots) (sc := defScope s_near_lots) (by decide +kernel)) (fun _ _ _ _ _ => (pg_name (i := 6) sc_near_lots.nd rfl (Or.inl rfl))) (fun _ _ _ _ _ => pts_nil) (fun _ _ _ _ _ => (pe_callTy (kc_tuple (K := K)) (by rfl) T.n_tuple boot_tuple (pa_cons (pv 6) pa_nil)))) pa_nil)))))), ?_⟩
  -- near = [[] for _ in range(many)]
  refine ⟨_, rfl, (n : Int), rfl, by omega, by omega, fun L hL => lc_it (walk_range (lo := 0) (n := n)) (fun i H' => ∃ as, Rows H' L as (fun _ => []) H ∧ as.length = i ∧ i ≤ n) ⟨[], ⟨upd_same, fun i a h => by simp at h, fun a h => by simp at h, List.nodup_nil, by simp, hL, Le.new hL⟩, rfl, Nat.zero_le _⟩ (fun _ _ _ _ => trivial) ?_ ?_⟩
  · rintro i x H1 _ hi ⟨as, R, hl, _⟩ ⟨rfl, rfl⟩
    refine ⟨rfl, ?_⟩
    unfold tYes
    dsimp only
    rw [if_pos rfl]
    refine ⟨Nat.zero_le _, fun p np => ?_⟩
    have npL : L ≠ p := ne_of_none R.top np
    have nas : ∀ a ∈ as, a ≠ p := fun a ha => by
      obtain ⟨j, hj⟩ := List.mem_iff_getElem?.mp ha
      exact ne_of_none (R.row j a hj) np
    refine ⟨as.map V.ref, by rw [upd_ne npL]; exact R.top, by rw [List.length_map, hl]; exact Evl.sz_lt (by omega), as ++ [p], ⟨?_, fun j a hj => ?_, fun a ha => ?_, ?_, ?_, hL, ?_⟩, by rw [List.length_append, hl]; rfl, hi⟩
    · rw [upd_same, List.map_append]
      rfl
    · have ha : a ∈ as ++ [p] := List.mem_of_getElem? hj
      have hne : a ≠ L := by
        rcases List.mem_append.mp ha with ha | ha
        · exact fun e => R.nL (e ▸ ha)
        · rw [List.mem_singleton.mp ha]
          exact npL.symm
      rw [upd_ne hne]
      rcases List.mem_append.mp ha with ha | ha
      · rw [upd_ne (nas a ha)]
        obtain ⟨j2, hj2⟩ := List.mem_iff_getElem?.mp ha
        exact R.row j2 a hj2
      · rw [List.mem_singleton.mp ha]
        exact upd_same
    · rcases List.mem_append.mp ha with ha | ha
      · exact R.new a ha
      · rw [List.mem_singleton.mp ha]
        exact R.le.fresh np
    · rw [List.nodup_append]
      exact ⟨R.nd, by simp, fun a ha b hb => by rw [List.mem_singleton.mp hb]; exact nas a ha⟩
    · intro h
      rcases List.mem_append.mp h with h | h
      · exact R.nL h
      · exact npL (List.mem_singleton.mp h)
    · exact (R.le.trans (Le.new np)).mut hL
  rintro H1 ⟨as, R, hl, _⟩
  -- for one, other in ties
  refine q_forT (K := K) (ds := ties.map eP) (ed_var rfl (r2.le R.le)) (enc_P.nl _) fun H2 e2 => ?_
  refine ⟨fun i σ H' => ∃ y3 y4, σ = [some (.int (n : Int)), some v2, some (.ref L), y3, y4, none, none] ∧ LeT H2 H' ∧ Rows H' L as (fun j => rawNear (ties.take i) (j : Int)) H, ⟨none, none, rfl, LeT.refl _, R.le2 e2⟩, fun i σ H' _ ⟨_, _, _, e, _⟩ => e, ?_, ?_⟩
  · rintro i d v σ' H' hd rv ⟨y3, y4, rfl, et, R⟩
    obtain ⟨p, hp, rfl⟩ := map_at hd
    obtain ⟨h1, h2, h3⟩ := ok.tie (List.mem_of_getElem? hp)
    rw [hn] at h3
    obtain ⟨t, xs, rfl, st, rr⟩ := rp_tup rv
    obtain ⟨w1, w2, rfl, q1, q2⟩ := rps2 rr
    have e1 := rp_int q1
    have e2' := rp_int q2
    subst e1 e2'
    obtain ⟨a, ha⟩ : ∃ a, as[p.1.toNat]? = some a := ⟨as[p.1.toNat], List.getElem?_eq_getElem (by omega)⟩
    obtain ⟨b, hb⟩ : ∃ b, as[p.2.toNat]? = some b := ⟨as[p.2.toNat], List.getElem?_eq_getElem (by omega)⟩
    have len1 : ∀ l : List (Int × Int), ∀ i : Int, l.length ≤ 3600 → (rawNear l i).length ≤ 3600 := fun l i hl => by
      unfold rawNear
      rw [List.length_map]
      exact Nat.le_trans (List.length_filter_le _ _) hl
    have tl : (ties.take i).length ≤ 3600 := Nat.le_trans (List.length_take_le' _ _) ok.len
    refine ⟨t, _, rfl, st, rfl, _, _, rfl, _, _, rfl, rfl, ?_⟩
    -- near[one].append(other)
    refine ⟨_, rfl, _, rfl, L, _, p.1, .ref a, rfl, rfl, SqL.of R.top, ?_, .inl ⟨rfl, _, SqL.of (R.row _ _ ha)⟩, _, rfl, a, _, .int p.2, rfl, rfl, R.row _ _ ha, ?_, ?_⟩
    · exact at_of (j := p.1.toNat) (by omega) (by rw [List.getElem?_map, ha]; rfl)
    · rw [List.length_map]
      exact Evl.sz_lt (Nat.lt_of_le_of_lt (len1 _ _ tl) (by decide))
    have R1 := R.put (z := p.2) ha
    have lt1 := LeT.upd (o := .lst ((rawNear (ties.take i) ((p.1.toNat : Nat) : Int)).map V.int ++ [.int p.2])) (R.row _ _ ha)
    -- near[other].append(one)
    refine ⟨_, rfl, _, rfl, L, _, p.2, .ref b, rfl, rfl, SqL.of R1.top, ?_, .inl ⟨rfl, _, SqL.of (R1.row _ _ hb)⟩, _, rfl, b, _, .int p.1, rfl, rfl, R1.row _ _ hb, ?_, ?_⟩
    · exact at_of (j := p.2.toNat) (by omega) (by rw [List.getElem?_map, hb]; rfl)
    · rw [List.length_map, if_neg (by omega)]
      exact Evl.sz_lt (Nat.lt_of_le_of_lt (len1 _ _ tl) (by decide))
    have R2 := R1.put (z := p.1) hb
    refine ⟨_, _, rfl, (et.trans lt1).trans (LeT.upd (R1.row _ _ hb)), ?_⟩
    have ef : (fun j : Nat => rawNear (ties.take (i + 1)) (j : Int)) = fun j => if j = p.2.toNat then (if p.2.toNat = p.1.toNat then rawNear (ties.take i) ((p.1.toNat : Nat) : Int) ++ [p.2] else rawNear (ties.take i) ((p.2.toNat : Nat) : Int)) ++ [p.1] else if j = p.1.toNat then rawNear (ties.take i) ((p.1.toNat : Nat) : Int) ++ [p.2] else rawNear (ties.take i) (j : Int) := by
      funext j
      have tk : ties.take (i + 1) = ties.take i ++ [p] := by
        rw [List.take_add_one, hp]
        rfl
      rw [tk, raw_more]
      by_cases hj2 : j = p.2.toNat
      · subst hj2
        rw [if_pos rfl, if_neg (show ¬ p.2.toNat = p.1.toNat by omega)]
        have ej : ((p.2.toNat : Nat) : Int) = p.2 := by omega
        rw [ej, if_pos (by simp)]
        congr 1
        congr 1
        omega
      · rw [if_neg hj2]
        by_cases hj1 : j = p.1.toNat
        · subst hj1
          rw [if_pos rfl]
          have ej : ((p.1.toNat : Nat) : Int) = p.1 := by omega
          rw [ej, if_pos (by simp)]
          congr 1
          congr 1
          omega
        · rw [if_neg hj1, if_neg (by simp; omega), List.append_nil]
    rw [ef]
    exact R2
  · rintro σ' H' ⟨y3, y4, rfl, et, R⟩
    have etk : ties.take (ties.map eP).length = ties := by rw [List.length_map, List.take_length]
    rw [etk] at R
    -- return tuple([tuple(rooms) for rooms in near])
    refine s_retD (K := K) (d := nearD ms ties) (ed_tupOf (ds := (List.range ms.length).map fun i : Nat => D.tup ((rawNear ties (i : Int)).map .int)) ?_) fun v H3 e3 r3 => q v _ H3 (R.le.trans e3) rfl r3
    intro H3 e3 Q' q'
    have R3 := R.le2 e3
    refine ⟨_, rfl, L, rfl, ⟨_, SqL.of R3.top⟩, fun M hM => lc_it (walk_list (xs := as.map V.ref)) (fun i H' => H3 M = none ∧ Le H3 H' ∧ ∃ us, H' M = some (.lst us) ∧ Rps K H' us ((List.range i).map fun i : Nat => D.tup ((rawNear ties (i : Int)).map .int))) ⟨hM, Le.new hM, [], upd_same, .nil⟩ (fun i H' _ c => SqL.of (R3.le2 c.2.1).top) ?_ ?_⟩
    · rintro i x H4 _ hi ⟨_, e4, us, hus, rr⟩ ⟨rfl, hx⟩
      rw [List.length_map] at hi
      have ha : as[i]? = some as[i] := List.getElem?_eq_getElem hi
      rw [List.getElem?_map, ha] at hx
      have ex := Option.some.inj hx
      subst ex
      have hrow := (R3.le2 e4).row i _ ha
      have U : Uni ((List.range i).map fun i : Nat => D.tup ((rawNear ties (i : Int)).map .int)) := (enc_tup (f := fun i : Nat => (rawNear ties (i : Int)).map D.int) fun a => noL_ints _).un _
      have NL := (enc_tup (f := fun i : Nat => (rawNear ties (i : Int)).map D.int) fun a => noL_ints _).nl (List.range i)
      refine ⟨rfl, ?_⟩
      unfold tYes
      dsimp only
      rw [if_pos rfl]
      refine ⟨_, rfl, as[i], _, rfl, .inl ⟨SqL.of hrow, fun l hl2 => ?_⟩⟩
      have h5 := (Le.new (o := .tup ((rawNear ties (i : Int)).map V.int)) hl2).lst hus (U.notH rr)
      refine ⟨us, h5, ?_, hM, (e4.trans (Le.new hl2)).mut hM, us ++ [.ref l], upd_same, ?_⟩
      · rw [rr.len, List.length_map, List.length_range]
        exact Evl.sz_lt (by omega)
      · rw [List.range_succ, List.map_append]
        refine ((rr.le (Le.new hl2)).upd h5 NL).app (.cons ?_ .nil)
        exact Rp.upd h5 (.tup (noL_ints _)) (.tup (Evl.st_of upd_same) (rps_ints _))
    · rintro H4 ⟨_, e4, us, hus, rr⟩
      rw [List.length_map, hl] at rr
      have U : Uni ((List.range n).map fun i : Nat => D.tup ((rawNear ties (i : Int)).map .int)) := (enc_tup (f := fun i : Nat => (rawNear ties (i : Int)).map D.int) fun a => noL_ints _).un _
      exact q' _ (.lst ((List.range n).map fun i : Nat => D.tup ((rawNear ties (i : Int)).map .int))) H4 e4 (by rw [hn]) (.lst hus (U.notH rr) rr)
end
end W1

set_option maxRecDepth 100000
set_option maxHeartbeats 4000000
namespace W1
open PySem PyProof.Rows L2
local macro_rules | `(tactic| walk_at "rp") => `(tactic| first | assumption | exact Rp.int _ | exact Rp.bl _ | exact Rp.str _ | exact Rp.non | exact Rp.obj _ | (refine Rp.le (by assumption) ?_; walk_at "rp"))
local macro_rules | `(tactic| walk_at "ed") => `(tactic| first
  | exact ed_int | exact ed_str | exact ed_bl | exact ed_non
  | (refine ed_var rfl ?_; walk_at "rp")
  | (refine ed_ixT (ds := [_, _]) ?_ ed_int (by decide) rfl; walk_at "ed")
  | (refine ed_I0 ?_ ?_ <;> walk_at "ed")
  | (refine ed_B0 ?_ ?_ <;> walk_at "ed")
  | (refine ed_eqS ?_ ?_ rfl rfl rfl <;> walk_at "ed")
  | assumption)
local macro_rules | `(tactic| walk_at "ea") => `(tactic| first | exact ea_nil | (refine ea_cons ?_ ?_; walk_at "ed"; walk_at "ea"))

abbrev s_Web___init__ : Stmt := inClass (topS 9) 0
abbrev N_Web___init__ : List Str := ["self", "memories", "ties"]
theorem sc_Web___init__ : FnScope N_Web___init__ ["self", "memories", "ties"] (defScope s_Web___init__) := ⟨rfl, rfl, rfl, by decide +kernel, rfl, by decide +kernel, by decide +kernel⟩
abbrev s__law_made : Stmt := topS 30
abbrev N__law_made : List Str := ["_law_parts_here"]
theorem sc__law_made : FnScope N__law_made ["_law_parts_here"] (defScope s__law_made) := ⟨rfl, rfl, rfl, by decide +kernel, rfl, by decide +kernel, by decide +kernel⟩
abbrev s_is_room : Stmt := topS 14
abbrev N_is_room : List Str := ["web", "thing"]
theorem sc_is_room : FnScope N_is_room ["web", "thing"] (defScope s_is_room) := ⟨rfl, rfl, rfl, by decide +kernel, rfl, by decide +kernel, by decide +kernel⟩
section
variable {K : PySem.W.Frag} {H H' : Hp}
/-- what no data names may change: an instance -/
theorem sqt_ins {a l C dx : Addr} {fs : List (Str × V)} {xs : List V} {o : HO} (hl : H l = some (.ins C dx fs)) (h : SqT K H a xs) : SqT K (upd H l o) a xs :=
  sqt_upd (fun ys e => by rw [hl] at e; cases e) (fun ob u e => by rw [hl] at e; cases e) h
mutual
theorem Rp.ins {l C dx : Addr} {fs : List (Str × V)} {o : HO} (hl : H l = some (.ins C dx fs)) {v : V} {d : D} : Rp K H v d → Rp K (L2.upd H l o) v d
  | .non => .non
  | .bl b => .bl b
  | .int i => .int i
  | .str x => .str x
  | .obj v => .obj v
  | .tup h r => .tup (sqt_ins hl h) (Rps.ins hl r)
  | .lst (a := a) h n r => .lst (by
      have ne : a ≠ l := fun e => by
        rw [e, hl] at h
        cases h
      rw [upd_ne ne]
      exact h) n (Rps.ins hl r)
theorem Rps.ins {l C dx : Addr} {fs : List (Str × V)} {o : HO} (hl : H l = some (.ins C dx fs)) {vs : List V} {ds : List D} : Rps K H vs ds → Rps K (L2.upd H l o) vs ds
  | .nil => .nil
  | .cons h r => .cons (Rp.ins hl h) (Rps.ins hl r)
end
end
structure WebAt (K : PySem.W.Frag) (C : Addr) (H : Hp) (a : Addr) (ms : List Int) (ties : List (Int × Int)) : Prop where
  ob : ∃ dx m t n, H a = some (.ins C dx (webFs m t n)) ∧ Rp K H m (.tup (ms.map .int)) ∧ Rp K H t (.tup (ties.map eP)) ∧ Rp K H n (nearD ms ties)
theorem WebAt.le {K : PySem.W.Frag} {C a : Addr} {H H' : Hp} {ms : List Int} {ties : List (Int × Int)} (e : Le H H') (x : WebAt K C H a ms ties) : WebAt K C H' a ms ties := by
  obtain ⟨dx, m, t, n, h, h1, h2, h3⟩ := x
  exact ⟨dx, m, t, n, e.ins h, h1.le e, h2.le e, h3.le e⟩
section
variable {K : PySem.W.Frag} {σ : L2.St} {H H' : Hp} {C a : Addr} {ms : List Int} {ties : List (Int × Int)} {te : TE}
theorem ed_mem (T : WTxt K C) (x : WebAt K C H a ms ties) (h : ED K te σ H (.obj (.ref a))) : ED K (tFld K te "memories") σ H (.tup (ms.map .int)) := fun H1 e Q q => h H1 e _ fun v d H2 e2 p r => by
  have p' : d = .obj (.ref a) := p
  subst p'
  have ev := rp_obj r
  subst ev
  obtain ⟨dx, m, t, n, h, h1, h2, h3⟩ := x.le (e.trans e2)
  exact ⟨a, C, dx, _, _, rfl, h, T.cl, T.nM, web_m m t n, q _ _ H2 e2 rfl h1⟩
theorem ed_near (T : WTxt K C) (x : WebAt K C H a ms ties) (h : ED K te σ H (.obj (.ref a))) : ED K (tFld K te "near") σ H (nearD ms ties) := fun H1 e Q q => h H1 e _ fun v d H2 e2 p r => by
  have p' : d = .obj (.ref a) := p
  subst p'
  have ev := rp_obj r
  subst ev
  obtain ⟨dx, m, t, n, h, h1, h2, h3⟩ := x.le (e.trans e2)
  exact ⟨a, C, dx, _, _, rfl, h, T.cl, T.nN, web_n m t n, q _ _ H2 e2 rfl h3⟩
def spWeb (K : PySem.W.Frag) (C : Addr) : Sp := fun vs H Q _ => ∃ a dx v1 v2 ms ties, vs = [.ref a, v1, v2] ∧ H a = some (.ins C dx []) ∧ Rp K H v1 (.tup (List.map D.int ms)) ∧ Rp K H v2 (.tup (List.map eP ties)) ∧ PartsOk ms ties ∧
  ∀ H', (∀ H0, Le H0 H → H0 a = none → Le H0 H') → WebAt K C H' a ms ties → Q .non H'
end
section
variable {P : Program} {w : World} {K : PySem.W.Frag} {mg : Str → Option Value} {base : Heap} {C : Addr}
theorem ok_web {f : Addr} {fd : FuncData} (T : GTxt mg) (W : WTxt K C) (F : Fun K "__init__" "Web.__init__" s_Web___init__ f fd) (Gcheck_memories : Def P w K mg base 3 "check_memories" ["memories"] (spD K R_cmem))
    (Gcheck_ties : Def P w K mg base 4 "check_ties" ["many", "ties"] (spD K R_cties)) (Gnear_lots : Def P w K mg base 1 "near_lots" ["many", "ties"] (spD K R_nlots)) : FnOk P w K mg base CX0 5 f fd ["self", "memories", "ties"] (spWeb K C) := by
  refine F.ok sc_Web___init__ (fun vs H Q E h => ?_) (fun cdv A outer s H vs Q E hr h => ?_)
  · obtain ⟨a, dx, v1, v2, ms, ties, rfl, _⟩ := h
    rfl
  obtain ⟨a, dx, v1, v2, ms, ties, rfl, ha, r1, r2, ok, q⟩ := h
  refine ⟨_, (pss_cons (ps_expr (pe_def Gcheck_memories (hr.mono (by decide)) (pa_cons (pv 1) pa_nil)))
    (pss_cons (ps_expr (pe_def Gcheck_ties (hr.mono (by decide)) (pa_cons (pe_callB (kc_len (K := K)) (by rfl) T.n_len boot_len (pa_cons (pv 1) pa_nil)) (pa_cons (pv 2) pa_nil))))
    (pss_cons (ps_fld (pv 0) (pv 1) rfl)
    (pss_cons (ps_fld (pv 0) (pv 2) rfl)
    (pss_one (ps_fld (pv 0) (pe_def Gnear_lots (hr.mono (by decide)) (pa_cons (pe_callB (kc_len (K := K)) (by rfl) T.n_len boot_len (pa_cons (pv 1) pa_nil)) (pa_cons (pv 2) pa_nil))) rfl)))))), ?_⟩
  have hlen : ∀ {H1 : Hp} {σ : L2.St}, Rp K H1 v1 (.tup (List.map D.int ms)) → σ[1]? = some (some v1) → ED K (tCB (fun xs H Q => ∃ p ys, xs = [.ref p] ∧ (SqL K H p ys ∨ SqT K H p ys) ∧ Q (.int ys.length) H) (tCons (tVar 1) tNil)) σ H1 (.int (ms.length : Int)) := fun r h0 => ed_eq (ed_lenT (ed_var h0 r)) (by rw [List.length_map])
  refine q_drop (K := K) (P := is .non) (ed_call (ea_cons (ed_var rfl r1) ea_nil) fun H1 _ => ⟨ms, rfl, ok.some, ok.few, ok.mem, rfl⟩) fun H1 e1 => ?_
  refine q_drop (K := K) (P := is .non) (ed_call (ea_cons (hlen (r1.le e1) rfl) (ea_cons (ed_var rfl (r2.le e1)) ea_nil)) fun H2 _ => ⟨ms, ties, rfl, ok, rfl⟩) fun H2 e2 => ?_
  have a2 := (e1.trans e2).ins ha
  refine ⟨_, rfl, _, rfl, a, C, dx, [], rfl, a2, W.cl, W.nM, (by show 0 < 1000; decide), ?_⟩
  refine ⟨_, rfl, _, rfl, a, C, dx, _, rfl, upd_same, W.cl, W.nT, (by show 1 < 1000; decide), ?_⟩
  have r1' := ((r1.le (e1.trans e2)).ins a2 (o := .ins C dx (putF "memories" v1 []))).ins upd_same (o := .ins C dx (putF "ties" v2 (putF "memories" v1 [])))
  have r2' := ((r2.le (e1.trans e2)).ins a2 (o := .ins C dx (putF "memories" v1 []))).ins upd_same (o := .ins C dx (putF "ties" v2 (putF "memories" v1 [])))
  refine ed_call (K := K) (P := is (nearD ms ties)) (ea_cons (hlen r1' rfl) (ea_cons (ed_var rfl r2') ea_nil)) (fun H3 _ => ⟨ms, ties, rfl, ok, rfl⟩) _ (Le.refl _) _ fun v d H3 e3 p r3 => ?_
  have p' : d = nearD ms ties := p
  subst p'
  have a3 := e3.ins upd_same
  refine ⟨_, rfl, a, C, dx, _, rfl, a3, W.cl, W.nN, ?_, ?_⟩
  · show (putF "ties" v2 (putF "memories" v1 [])).length < 1000
    show ((if ("memories" : Str) = "ties" then [(("memories" : Str), v2)] else (("memories" : Str), v1) :: putF "ties" v2 []) : List (Str × V)).length < 1000
    rw [if_neg mt_]
    show 2 < 1000
    decide
  · refine q _ (fun H0 e0 h0 => ?_) ⟨dx, v1, v2, v, upd_same, (r1'.le e3).ins a3, (r2'.le e3).ins a3, r3.ins a3⟩
    exact ((((e0.trans (e1.trans e2)).mut h0).mut h0).trans e3).mut h0
structure WMk (P : Program) (w : World) (K : PySem.W.Frag) (mg : Str → Option Value) (base : Heap) (C : Addr) : Prop where
  mgC : mg "Web" = some (.ref C)
  ex : ∃ f fd, Mk K C f ∧ FnOk P w K mg base CX0 5 f fd ["self", "memories", "ties"] (spWeb K C) ∧ Binds K fd ["self", "memories", "ties"] []
def R_made (K : PySem.W.Frag) (C : Addr) : List D → Hp → Pd → Prop := fun ds _ P => ∃ ms ties, ds = [eW ms ties] ∧ PartsOk ms ties ∧ P = fun d H => ∃ a, d = .obj (.ref a) ∧ WebAt K C H a ms ties
theorem ok_made (M : WMk P w K mg base C) (g : GDef K mg "_law_made" s__law_made ["_law_parts_here"]) : Def P w K mg base 7 "_law_made" ["_law_parts_here"] (spD K (R_made K C)) := by
  refine defD g sc__law_made (fun ds H Pd h => ?_) fun cdv A outer s f H vs ds Pd Q E hr r h q => ?_
  · obtain ⟨ms, ties, rfl, _⟩ := h
    rfl
  obtain ⟨ms, ties, rfl, ok, rfl⟩ := h
  obtain ⟨v1, rfl, r1⟩ := rps1 r
  obtain ⟨fi, fdi, mk, F, hb⟩ := M.ex
  refine ⟨_, pss_one (ps_ret (pe_make mk F hr (by rfl) M.mgC hb .nil pass0 (pa_cons (pe_ix (kix_tup (K := K)) (pv 0) pe_int (fun _ _ => rfl)) (pa_cons (pe_ix (kix_tup (K := K)) (pv 0) pe_int (fun _ _ => rfl)) pa_nil)))), ?_⟩
  have hA : EDA K (tCons (tOp (rIxT K) (tVar 0) (tC (.int 0))) (tCons (tOp (rIxT K) (tVar 0) (tC (.int 1))) tNil)) (L2.start N__law_made [v1]) H [.tup (ms.map .int), .tup (ties.map eP)] := ea_cons (ed_ixT (ds := [_, _]) (ed_var rfl r1) ed_int (by decide) rfl) (ea_cons (ed_ixT (ds := [_, _]) (ed_var rfl r1) ed_int (by decide) rfl) ea_nil)
  unfold tRet tMake
  refine hA H (Le.refl _) _ fun vs es H1 e1 p rr => ?_
  have p' : es = [.tup (ms.map .int), .tup (ties.map eP)] := p
  subst p'
  obtain ⟨w1, w2, rfl, q1, q2⟩ := rps2 rr
  intro x dx hx hdx hne
  have l1 : Le H1 (upd (upd H1 dx (.own x)) x (.ins C dx [])) := (Le.new hdx).mut hx
  refine ⟨x, dx, w1, w2, ms, ties, rfl, upd_same, q1.le l1, q2.le l1, ok, fun H2 k W => ⟨rfl, ?_⟩⟩
  exact q _ (.obj (.ref x)) H2 (e1.trans (k _ l1 hx)) ⟨x, rfl, W⟩ (.obj _)
def R_isroom (K : PySem.W.Frag) (C : Addr) : List D → Hp → Pd → Prop := fun ds H P => ∃ a ms ties d, ds = [.obj (.ref a), d] ∧ WebAt K C H a ms ties ∧ Tk H d ∧ P = is (.bl (btw 0 ((ms.length : Int) - 1) d))
theorem ok_isroom (T : GTxt mg) (W : WTxt K C) (g : GDef K mg "is_room" s_is_room ["web", "thing"]) (Gis_between : Def P w K mg base 2 "is_between" ["least", "most", "thing"] (spD K R_btw)) : Def P w K mg base 3 "is_room" ["web", "thing"] (spD K (R_isroom K C)) := by
  refine defD g sc_is_room (fun ds H Pd h => ?_) fun cdv A outer s f H vs ds Pd Q E hr r h q => ?_
  · obtain ⟨a, ms, ties, d, rfl, _⟩ := h
    rfl
  obtain ⟨a, ms, ties, d, rfl, x, hk, rfl⟩ := h
  obtain ⟨v1, v2, rfl, r1, r2⟩ := rps2 r
  refine ⟨_, (pss_one (ps_ret (pe_def Gis_between (hr.mono (by decide)) (pa_cons pe_int (pa_cons (pe_op op_sub (pe_callB (kc_len (K := K)) (by rfl) T.n_len boot_len (pa_cons (kpe_fld (K := K) (pv 0) rfl) pa_nil)) pe_int) (pa_cons (pv 1) pa_nil)))))), ?_⟩
  refine s_retD (ed_eq (ed_btwK ed_int (ed_I0 (f := fun i j => i - j) (ed_lenT (ed_mem W x (ed_var rfl r1))) ed_int) (ed_var rfl r2) hk) ?_) fun v H1 e1 r => q v _ H1 e1 rfl r
  rw [List.length_map]
theorem btw_room {n r : Int} (h0 : 0 ≤ r) (h1 : r < n) : btw 0 (n - 1) (.int r) = true := by
  show (decide _ && decide _) = true
  rw [decide_eq_true h0, decide_eq_true (by omega)]
  rfl
end
end W1

set_option maxRecDepth 100000
set_option maxHeartbeats 4000000
namespace W1
open PySem PyProof.Rows L2 RZ
local macro_rules | `(tactic| walk_at "rp") => `(tactic| first | assumption | exact Rp.int _ | exact Rp.bl _ | exact Rp.str _ | exact Rp.non | exact Rp.obj _ | (refine Rp.le (by assumption) ?_; walk_at "rp"))
local macro_rules | `(tactic| walk_at "ed") => `(tactic| first
  | exact ed_int | exact ed_str | exact ed_bl | exact ed_non
  | (refine ed_var rfl ?_; walk_at "rp")
  | (refine ed_ixT (ds := [_, _]) ?_ ed_int (by decide) rfl; walk_at "ed")
  | (refine ed_I0 ?_ ?_ <;> walk_at "ed")
  | (refine ed_B0 ?_ ?_ <;> walk_at "ed")
  | (refine ed_eqS ?_ ?_ rfl rfl rfl <;> walk_at "ed")
  | assumption)
local macro_rules | `(tactic| walk_at "ea") => `(tactic| first | exact ea_nil | (refine ea_cons ?_ ?_; walk_at "ed"; walk_at "ea"))

abbrev s__law_is : Stmt := topS 26
abbrev N__law_is : List Str := ["_law_told", "_law_due", "_law_one", "_law_two"]
theorem sc__law_is : FnScope N__law_is ["_law_told", "_law_due"] (defScope s__law_is) := ⟨rfl, rfl, rfl, by decide +kernel, rfl, by decide +kernel, by decide +kernel⟩
section
variable {X : Cx} {K : PySem.W.Frag}
theorem kc_isiT (h : X.K = K := by rfl) : CallR X (.builtin "isinstance") (rIsiT K) := h ▸ call_isiT
theorem kpi_zipA {e e2 : Expr} {ta : TA} {p pos tpos : Pos} {elts : List Expr} {kk : Nat} (hg : Gl X "zip") (hm : X.mg "zip" = none) (ha : PA X [e, e2] ta)
    (hs : starEach [e, e2] X.env = (false, eval e X.env) :: starEach [e2] X.env := by rfl) (hpl : (backTo pos (starEach [e2] X.env)).any (·.1) = false := by rfl) (h : X.K = K := by rfl) :
    PI X (.Tuple elts kk tpos) (.Call (.Name "zip" p) [e, e2] [] pos) (iZipA K ta) := h ▸ pi_zipA hg hm ha hs hpl
end
theorem walk_zipT {K : PySem.W.Frag} {a b : Addr} {xs ys : List V} {n : Nat} (hn : n = min xs.length ys.length) : Walk (ItzT K a b) n (fun H => SqT K H a xs ∧ SqT K H b ys) (YPair (fun i => xs[i]?) (fun i => ys[i]?)) := by
  subst hn
  constructor
  · intro i H hi q
    have h1 : i < xs.length := by omega
    have h2 : i < ys.length := by omega
    exact ⟨xs, ys, xs[i], ys[i], q.1, q.2, by simp [h1], by simp [h2]⟩
  · intro H q
    exact ⟨xs, ys, q.1, q.2, by omega⟩
  · rintro i H v H' _ q ⟨T, x, y, h1, h2, h3, h4, h5⟩
    exact ⟨T, x, y, h1, h2, h3, h4 xs q.1, h5 ys q.2⟩
/-! ### deep data -/
def Dp : Nat → D → Prop
  | 0, _ => False
  | n + 1, .tup xs => xs.length ≤ 50000 ∧ ∀ x ∈ xs, Dp n x
  | n + 1, .lst xs => xs.length ≤ 50000 ∧ ∀ x ∈ xs, Dp n x
  | _ + 1, .obj _ => False
  | _ + 1, _ => True
theorem Dp.no {n : Nat} {d : D} (h : Dp n d) : noObj d = true := by
  cases n with
  | zero => exact absurd h id
  | succ n =>
    cases d with
    | obj v => exact absurd h id
    | _ => rfl
def isTupD : D → Bool
  | .tup _ => true
  | _ => false
def isLstD : D → Bool
  | .lst _ => true
  | _ => false
def isBlD : D → Bool
  | .bl _ => true
  | _ => false
theorem kd_tup {d : D} (h : noObj d = true) : kitB (tyD d) "tuple" = some (isTupD d) := by cases d <;> first | rfl | decide +kernel | exact absurd h Bool.false_ne_true
theorem kd_lst {d : D} (h : noObj d = true) : kitB (tyD d) "list" = some (isLstD d) := by cases d <;> first | rfl | decide +kernel | exact absurd h Bool.false_ne_true
theorem kd_bl {d : D} (h : noObj d = true) : kitB (tyD d) "bool" = some (isBlD d) := by cases d <;> first | rfl | decide +kernel | exact absurd h Bool.false_ne_true
def isSeq : D → Bool
  | .tup _ => true
  | .lst _ => true
  | _ => false
section
variable {K : PySem.W.Frag} {σ : L2.St} {H : Hp} {ta te : TE} {d : D} {vs : List Nat}
theorem ed_isiT (h : ED K te σ H d) (no : noObj d = true) : ED K (tCB (rIsiT K) (tCons te (tCons (tTup (tCons (tC (.ty "tuple")) (tCons (tC (.ty "list")) tNil))) tNil))) σ H (.bl (isSeq d)) := fun H1 e Q q => h H1 e _ fun v d' H2 e2 p r => by
  have p' : d' = d := p
  subst p'
  refine ⟨(by decide), fun a na => ⟨v, a, _, .type (tyD d'), [.type "tuple", .type "list"], isSeq d', rfl, upd_same, .cons (.ty "tuple") (.cons (.ty "list") .nil), tyx_of (noObj_ne no) (r.le (Le.new na)), ?_, q _ _ _ (e2.trans (Le.new na)) rfl (.bl _)⟩⟩
  have k1 : PySem.W.kitOne K (.type (tyD d')) (.type "tuple") = some (isTupD d') := kit_ty (kd_tup no)
  have k2 : PySem.W.kitOne K (.type (tyD d')) (.type "list") = some (isLstD d') := kit_ty (kd_lst no)
  unfold PySem.W.kitAny
  rw [k1]
  cases d' with
  | tup xs => rfl
  | _ =>
    show PySem.W.kitAny K _ [.type "list"] = _
    unfold PySem.W.kitAny
    rw [k2]
    rfl
theorem CI.le {H' H2 : Hp} {L : Addr} {I : Nat → List D → Prop} {i : Nat} (G : Good I) (c : CI K H L I i H') (e : Le H' H2) : CI K H L I i H2 := by
  obtain ⟨q1, q2, ws, acc, q3, q4, q5⟩ := c
  exact ⟨q1, q2.trans e, ws, acc, e.lst q3 ((G.uni i acc q5).notH q4), q4.le e, q5⟩
theorem ed_lcZ {A : TA} {ds : List D} {j l : Nat} (hd : d = .tup ds ∨ d = .lst ds) (ha : EDA K A σ H [d, d]) (hz : ds.length ≤ 50000) (hw : ∀ x y, wipe (((wipe σ vs).set j (some x)).set l (some y)) vs = wipe σ vs)
    (he : ∀ x v u H1, Le H H1 → x ∈ ds → Rp K H1 v x → Rp K H1 u x → ED K te (((wipe σ vs).set j (some v)).set l (some u)) H1 (.bl true)) :
    ED K (tLc (iZipA K A) (gTup K 2 (gCons (gName j) (gCons (gName l) gNil))) tYes te vs) σ H (.lst ((List.replicate ds.length true).map .bl)) := fun H1 e Q q => ha H1 e _ fun us es H2 e2 p rr => by
  have p' : es = [d, d] := p
  subst p'
  obtain ⟨v, u, rfl, r1, r2⟩ := rps2 rr
  have G := good enc_bl fun i zs => zs = List.replicate i true ∧ i ≤ ds.length
  have fin : ∀ {L : Addr} {H' : Hp}, CI K H2 L (GI D.bl fun i zs => zs = List.replicate i true ∧ i ≤ ds.length) ds.length H' → Q (.ref L) H' := fun c => ci_end G c fun v d H3 e3 p r => q v d H3 (e2.trans e3) (by
    obtain ⟨acc, rfl, zs, rfl, _, rfl, _⟩ := p
    rfl) r
  have turn : ∀ {L : Addr} {H' : Hp} {i : Nat} {x : D} {v u : V} {σ2 : L2.St}, ds[i]? = some x → Rp K H2 v x → Rp K H2 u x → CI K H2 L (GI D.bl fun i zs => zs = List.replicate i true ∧ i ≤ ds.length) i H' → σ2 = ((wipe σ vs).set j (some v)).set l (some u) →
      tYes σ2 H' fun b H3 => if b = true then te σ2 H3 fun y H4 => ∃ ac, H4 L = some (.lst ac) ∧ ac.length < sizeLine ∧ CI K H2 L (GI D.bl fun i zs => zs = List.replicate i true ∧ i ≤ ds.length) (i + 1) (upd H4 L (.lst (ac ++ [y]))) else CI K H2 L (GI D.bl fun i zs => zs = List.replicate i true ∧ i ≤ ds.length) (i + 1) H3 := by
    intro L H' i x v u σ2 hx rv ru c es
    subst es
    have hi := (List.getElem?_eq_some_iff.mp hx).1
    refine ci_turn G c (PT := fun b => b = true) (fun acc ia => et_yes) (fun acc ia _ => ?_) (fun acc ia hf => nomatch hf)
    obtain ⟨zs, rfl, hl, rfl, _⟩ := ia
    refine (he x v u H2 (e.trans e2) (List.mem_of_getElem? hx) rv ru).weak fun d' H3 _ p => ?_
    have p' : d' = .bl true := p
    subst p'
    exact ⟨GI.more (by simp; omega) ⟨by rw [← List.replicate_succ'], hi⟩, .bl _⟩
  rcases hd with rfl | rfl
  · obtain ⟨a, xs, rfl, s, r⟩ := rp_tup r1
    obtain ⟨b, ys, rfl, s2, rb⟩ := rp_tup r2
    refine ⟨a, b, xs, ys, rfl, .inr ⟨s, s2, fun L hL => lc_it (walk_zipT (n := ds.length) (by rw [r.len, rb.len, Nat.min_self])) (CI K H2 L (GI D.bl fun i zs => zs = List.replicate i true ∧ i ≤ ds.length)) (ci_start (I := GI D.bl fun i zs => zs = List.replicate i true ∧ i ≤ ds.length) hL ⟨[], rfl, Nat.zero_le _, rfl, Nat.zero_le _⟩) (fun i H' _ c => ⟨c.2.1.sqt s, c.2.1.sqt s2⟩) ?_ (fun H' c => fin c)⟩⟩
    rintro i x H' H3 hi c ⟨T, x1, x2, rfl, nT, rfl, f1, f2⟩
    obtain ⟨d1, g1, g2⟩ := r.at' f1
    obtain ⟨d2, g3, g4⟩ := rb.at' f2
    have ed : d1 = d2 := Option.some.inj (g1.symm.trans g3)
    subst ed
    exact ⟨T, _, rfl, Evl.st_of upd_same, rfl, _, _, rfl, _, _, rfl, rfl, hw _ _, turn g1 g2 g4 (CI.le G c (Le.new nT)) rfl⟩
  · obtain ⟨a, xs, rfl, s, nh, r⟩ := rp_lst r1
    obtain ⟨b, ys, rfl, s2, nh2, rb⟩ := rp_lst r2
    refine ⟨a, b, xs, ys, rfl, .inl ⟨SqL.of s, SqL.of s2, fun L hL => lc_it (walk_zip (n := ds.length) (by rw [r.len, rb.len, Nat.min_self])) (CI K H2 L (GI D.bl fun i zs => zs = List.replicate i true ∧ i ≤ ds.length)) (ci_start (I := GI D.bl fun i zs => zs = List.replicate i true ∧ i ≤ ds.length) hL ⟨[], rfl, Nat.zero_le _, rfl, Nat.zero_le _⟩) (fun i H' _ c => ⟨SqL.of (c.2.1.lst s nh), SqL.of (c.2.1.lst s2 nh2)⟩) ?_ (fun H' c => fin c)⟩⟩
    rintro i x H' H3 hi c ⟨T, x1, x2, rfl, nT, rfl, f1, f2⟩
    obtain ⟨d1, g1, g2⟩ := r.at' f1
    obtain ⟨d2, g3, g4⟩ := rb.at' f2
    have ed : d1 = d2 := Option.some.inj (g1.symm.trans g3)
    subst ed
    exact ⟨T, _, rfl, Evl.st_of upd_same, rfl, _, _, rfl, _, _, rfl, rfl, hw _ _, turn g1 g2 g4 (CI.le G c (Le.new nT)) rfl⟩
end
structure STxt (mg : Str → Option Value) : Prop extends Txt mg where
  n_zip : mg "zip" = none
/-- == of what is flat, and of empty dicts -/
def rEqX : R2 := fun x y H Q => rEq x y H Q ∨ ∃ a b, x = .ref a ∧ y = .ref b ∧ H a = some (.dK []) ∧ H b = some (.dK []) ∧ Q (.bl true) H
theorem op_eqX {X : Cx} (hu : X.A.units < cLine) : OpR X (compareOp .Eq) rEqX := by
  intro pins s σ H x y v u Q I rx ry h
  rcases h with h | ⟨a, b, rfl, rfl, h1, h2, q⟩
  · exact op_eq pins s σ H x y v u Q I rx ry h
  · exact op_eq_dict hu pins s σ H _ _ v u Q I rx ry ⟨a, b, [], rfl, rfl, h1, h2, List.nodup_nil, (fun p hp => nomatch hp), q⟩
section
variable {P : Program} {w : World} {K : PySem.W.Frag} {mg : Str → Option Value} {base : Heap}
def R_is (n : Nat) : List D → Hp → Pd → Prop := fun ds H P => P = is (.bl true) ∧ ((∃ d, ds = [d, d] ∧ Dp n d) ∨ 0 < n ∧ ∃ p : Addr, ds = [.obj (.ref p), .obj (.ref p)] ∧ H p = some (.dK []))
theorem ok_is (T : STxt mg) (g : GDef K mg "_law_is" s__law_is ["_law_told", "_law_due"]) : ∀ n : Nat, Def P w K mg base (n + 1) "_law_is" ["_law_told", "_law_due"] (spD K (R_is n))
  | 0 => by
    have no : ∀ ds H Pd, ¬ R_is 0 ds H Pd := fun ds H Pd h => by
      rcases h.2 with ⟨d, _, h⟩ | ⟨h, _⟩
      · exact absurd h id
      · exact absurd h (Nat.lt_irrefl 0)
    exact defD g sc__law_is (fun ds H Pd h => (no _ _ _ h).elim) fun cdv A outer s f H vs ds Pd Q E hr r h q => (no _ _ _ h).elim
  | n + 1 => by
    have G_law_is := ok_is T g n
    refine defD g sc__law_is (fun ds H Pd h => ?_) fun cdv A outer s f H vs ds Pd Q E hr r h q => ?_
    · rcases h.2 with ⟨d, rfl, _⟩ | ⟨_, p, rfl, _⟩ <;> rfl
    refine ⟨_, (pss_cons (ps_if (pt_val (pe_callB (kc_isiT (K := K)) (by rfl) T.n_isinstance boot_isinstance (pa_cons (pv 1) (pa_cons (pe_tup (pa_cons (pe_bltn (v := V.ty "tuple") (by rfl) T.n_tuple boot_tuple rfl) (pa_cons (pe_bltn (v := V.ty "list") (by rfl) T.n_list boot_list rfl) pa_nil))) pa_nil))))
      (pss_cons (ps_if (PW.pt (pw_or (pt_cmpR op_ne (pe_callB (kc_isi (K := K)) (by rfl) T.n_isinstance boot_isinstance (pa_cons (pv 0) (pa_cons (pe_bltn (v := V.ty "tuple") (by rfl) T.n_tuple boot_tuple rfl) pa_nil))) (pe_callB (kc_isi (K := K)) (by rfl) T.n_isinstance boot_isinstance (pa_cons (pv 1) (pa_cons (pe_bltn (v := V.ty "tuple") (by rfl) T.n_tuple boot_tuple rfl) pa_nil))) (nomark _)) (pw_or1 (pt_not (pt_val (pe_callB (kc_isiT (K := K)) (by rfl) T.n_isinstance boot_isinstance (pa_cons (pv 0) (pa_cons (pe_tup (pa_cons (pe_bltn (v := V.ty "tuple") (by rfl) T.n_tuple boot_tuple rfl) (pa_cons (pe_bltn (v := V.ty "list") (by rfl) T.n_list boot_list rfl) pa_nil))) pa_nil))))))))
      (pss_one (ps_ret pe_bl))
      pss_nil)
    (pss_one (ps_ret (pe_and (pe_cmpR op_eq (pe_callB (kc_len (K := K)) (by rfl) T.n_len boot_len (pa_cons (pv 0) pa_nil)) (pe_callB (kc_len (K := K)) (by rfl) T.n_len boot_len (pa_cons (pv 1) pa_nil)) (nomark _)) (pe_one (pe_callB (kc_all (K := K) rfl) (by rfl) T.n_all boot_all (pa_cons (pe_lc (own := [("_law_one", 2), ("_law_two", 3)]) rfl sc__law_is.nd (kpi_zipA (K := K) (by rfl) T.n_zip (pa_cons (pv 0) (pa_cons (pv 1) pa_nil))) (blkOk_by (N := N__law_is) (sc := defScope s__law_is) (by decide +kernel)) (fun _ _ _ _ _ => (kpg_tup (K := K) (n := 2) rfl (pgs_cons (pg_name (i := 2) sc__law_is.nd rfl (Or.inl rfl)) (pgs_cons (pg_name (i := 3) sc__law_is.nd rfl (Or.inl rfl)) pgs_nil)))) (fun _ _ _ _ _ => pts_nil) (fun _ _ _ _ _ => (pe_def G_law_is hr (pa_cons (pv 2) (pa_cons (pv 3) pa_nil))))) pa_nil)))))))
      pss_nil)
    (pss_one (ps_ret (pe_and (pe_cmpR op_eq (pe_callB (kc_isi (K := K)) (by rfl) T.n_isinstance boot_isinstance (pa_cons (pv 0) (pa_cons (pe_bltn (v := V.ty "bool") (by rfl) T.n_bool boot_bool rfl) pa_nil))) (pe_callB (kc_isi (K := K)) (by rfl) T.n_isinstance boot_isinstance (pa_cons (pv 1) (pa_cons (pe_bltn (v := V.ty "bool") (by rfl) T.n_bool boot_bool rfl) pa_nil))) (nomark _)) (pe_one (pe_cmpR (op_eqX hr.units0) (pv 0) (pv 1) (nomark _))))))), ?_⟩
    obtain ⟨rfl, h⟩ := h
    rcases h with ⟨d, rfl, hd⟩ | ⟨_, p, rfl, hp⟩
    rotate_left
    · obtain ⟨v1, v2, rfl, r1, r2⟩ := rps2 r
      have e1 := rp_obj r1
      have e2 := rp_obj r2
      subst e1 e2
      have ty : ∀ {H1 : Hp}, Le H H1 → TyX K H1 (.ref p) (.type "dict") := fun e => .base (.dK (e.dK hp))
      have hT : ∀ {H1 : Hp} {σ : L2.St} {j : Nat}, Le H H1 → σ[j]? = some (some (.ref p)) → ED K (tCB (rIsiT K) (tCons (tVar j) (tCons (tTup (tCons (tC (.ty "tuple")) (tCons (tC (.ty "list")) tNil))) tNil))) σ H1 (.bl false) := fun e hs H2 e2 Q q =>
        ⟨_, hs, (by decide), fun a na => ⟨.ref p, a, _, .type "dict", [.type "tuple", .type "list"], false, rfl, upd_same, .cons (.ty "tuple") (.cons (.ty "list") .nil), ty ((e.trans e2).trans (Le.new na)), (by
          unfold PySem.W.kitAny
          rw [show PySem.W.kitOne K (.type "dict") (.type "tuple") = some false from kit_ty (by decide +kernel)]
          dsimp only
          unfold PySem.W.kitAny
          rw [show PySem.W.kitOne K (.type "dict") (.type "list") = some false from kit_ty (by decide +kernel)]
          rfl), q _ _ _ (Le.new na) rfl (.bl _)⟩⟩
      have hB : ∀ {H1 : Hp} {σ : L2.St} {j : Nat}, Le H H1 → σ[j]? = some (some (.ref p)) → ED K (tCB (rIsi K) (tCons (tVar j) (tCons (tC (.ty "bool")) tNil))) σ H1 (.bl false) := fun e hs H2 e2 Q q =>
        ⟨_, hs, .ref p, .ty "bool", .type "dict", .type "bool", false, rfl, .ty "bool", ty (e.trans e2), kit_ty (by decide +kernel), q _ _ _ (Le.refl _) rfl (.bl _)⟩
      refine q_whenB (b := false) (et_B (K := K) (hT (Le.refl _) rfl)) (fun hb => nomatch hb) (fun _ H1 e1 => ?_)
      refine s_retD (K := K) (d := .bl true) (ed_eq (ed_andV (a := true) (b := true) (ed_eq (ed_eqS (d1 := .bl false) (d2 := .bl false) (hB e1 rfl) (hB e1 rfl) rfl rfl rfl) (congrArg D.bl (decide_eq_true rfl))) fun _ H2 e2 Q' q' => ?_) rfl) fun v H3 e3 r => q v _ H3 (e1.trans e3) rfl r
      exact ⟨_, rfl, _, rfl, .inr ⟨p, p, rfl, rfl, (e1.trans e2).dK hp, (e1.trans e2).dK hp, q' _ _ H2 (Le.refl _) rfl (.bl _)⟩⟩
    obtain ⟨v1, v2, rfl, r1, r2⟩ := rps2 r
    have no := hd.no
    have vsb : ∀ b : Bool, decide (vOf (.bl b) = vOf (.bl b)) = true := fun b => decide_eq_true rfl
    have hlen : ∀ {H1 : Hp} {σ : L2.St} {j : Nat} {v : V} {ds : List D}, (d = .tup ds ∨ d = .lst ds) → σ[j]? = some (some v) → Rp K H1 v d → ED K (tCB (fun xs H Q => ∃ p ys, xs = [.ref p] ∧ (SqL K H p ys ∨ SqT K H p ys) ∧ Q (.int ys.length) H) (tCons (tVar j) tNil)) σ H1 (.int (ds.length : Int)) := by
      intro H1 σ j v ds hd hs r
      rcases hd with rfl | rfl
      · exact ed_lenT (ed_var hs r)
      · exact ed_lenL (ed_var hs r)
    refine q_whenB (b := isSeq d) (et_B (K := K) (ed_isiT (ed_var rfl r2) no)) (fun hb H1 e1 => ?_) (fun hb H1 e1 => ?_)
    · obtain ⟨ds, hds, hz, hdp⟩ : ∃ ds, (d = .tup ds ∨ d = .lst ds) ∧ ds.length ≤ 50000 ∧ ∀ x ∈ ds, Dp n x := by
        cases d with
        | tup xs => exact ⟨xs, .inl rfl, hd.1, hd.2⟩
        | lst xs => exact ⟨xs, .inr rfl, hd.1, hd.2⟩
        | _ => cases hb
      refine q_no (b := false) (eb_eq (eb_or (a := false) (b := false) (eb_eq (et_test (K := K) (ed_neS (ed_isi (ed_var rfl (r1.le e1)) (noObj_ne no) (kd_tup no)) (ed_isi (ed_var rfl (r2.le e1)) (noObj_ne no) (kd_tup no)) rfl rfl rfl)) (by rw [vsb]; rfl)) fun _ => eb_eq (eb_not (et_B (K := K) (ed_isiT (ed_var rfl (r1.le e1)) no))) (by rw [hb]; rfl)) rfl) rfl fun H2 e2 => ?_
      refine s_retD (K := K) (d := .bl true) (ed_eq (ed_andV (a := true) (b := true) (ed_eq (ed_eqS (d1 := .int (ds.length : Int)) (d2 := .int (ds.length : Int)) (hlen hds rfl (r1.le (e1.trans e2))) (hlen hds rfl (r2.le (e1.trans e2))) rfl rfl rfl) (congrArg D.bl (decide_eq_true rfl))) fun _ => ed_eq (ed_all (bs := List.replicate ds.length true) (ed_lcZ hds (ea_cons (ed_var rfl (r1.le (e1.trans e2))) (ea_cons (ed_var rfl (r2.le (e1.trans e2))) ea_nil)) hz (fun _ _ => rfl) fun x v u H3 e3 hx rv ru => ed_call (ea_cons (ed_var rfl rv) (ea_cons (ed_var rfl ru) ea_nil)) fun H4 e4 => ⟨rfl, .inl ⟨x, rfl, hdp x hx⟩⟩)) ?_) rfl) fun v H3 e3 r => q v _ H3 ((e1.trans e2).trans e3) rfl r
      congr 1
      rw [List.all_eq_true]
      intro b hb2
      rw [List.eq_of_mem_replicate hb2]
      rfl
    · have hf : flat d = true := by cases d <;> first | rfl | cases hb
      have hs : scal (vOf d) (vOf d) = true := by cases d <;> first | rfl | exact absurd no Bool.false_ne_true | cases hb
      have kb := kd_bl no
      exact s_retD (K := K) (d := .bl true) (ed_eq (ed_andV (a := true) (b := true) (ed_eq (ed_eqS (ed_isi (ed_var rfl (r1.le e1)) (noObj_ne no) kb) (ed_isi (ed_var rfl (r2.le e1)) (noObj_ne no) kb) rfl rfl rfl) (congrArg D.bl (vsb _))) fun _ => ed_op (ed_var rfl (r1.le e1)) (ed_var rfl (r2.le e1)) fun x y H2 _ q1 q2 Q q => .inl ⟨by rw [rp_flat hf q1, rp_flat hf q2]; exact hs, by rw [rp_flat hf q1, rp_flat hf q2, decide_eq_true rfl]; exact q _ _ H2 (Le.refl _) rfl (.bl _)⟩) rfl) fun v H3 e3 r => q v _ H3 (e1.trans e3) rfl r
end
end W1

set_option maxRecDepth 100000
set_option maxHeartbeats 4000000
namespace W1
open PySem PyProof.Rows L2 RZ
local macro_rules | `(tactic| walk_at "rp") => `(tactic| first | assumption | exact Rp.int _ | exact Rp.bl _ | exact Rp.str _ | exact Rp.non | exact Rp.obj _ | (refine Rp.le (by assumption) ?_; walk_at "rp"))
local macro_rules | `(tactic| walk_at "ed") => `(tactic| first
  | exact ed_int | exact ed_str | exact ed_bl | exact ed_non
  | (refine ed_var rfl ?_; walk_at "rp")
  | (refine ed_ixT (ds := [_, _]) ?_ ed_int (by decide) rfl; walk_at "ed")
  | (refine ed_I0 ?_ ?_ <;> walk_at "ed")
  | (refine ed_B0 ?_ ?_ <;> walk_at "ed")
  | (refine ed_eqS ?_ ?_ rfl rfl rfl <;> walk_at "ed")
  | assumption)
local macro_rules | `(tactic| walk_at "ea") => `(tactic| first | exact ea_nil | (refine ea_cons ?_ ?_; walk_at "ed"; walk_at "ea"))

abbrev s__law_nested : Stmt := topS 27
abbrev N__law_nested : List Str := ["_law_hand_here", "_law_thing", "_law_turn"]
theorem sc__law_nested : FnScope N__law_nested ["_law_hand_here"] (defScope s__law_nested) := ⟨rfl, rfl, rfl, by decide +kernel, rfl, by decide +kernel, by decide +kernel⟩
theorem ep_any {K : PySem.W.Frag} {σ : L2.St} {H : Hp} {E : XK} {h : Addr} {ta : TA} {PX : List D → Prop} (hh : Hand H h) (ha : EA K ta σ H (fun ds _ => ∃ xs, ds = [.obj (.ref h), .lst xs] ∧ PX xs)) (hne : ∀ xs, PX xs → xs ≠ [] ∧ xs.length ≤ 100000) :
    EP K (tCall (spD K R_any) [] E ta) σ H (fun d _ => ∃ xs, PX xs ∧ d ∈ xs) :=
  ep_call ha fun ds H2 e ⟨xs, ed, px⟩ => ⟨fun d _ => d ∈ xs, ⟨h, xs, ed, hh.le e, (hne xs px).1, (hne xs px).2, rfl⟩, fun d H3 _ hd => ⟨xs, px, hd⟩⟩
section
variable {P : Program} {w : World} {K : PySem.W.Frag} {mg : Str → Option Value} {base : Heap}
def NT (d : D) : Prop := ∀ a b t, d ≠ .tup [a, b, .int t]
/-- what is nested -/
structure Ns (d : D) : Prop where
  nt : NT d
  it : ∀ xs, d = .tup xs → xs.length ≤ 1 ∧ ∀ x ∈ xs, NT x
theorem ns_not {d : D} (h : ∀ xs, d ≠ .tup xs) : Ns d := ⟨fun _ _ _ => h _, fun xs e => absurd e (h xs)⟩
theorem ns_one {d : D} (h : NT d) : Ns (.tup [d]) := ⟨fun _ _ _ e => (nomatch e), fun xs e => by
  injection e with e
  subst e
  exact ⟨Nat.le_refl _, fun x hx => by rw [List.mem_singleton.mp hx]; exact h⟩⟩
def R_nested : List D → Hp → Pd → Prop := fun ds H P => ∃ h : Addr, ds = [.obj (.ref h)] ∧ Hand H h ∧ P = fun d H2 => Th H2 d ∧ Ns d
theorem ok_nested (T : STxt mg) (g : GDef K mg "_law_nested" s__law_nested ["_law_hand_here"]) (G_law_any : Def P w K mg base 2 "_law_any" ["_law_hand_here", "_law_items"] (spD K R_any)) : Def P w K mg base 3 "_law_nested" ["_law_hand_here"] (spD K R_nested) := by
  refine defD g sc__law_nested (fun ds H Pd h => ?_) fun cdv A outer s f H vs ds Pd Q E hr r h q => ?_
  · obtain ⟨h, rfl, _⟩ := h
    rfl
  obtain ⟨h, rfl, hh, rfl⟩ := h
  obtain ⟨v1, rfl, r1⟩ := rps1 r
  have ev := rp_obj r1
  subst ev
  refine ⟨_, (pss_cons (ps_set (i := 1) sc__law_nested.nd rfl (Or.inl rfl) (pe_def G_law_any (hr.mono (by decide)) (pa_cons (pv 0) (pa_cons (pe_lst (pa_cons (pe_tup pa_nil) (pa_cons pe_int (pa_cons pe_str (pa_cons pe_non pa_nil))))) pa_nil))))
    (pss_cons (ps_for PassesOwn.never rfl (pi_range1 (by rfl) T.n_range (pa_cons pe_int pa_nil)) (pg_name (i := 2) sc__law_nested.nd rfl (Or.inl rfl))
      (pss_one (ps_set (i := 1) sc__law_nested.nd rfl (Or.inl rfl) (pe_ifExp (pt_cmpR op_eq (pe_op op_mod (pe_callTy call_int1 (by rfl) T.n_int boot_int (pa_cons (pv 2) pa_nil)) pe_int) pe_int (nomark _)) (pe_lst (pa_cons (pv 1) pa_nil)) (pe_tup (pa_cons (pv 1) pa_nil))))))
    (pss_one (ps_ret (pv 1))))), ?_⟩
  refine q_asg (K := K) (ep_any (K := K) (PX := fun xs => xs = [.tup [], .int 0, .str "a", .non]) hh (EA_weak (ea_cons (ed_var rfl (.obj (.ref h))) (ea_cons (ed_lst (ea_cons (ed_tup ea_nil (by decide)) (ea_cons ed_int (ea_cons ed_str (ea_cons ed_non ea_nil)))) (by show 4 ≤ 100000; decide) rfl) ea_nil)) fun ds H2 p => ⟨_, p, rfl⟩) fun xs hx => by rw [hx]; exact ⟨(fun h => nomatch h), by show 4 ≤ 100000; decide⟩) fun v d H1 e1 p r2 => ?_
  have hd : ∀ H', Th H' d ∧ Ns d := by
    obtain ⟨xs, rfl, hm⟩ := p
    simp only [List.mem_cons, List.not_mem_nil, or_false] at hm
    intro H'
    rcases hm with rfl | rfl | rfl | rfl
    · exact ⟨.tup (Nat.zero_le _) fun x hx => (nomatch hx), ⟨fun _ _ _ e => (nomatch e), fun xs e => by injection e with e; subst e; exact ⟨Nat.zero_le _, fun x hx => nomatch hx⟩⟩⟩
    · exact ⟨.sc rfl, ns_not fun _ e => nomatch e⟩
    · exact ⟨.sc rfl, ns_not fun _ e => nomatch e⟩
    · exact ⟨.sc rfl, ns_not fun _ e => nomatch e⟩
  refine q_forR1 (K := K) (n := 36) (ea_cons ed_int ea_nil) (by omega) fun H2 e2 => ?_
  refine ⟨fun i σ H' => ∃ v y d, σ = [some (.ref h), some v, y] ∧ Le H H' ∧ Rp K H' v d ∧ Th H' d ∧ Ns d, ⟨v, none, d, rfl, e1.trans e2, r2.le e2, hd _⟩, ?_, ?_⟩
  · rintro i σ' H3 hi ⟨v, y, d, rfl, e, r2, hd, hs⟩
    refine s_asg (K := K) (P := fun d' H4 => Th H4 d' ∧ Ns d') (ep_if (et_test (K := K) (ed_eqS (d2 := .int 4) (ed_I (f := fun i j => i % j) (ed_int1 (ed_var rfl (.int (i : Int)))) ed_int (by show (0 : Int) < 5; decide)) ed_int rfl rfl rfl)) (fun _ => ?_) fun _ => ?_) fun v' d' H4 e4 p r => ⟨v', _, d', rfl, e.trans e4, r, p⟩
    · refine EP.weak (ep_lstO (P := fun ds _ => ds = [d]) (ea_cons (ed_var rfl r2) ea_nil) (fun ds H4 p => by rw [p]; show 1 ≤ 100000; decide)) fun d' H4 _ p => ?_
      obtain ⟨u, rfl, ho⟩ := p
      exact ⟨.ob ho, ns_not fun _ e => nomatch e⟩
    · refine EP.weak (ed_tup (ea_cons (ed_var rfl r2) ea_nil) (by show 1 ≤ 100000; decide)) fun d' H4 e4 p => ?_
      have p' : d' = .tup [d] := p
      subst p'
      exact ⟨.tup (by show 1 ≤ 50000; decide) fun x hx => by rw [List.mem_singleton.mp hx]; exact hd.le e4, ns_one hs.nt⟩
  · rintro σ' H3 ⟨v, y, d, rfl, e, r2, hd, hs⟩
    exact s_ret (K := K) (P := fun d' H4 => Th H4 d' ∧ Ns d') (EP.weak (ed_var rfl r2) fun d' H4 e4 p => by
      have p' : d' = d := p
      subst p'
      exact ⟨hd.le e4, hs⟩) fun v' d' H4 e4 p r => q v' d' H4 (e.trans e4) p r
end
end W1

set_option maxRecDepth 100000
set_option maxHeartbeats 4000000
namespace W1
open PySem PyProof.Rows L2
/-! ### a search by breadth, in numbers -/
def adj (ties : List (Int × Int)) (x y : Nat) : Prop := (y : Int) ∈ rawNear ties (x : Int)
theorem adj_iff {ties : List (Int × Int)} {x y : Nat} : adj ties x y ↔ ((x : Int), (y : Int)) ∈ ties ∨ ((y : Int), (x : Int)) ∈ ties := by
  unfold adj rawNear
  constructor
  · intro h
    obtain ⟨p, hp, e⟩ := List.mem_map.mp h
    obtain ⟨h1, h2⟩ := List.mem_filter.mp hp
    have h3 := of_decide_eq_true h2
    obtain ⟨p1, p2⟩ := p
    dsimp only at e h3
    simp only [List.mem_cons, List.not_mem_nil, or_false] at h3
    rcases h3 with h3 | h3
    · left
      have e2 : p2 = (y : Int) := by omega
      rw [h3, ← e2]
      exact h1
    · right
      have e2 : p1 = (y : Int) := by omega
      rw [h3, ← e2]
      exact h1
  · rintro (h | h)
    · exact List.mem_map.mpr ⟨_, List.mem_filter.mpr ⟨h, decide_eq_true (List.mem_cons_self ..)⟩, by dsimp only; omega⟩
    · exact List.mem_map.mpr ⟨_, List.mem_filter.mpr ⟨h, decide_eq_true (List.mem_cons_of_mem _ (List.mem_cons_self ..))⟩, by dsimp only; omega⟩
theorem adj_symm {ties : List (Int × Int)} {x y : Nat} (h : adj ties x y) : adj ties y x := adj_iff.mpr ((adj_iff.mp h).symm)
theorem adj_ok {ms : List Int} {ties : List (Int × Int)} (ok : PartsOk ms ties) {x y : Nat} (h : adj ties x y) : x < ms.length ∧ y < ms.length ∧ x ≠ y := by
  rcases adj_iff.mp h with h | h
  · have := ok.tie h
    dsimp only at this
    omega
  · have := ok.tie h
    dsimp only at this
    omega
def oAt (l : List (Option Nat)) (x : Nat) : Option Nat := (l[x]?).getD none
def dv (l : List (Option Nat)) (x : Nat) : Nat := (oAt l x).getD 0
theorem oAt_set {l : List (Option Nat)} {x y : Nat} {v : Option Nat} (h : x < l.length) : oAt (l.set x v) y = if y = x then v else oAt l y := by
  unfold oAt
  by_cases e : y = x
  · subst e
    rw [if_pos rfl, List.getElem?_set_self h]
    rfl
  · rw [if_neg e, List.getElem?_set_ne (Ne.symm e)]
theorem oAt_get {l : List (Option Nat)} {x : Nat} (h : x < l.length) : l[x]? = some (oAt l x) := by
  unfold oAt
  rw [List.getElem?_eq_getElem h]
  rfl
theorem oAt_lt {l : List (Option Nat)} {x : Nat} (h : oAt l x ≠ none) : x < l.length := by
  unfold oAt at h
  rcases Nat.lt_or_ge x l.length with hl | hl
  · exact hl
  · rw [List.getElem?_eq_none hl] at h
    exact absurd rfl h
theorem dv_of {l : List (Option Nat)} {x : Nat} (h : oAt l x ≠ none) : oAt l x = some (dv l x) := by
  unfold dv
  cases hx : oAt l x with
  | none => exact absurd hx h
  | some d => rfl
/-- behind the roots below r: what is reached lies in trees; rt names each one's root -/
structure Bfs (ties : List (Int × Int)) (n : Nat) (dl pl : List (Option Nat)) (rt : Nat → Nat) (r : Nat) : Prop where
  lenD : dl.length = n
  lenP : pl.length = n
  all : ∀ x, x < r → x < n → oAt dl x ≠ none
  clo : ∀ x y, oAt dl x ≠ none → adj ties x y → oAt dl y ≠ none ∧ dv dl y ≤ dv dl x + 1 ∧ rt y = rt x
  par : ∀ x, oAt dl x ≠ none → (oAt pl x = none ∧ dv dl x = 0 ∧ rt x = x) ∨ ∃ p, oAt pl x = some p ∧ oAt dl p ≠ none ∧ dv dl x = dv dl p + 1 ∧ adj ties p x ∧ rt x = rt p
  unp : ∀ x, oAt dl x = none → oAt pl x = none
  low : ∀ x, oAt dl x ≠ none → rt x ≤ x
structure Grow (ties : List (Int × Int)) (n : Nat) (dl0 pl0 : List (Option Nat)) (r : Nat) (q : List Nat) (k : Nat) (dl pl : List (Option Nat)) : Prop where
  lenD : dl.length = n
  lenP : pl.length = n
  rq : r ∈ q
  nd : q.Nodup
  old : ∀ x, oAt dl0 x ≠ none → oAt dl x = oAt dl0 x ∧ oAt pl x = oAt pl0 x
  new : ∀ x, oAt dl0 x = none → (x ∈ q ↔ oAt dl x ≠ none)
  qn : ∀ x ∈ q, oAt dl0 x = none ∧ x < n
  unp : ∀ x, oAt dl x = none → oAt pl x = none
  mono : ∀ i j a b : Nat, i ≤ j → q[i]? = some a → q[j]? = some b → dv dl a ≤ dv dl b
  near : ∀ j a b : Nat, q[k]? = some a → q[j]? = some b → dv dl b ≤ dv dl a + 1
  par : ∀ x ∈ q, (x = r ∧ oAt pl x = none ∧ dv dl x = 0) ∨ ∃ p ∈ q, oAt pl x = some p ∧ adj ties p x ∧ dv dl x = dv dl p + 1
  done : ∀ i a : Nat, i < k → q[i]? = some a → ∀ y, adj ties a y → oAt dl y ≠ none ∧ dv dl y ≤ dv dl a + 1
section
variable {ms : List Int} {ties : List (Int × Int)} {dl0 pl0 dl pl : List (Option Nat)} {rt : Nat → Nat} {r k : Nat} {q : List Nat}
theorem nodup_len : ∀ {a L : List Nat}, a.Nodup → (∀ x ∈ a, x ∈ L) → a.length ≤ L.length
  | [], _, _, _ => Nat.zero_le _
  | x :: a, L, h, hs => by
    obtain ⟨h1, h2⟩ := List.nodup_cons.mp h
    have hx : x ∈ L := hs x (List.mem_cons_self ..)
    have ih := nodup_len (L := L.erase x) h2 fun y hy => (List.mem_erase_of_ne (fun e : y = x => h1 (by rw [← e]; exact hy))).mpr (hs y (List.mem_cons_of_mem _ hy))
    rw [List.length_erase_of_mem hx] at ih
    have : 0 < L.length := List.length_pos_of_mem hx
    rw [List.length_cons]
    omega
theorem Grow.few (g : Grow ties ms.length dl0 pl0 r q k dl pl) : q.length ≤ ms.length := by
  have := nodup_len (L := List.range ms.length) g.nd fun x hx => List.mem_range.mpr (g.qn x hx).2
  rw [List.length_range] at this
  exact this
theorem grow_start (B : Bfs ties ms.length dl0 pl0 rt r) (hr : r < ms.length) (h0 : oAt dl0 r = none) : Grow ties ms.length dl0 pl0 r [r] 0 (dl0.set r (some 0)) pl0 := by
  have hl : r < dl0.length := by rw [B.lenD]; exact hr
  have hs : ∀ x, oAt (dl0.set r (some 0)) x = if x = r then some 0 else oAt dl0 x := fun x => oAt_set hl
  have one : ∀ {i a}, ([r] : List Nat)[i]? = some a → a = r := fun {i a} h => List.mem_singleton.mp (List.mem_of_getElem? h)
  have dr : dv (dl0.set r (some 0)) r = 0 := by
    unfold dv
    rw [hs, if_pos rfl]
    rfl
  refine ⟨by rw [List.length_set, B.lenD], B.lenP, List.mem_cons_self .., List.nodup_cons.mpr ⟨(fun h => nomatch h), List.nodup_nil⟩, fun x hx => ⟨?_, rfl⟩, fun x hx => ?_, fun x hx => ?_, fun x hx => ?_, fun i j a b _ ha hb => ?_, fun j a b ha hb => ?_, fun x hx => ?_, fun i a hi => absurd hi (Nat.not_lt_zero _)⟩
  · rw [hs, if_neg]
    intro e
    rw [e] at hx
    exact hx h0
  · rw [hs]
    by_cases e : x = r
    · rw [if_pos e]
      exact ⟨fun _ h => (nomatch h), fun _ => by rw [e]; exact List.mem_cons_self ..⟩
    · rw [if_neg e]
      exact ⟨fun h => absurd (List.mem_singleton.mp h) e, fun h => absurd hx h⟩
  · rw [List.mem_singleton.mp hx]
    exact ⟨h0, hr⟩
  · rw [hs] at hx
    by_cases e : x = r
    · rw [if_pos e] at hx
      cases hx
    · rw [if_neg e] at hx
      exact B.unp x hx
  · rw [one ha, one hb]
    exact Nat.le_refl _
  · rw [one ha, one hb]
    omega
  · rw [List.mem_singleton.mp hx]
    exact .inl ⟨rfl, B.unp r h0, dr⟩
/-- a tied room, looked at: reached already -/
theorem Grow.seen (ok : PartsOk ms ties) (B : Bfs ties ms.length dl0 pl0 rt r) (g : Grow ties ms.length dl0 pl0 r q k dl pl) {a y : Nat} (ha : q[k]? = some a) (hy : adj ties a y) (h : oAt dl y ≠ none) : dv dl y ≤ dv dl a + 1 := by
  have hq : y ∈ q := by
    have hn : oAt dl0 y = none := by
      cases e : oAt dl0 y with
      | none => rfl
      | some d =>
        have h1 := (B.clo y a (by rw [e]; exact fun h => nomatch h) (adj_symm hy)).1
        exact absurd (g.qn a (List.mem_of_getElem? ha)).1 h1
    exact (g.new y hn).mpr h
  obtain ⟨j, hj⟩ := List.mem_iff_getElem?.mp hq
  exact g.near j a y ha hj
/-- .. reached now -/
theorem Grow.visit (ok : PartsOk ms ties) (B : Bfs ties ms.length dl0 pl0 rt r) (g : Grow ties ms.length dl0 pl0 r q k dl pl) {a y : Nat} (ha : q[k]? = some a) (hy : adj ties a y) (h : oAt dl y = none) :
    Grow ties ms.length dl0 pl0 r (q ++ [y]) k (dl.set y (some (dv dl a + 1))) (pl.set y (some a)) := by
  obtain ⟨_, yn, ne⟩ := adj_ok ok hy
  have hD : y < dl.length := by rw [g.lenD]; exact yn
  have hP : y < pl.length := by rw [g.lenP]; exact yn
  have sD : ∀ x, oAt (dl.set y (some (dv dl a + 1))) x = if x = y then some (dv dl a + 1) else oAt dl x := fun x => oAt_set hD
  have sP : ∀ x, oAt (pl.set y (some a)) x = if x = y then some a else oAt pl x := fun x => oAt_set hP
  have n0 : oAt dl0 y = none := by
    cases e : oAt dl0 y with
    | none => rfl
    | some d =>
      have h1 := (g.old y (by rw [e]; exact fun h => nomatch h)).1
      rw [h, e] at h1
      cases h1
  have yq : y ∉ q := fun hq => (g.new y n0).mp hq h
  have vD : ∀ x, x ≠ y → dv (dl.set y (some (dv dl a + 1))) x = dv dl x := fun x hx => by
    show (oAt (dl.set y (some (dv dl a + 1))) x).getD 0 = (oAt dl x).getD 0
    rw [sD, if_neg hx]
  have vY : dv (dl.set y (some (dv dl a + 1))) y = dv dl a + 1 := by
    show (oAt (dl.set y (some (dv dl a + 1))) y).getD 0 = _
    rw [sD, if_pos rfl]
    rfl
  have qy : ∀ x ∈ q, x ≠ y := fun x hx e => yq (e ▸ hx)
  have at' : ∀ {i x}, (q ++ [y])[i]? = some x → (i < q.length ∧ q[i]? = some x) ∨ (i = q.length ∧ x = y) := fun {i x} hx => by
    rcases Nat.lt_or_ge i q.length with hi | hi
    · rw [List.getElem?_append_left hi] at hx
      exact .inl ⟨hi, hx⟩
    · have hl := (List.getElem?_eq_some_iff.mp hx).1
      rw [List.length_append, List.length_singleton] at hl
      have e : i = q.length := by omega
      subst e
      rw [List.getElem?_append_right (Nat.le_refl _), Nat.sub_self] at hx
      exact .inr ⟨rfl, (Option.some.inj hx).symm⟩
  have kl : k < q.length := (List.getElem?_eq_some_iff.mp ha).1
  have aq : a ∈ q := List.mem_of_getElem? ha
  have va := vD a (qy a aq)
  refine ⟨by rw [List.length_set, g.lenD], by rw [List.length_set, g.lenP], List.mem_append_left _ g.rq, ?_, fun x hx => ?_, fun x hx => ?_, fun x hx => ?_, fun x hx => ?_, fun i j b c hij hb hc => ?_, fun j b c hb hc => ?_, fun x hx => ?_, fun i b hi hb z hz => ?_⟩
  · exact List.nodup_append.mpr ⟨g.nd, List.nodup_cons.mpr ⟨(fun h => nomatch h), List.nodup_nil⟩, fun b hb c hc => by rw [List.mem_singleton.mp hc]; exact qy b hb⟩
  · have hne : x ≠ y := fun e => by rw [e] at hx; exact hx n0
    rw [sD, sP, if_neg hne, if_neg hne]
    exact g.old x hx
  · rw [sD]
    by_cases e : x = y
    · rw [if_pos e, e]
      exact ⟨fun _ h => (nomatch h), fun _ => List.mem_append_right _ (List.mem_cons_self ..)⟩
    · rw [if_neg e, List.mem_append]
      exact ⟨fun h => by
        rcases h with h | h
        · exact (g.new x hx).mp h
        · exact absurd (List.mem_singleton.mp h) e, fun h => .inl ((g.new x hx).mpr h)⟩
  · rcases List.mem_append.mp hx with hx | hx
    · exact g.qn x hx
    · rw [List.mem_singleton.mp hx]
      exact ⟨n0, yn⟩
  · rw [sD] at hx
    by_cases e : x = y
    · rw [if_pos e] at hx
      cases hx
    · rw [if_neg e] at hx
      rw [sP, if_neg e]
      exact g.unp x hx
  · rcases at' hb with ⟨hi, hb'⟩ | ⟨hi, hb'⟩
    · rw [vD b (qy b (List.mem_of_getElem? hb'))]
      rcases at' hc with ⟨hj, hc'⟩ | ⟨hj, hc'⟩
      · rw [vD c (qy c (List.mem_of_getElem? hc'))]
        exact g.mono i j b c hij hb' hc'
      · rw [hc', vY]
        exact g.near i a b ha hb'
    · rcases at' hc with ⟨hj, hc'⟩ | ⟨hj, hc'⟩
      · omega
      · rw [hb', hc']
        exact Nat.le_refl _
  · rcases at' hb with ⟨hi, hb'⟩ | ⟨hi, hb'⟩
    · have e := Option.some.inj (ha.symm.trans hb')
      subst e
      rw [va]
      rcases at' hc with ⟨hj, hc'⟩ | ⟨hj, hc'⟩
      · rw [vD c (qy c (List.mem_of_getElem? hc'))]
        exact g.near j a c ha hc'
      · rw [hc', vY]
        exact Nat.le_refl _
    · omega
  · rcases List.mem_append.mp hx with hx | hx
    · rw [sP, if_neg (qy x hx), vD x (qy x hx)]
      rcases g.par x hx with h1 | ⟨p, hp, h1, h2, h3⟩
      · exact .inl h1
      · refine .inr ⟨p, List.mem_append_left _ hp, h1, h2, ?_⟩
        rw [vD p (qy p hp)]
        exact h3
    · have e := List.mem_singleton.mp hx
      subst e
      refine .inr ⟨a, List.mem_append_left _ aq, ?_, hy, ?_⟩
      · rw [sP, if_pos rfl]
      · rw [vY, va]
  · rcases at' hb with ⟨hi2, hb⟩ | ⟨hi2, rfl⟩
    · obtain ⟨h1, h2⟩ := g.done i b hi hb z hz
      have hz' : z ≠ y := fun e => h1 (e ▸ h)
      rw [sD, if_neg hz', vD z hz', vD b (qy b (List.mem_of_getElem? hb))]
      exact ⟨h1, h2⟩
    · omega
theorem Grow.next (g : Grow ties ms.length dl0 pl0 r q k dl pl) {a : Nat} (ha : q[k]? = some a) (h : ∀ y, adj ties a y → oAt dl y ≠ none ∧ dv dl y ≤ dv dl a + 1) : Grow ties ms.length dl0 pl0 r q (k + 1) dl pl := by
  refine ⟨g.lenD, g.lenP, g.rq, g.nd, g.old, g.new, g.qn, g.unp, g.mono, fun j b c hb hc => ?_, g.par, fun i b hi hb => ?_⟩
  · have h1 := g.near j a c ha hc
    have h2 := g.mono k (k + 1) a b (Nat.le_succ k) ha hb
    omega
  · rcases Nat.lt_succ_iff_lt_or_eq.mp hi with h1 | h1
    · exact g.done i b h1 hb
    · rw [h1, ha] at hb
      have e := Option.some.inj hb
      subst e
      exact h
theorem Grow.end (B : Bfs ties ms.length dl0 pl0 rt r) (g : Grow ties ms.length dl0 pl0 r q q.length dl pl) : Bfs ties ms.length dl pl (fun x => if x ∈ q then r else rt x) (r + 1) := by
  have hq : ∀ x, oAt dl x ≠ none → oAt dl0 x = none → x ∈ q := fun x h h0 => (g.new x h0).mpr h
  have dq : ∀ x ∈ q, oAt dl x ≠ none := fun x hx => (g.new x (g.qn x hx).1).mp hx
  have nq : ∀ x, oAt dl0 x ≠ none → x ∉ q := fun x h hx => h (g.qn x hx).1
  have vo : ∀ x, oAt dl0 x ≠ none → dv dl x = dv dl0 x := fun x hx => by
    unfold dv
    rw [(g.old x hx).1]
  refine ⟨g.lenD, g.lenP, fun x hx hn => ?_, fun x y hx hy => ?_, fun x hx => ?_, g.unp, fun x hx => ?_⟩
  · by_cases h : x ∈ q
    · exact dq x h
    · rcases Nat.lt_succ_iff_lt_or_eq.mp hx with h1 | h1
      · have h2 := B.all x h1 hn
        rw [(g.old x h2).1]
        exact h2
      · exact absurd (h1 ▸ g.rq) h
  · by_cases h : x ∈ q
    · obtain ⟨i, hi⟩ := List.mem_iff_getElem?.mp h
      obtain ⟨h1, h2⟩ := g.done i x (List.getElem?_eq_some_iff.mp hi).1 hi y hy
      have hy0 : oAt dl0 y = none := by
        cases e : oAt dl0 y with
        | none => rfl
        | some d =>
          have h3 := (B.clo y x (by rw [e]; exact fun h => nomatch h) (adj_symm hy)).1
          exact absurd (g.qn x h).1 h3
      refine ⟨h1, h2, ?_⟩
      show (if y ∈ q then r else rt y) = if x ∈ q then r else rt x
      rw [if_pos h, if_pos (hq y h1 hy0)]
    · have h0 : oAt dl0 x ≠ none := fun e => h (hq x hx e)
      obtain ⟨h1, h2, h3⟩ := B.clo x y h0 hy
      rw [(g.old y h1).1, vo x h0, vo y h1]
      refine ⟨h1, h2, ?_⟩
      show (if y ∈ q then r else rt y) = if x ∈ q then r else rt x
      rw [if_neg h, if_neg (nq y h1)]
      exact h3
  · by_cases h : x ∈ q
    · rcases g.par x h with ⟨rfl, h1, h2⟩ | ⟨p, hp, h1, h2, h3⟩
      · refine .inl ⟨h1, h2, ?_⟩
        show (if x ∈ q then x else rt x) = x
        rw [if_pos h]
      · refine .inr ⟨p, h1, dq p hp, h3, h2, ?_⟩
        show (if x ∈ q then r else rt x) = if p ∈ q then r else rt p
        rw [if_pos h, if_pos hp]
    · have h0 : oAt dl0 x ≠ none := fun e => h (hq x hx e)
      rw [(g.old x h0).2, vo x h0]
      rcases B.par x h0 with ⟨h1, h2, h3⟩ | ⟨p, h1, h2, h3, h4, h5⟩
      · refine .inl ⟨h1, h2, ?_⟩
        show (if x ∈ q then r else rt x) = x
        rw [if_neg h]
        exact h3
      · refine .inr ⟨p, h1, ?_, ?_, h4, ?_⟩
        · rw [(g.old p h2).1]
          exact h2
        · rw [vo p h2]
          exact h3
        · show (if x ∈ q then r else rt x) = if p ∈ q then r else rt p
          rw [if_neg h, if_neg (nq p h2)]
          exact h5
  · show (if x ∈ q then r else rt x) ≤ x
    by_cases h : x ∈ q
    · rw [if_pos h]
      rcases Nat.lt_or_ge x r with h1 | h1
      · exact absurd (g.qn x h).1 (B.all x h1 (g.qn x h).2)
      · exact h1
    · rw [if_neg h]
      exact B.low x fun e => h (hq x hx e)
theorem Bfs.skip (B : Bfs ties ms.length dl pl rt r) (h : oAt dl r ≠ none) : Bfs ties ms.length dl pl rt (r + 1) :=
  ⟨B.lenD, B.lenP, fun x hx hn => by
    rcases Nat.lt_succ_iff_lt_or_eq.mp hx with h1 | h1
    · exact B.all x h1 hn
    · rw [h1]
      exact h, B.clo, B.par, B.unp, B.low⟩
theorem oAt_rep (n x : Nat) : oAt (List.replicate n none) x = none := by
  unfold oAt
  rw [List.getElem?_replicate]
  split <;> rfl
theorem bfs_start (n : Nat) : Bfs ties n (List.replicate n none) (List.replicate n none) (fun x => x) 0 :=
  ⟨List.length_replicate, List.length_replicate, fun x hx => absurd hx (Nat.not_lt_zero _), fun x y h => absurd (oAt_rep n x) h, fun x h => absurd (oAt_rep n x) h, fun x _ => oAt_rep n x, fun x h => absurd (oAt_rep n x) h⟩
end
end W1

set_option maxRecDepth 100000
set_option maxHeartbeats 4000000
namespace W1
open PySem PyProof.Rows L2
/-! ### the search, step by step -/
structure S3 where
  q : List Nat
  dl : List (Option Nat)
  pl : List (Option Nat)
def visit (a : Nat) (s : S3) (y : Nat) : S3 := if oAt s.dl y = none then ⟨s.q ++ [y], s.dl.set y (some (dv s.dl a + 1)), s.pl.set y (some a)⟩ else s
def nbrs (ties : List (Int × Int)) (a : Nat) : List Nat := (rawNear ties (a : Int)).map Int.toNat
def roomS (ties : List (Int × Int)) (s : S3) (k : Nat) : S3 := match s.q[k]? with
  | none => s
  | some a => (nbrs ties a).foldl (visit a) s
def growS (ties : List (Int × Int)) (s0 : S3) : Nat → S3
  | 0 => s0
  | k + 1 => roomS ties (growS ties s0 k) k
def begS (dl pl : List (Option Nat)) (r : Nat) : S3 := ⟨[r], dl.set r (some 0), pl⟩
def treeS (ties : List (Int × Int)) (n : Nat) (st : List (Option Nat) × List (Option Nat)) (r : Nat) : List (Option Nat) × List (Option Nat) :=
  if oAt st.1 r = none then ((growS ties (begS st.1 st.2 r) n).dl, (growS ties (begS st.1 st.2 r) n).pl) else st
def searchS (ties : List (Int × Int)) (n : Nat) : Nat → List (Option Nat) × List (Option Nat)
  | 0 => (List.replicate n none, List.replicate n none)
  | r + 1 => treeS ties n (searchS ties n r) r
section
variable {ms : List Int} {ties : List (Int × Int)} {dl0 pl0 dl pl : List (Option Nat)} {rt : Nat → Nat} {r k : Nat} {q : List Nat}
theorem near_nat (ok : PartsOk ms ties) {a : Nat} (ha : a < ms.length) : ∀ z ∈ rawNear ties (a : Int), 0 ≤ z ∧ z < ms.length := fun z hz => by
  obtain ⟨p, hp, rfl⟩ := List.mem_map.mp hz
  obtain ⟨h1, h2⟩ := List.mem_filter.mp hp
  have h3 := ok.tie h1
  have h4 := of_decide_eq_true h2
  simp only [List.mem_cons, List.not_mem_nil, or_false] at h4
  omega
theorem nbrs_adj (ok : PartsOk ms ties) {a y : Nat} (ha : a < ms.length) : y ∈ nbrs ties a ↔ adj ties a y := by
  unfold nbrs adj
  constructor
  · intro h
    obtain ⟨z, hz, rfl⟩ := List.mem_map.mp h
    have := near_nat ok ha z hz
    have e : ((z.toNat : Nat) : Int) = z := by omega
    rw [e]
    exact hz
  · intro h
    exact List.mem_map.mpr ⟨_, h, by omega⟩
/-- what a row of tied rooms, looked at, leaves -/
structure Fold (ties : List (Int × Int)) (n : Nat) (dl0 pl0 : List (Option Nat)) (r k a : Nat) (ys : List Nat) (s s' : S3) : Prop where
  g : Grow ties n dl0 pl0 r s'.q k s'.dl s'.pl
  at_ : s'.q[k]? = some a
  va : dv s'.dl a = dv s.dl a
  keep : ∀ y, oAt s.dl y ≠ none → oAt s'.dl y = oAt s.dl y
  seen : ∀ y ∈ ys, oAt s'.dl y ≠ none ∧ dv s'.dl y ≤ dv s'.dl a + 1
theorem fold_ok (ok : PartsOk ms ties) (B : Bfs ties ms.length dl0 pl0 rt r) {a : Nat} : ∀ (ys : List Nat) (s : S3), Grow ties ms.length dl0 pl0 r s.q k s.dl s.pl → s.q[k]? = some a → (∀ y ∈ ys, adj ties a y) → Fold ties ms.length dl0 pl0 r k a ys s (ys.foldl (visit a) s)
  | [], s, g, ha, _ => ⟨g, ha, rfl, fun _ _ => rfl, fun y hy => nomatch hy⟩
  | y :: ys, s, g, ha, hy => by
    have hya := hy y (List.mem_cons_self ..)
    have kl : k < s.q.length := (List.getElem?_eq_some_iff.mp ha).1
    have aq : a ∈ s.q := List.mem_of_getElem? ha
    have anz : oAt s.dl a ≠ none := (g.new a (g.qn a aq).1).mp aq
    have yn : y < s.dl.length := by
      rw [g.lenD]
      exact (adj_ok ok hya).2.1
    have h1 : Fold ties ms.length dl0 pl0 r k a [y] s (visit a s y) := by
      unfold visit
      by_cases h : oAt s.dl y = none
      · rw [if_pos h]
        have ne : a ≠ y := (adj_ok ok hya).2.2
        have sD : ∀ x, oAt (s.dl.set y (some (dv s.dl a + 1))) x = if x = y then some (dv s.dl a + 1) else oAt s.dl x := fun x => oAt_set yn
        have va : dv (s.dl.set y (some (dv s.dl a + 1))) a = dv s.dl a := by
          show (oAt (s.dl.set y (some (dv s.dl a + 1))) a).getD 0 = (oAt s.dl a).getD 0
          rw [sD, if_neg ne]
        refine ⟨g.visit ok B ha hya h, ?_, va, fun z hz => ?_, fun z hz => ?_⟩
        · show (s.q ++ [y])[k]? = some a
          rw [List.getElem?_append_left kl]
          exact ha
        · have hz' : z ≠ y := fun e => hz (e ▸ h)
          show oAt (s.dl.set y (some (dv s.dl a + 1))) z = _
          rw [sD, if_neg hz']
        · rw [List.mem_singleton.mp hz]
          refine ⟨?_, ?_⟩
          · show oAt (s.dl.set y (some (dv s.dl a + 1))) y ≠ none
            rw [sD, if_pos rfl]
            exact fun h => nomatch h
          · show (oAt (s.dl.set y (some (dv s.dl a + 1))) y).getD 0 ≤ dv (s.dl.set y (some (dv s.dl a + 1))) a + 1
            rw [sD, if_pos rfl, va]
            exact Nat.le_refl _
      · rw [if_neg h]
        exact ⟨g, ha, rfl, fun _ _ => rfl, fun z hz => by rw [List.mem_singleton.mp hz]; exact ⟨h, g.seen ok B ha hya h⟩⟩
    have h2 := fold_ok ok B (a := a) ys (visit a s y) h1.g h1.at_ fun z hz => hy z (List.mem_cons_of_mem _ hz)
    refine ⟨h2.g, h2.at_, h2.va.trans h1.va, fun z hz => ?_, fun z hz => ?_⟩
    · have e1 := h1.keep z hz
      exact (h2.keep z (by rw [e1]; exact hz)).trans e1
    · rcases List.mem_cons.mp hz with rfl | hz
      · obtain ⟨h3, h4⟩ := h1.seen z (List.mem_cons_self ..)
        have e1 := h2.keep z h3
        refine ⟨?_, ?_⟩
        · show oAt (ys.foldl (visit a) (visit a s z)).dl z ≠ none
          rw [e1]
          exact h3
        · show (oAt (ys.foldl (visit a) (visit a s z)).dl z).getD 0 ≤ dv (ys.foldl (visit a) (visit a s z)).dl a + 1
          rw [e1, h2.va]
          exact h4
      · exact h2.seen z hz
theorem grow_len (ties : List (Int × Int)) (s0 : S3) (k : Nat) : (growS ties s0 k).q.length ≤ (growS ties s0 (k + 1)).q.length := by
  show _ ≤ (roomS ties (growS ties s0 k) k).q.length
  unfold roomS
  split
  · exact Nat.le_refl _
  · rename_i a _
    have : ∀ (ys : List Nat) (s : S3), s.q.length ≤ (ys.foldl (visit a) s).q.length := by
      intro ys
      induction ys with
      | nil => exact fun s => Nat.le_refl _
      | cons y ys ih =>
        intro s
        refine Nat.le_trans ?_ (ih (visit a s y))
        unfold visit
        split
        · show s.q.length ≤ (s.q ++ [y]).length
          rw [List.length_append]
          omega
        · exact Nat.le_refl _
    exact this _ _
theorem grow_ok (ok : PartsOk ms ties) (B : Bfs ties ms.length dl0 pl0 rt r) (hr : r < ms.length) (h0 : oAt dl0 r = none) : ∀ k : Nat, Grow ties ms.length dl0 pl0 r (growS ties (begS dl0 pl0 r) k).q (min k (growS ties (begS dl0 pl0 r) k).q.length) (growS ties (begS dl0 pl0 r) k).dl (growS ties (begS dl0 pl0 r) k).pl
  | 0 => by
    rw [Nat.zero_min]
    exact grow_start B hr h0
  | k + 1 => by
    have g := grow_ok ok B hr h0 k
    have gl := grow_len ties (begS dl0 pl0 r) k
    rcases Nat.lt_or_ge k (growS ties (begS dl0 pl0 r) k).q.length with hk | hk
    · rw [Nat.min_eq_left (by omega)] at g
      have ha : (growS ties (begS dl0 pl0 r) k).q[k]? = some (growS ties (begS dl0 pl0 r) k).q[k] := List.getElem?_eq_getElem hk
      have hq := g.qn _ (List.mem_of_getElem? ha)
      have e : growS ties (begS dl0 pl0 r) (k + 1) = (nbrs ties ((growS ties (begS dl0 pl0 r) k).q[k])).foldl (visit ((growS ties (begS dl0 pl0 r) k).q[k])) (growS ties (begS dl0 pl0 r) k) := by
        show roomS ties (growS ties (begS dl0 pl0 r) k) k = _
        unfold roomS
        rw [ha]
      rw [Nat.min_eq_left (by omega), e]
      have F := fold_ok ok B (nbrs ties ((growS ties (begS dl0 pl0 r) k).q[k])) (growS ties (begS dl0 pl0 r) k) g ha fun y hy => (nbrs_adj ok hq.2).mp hy
      exact F.g.next F.at_ fun y hy => F.seen y ((nbrs_adj ok hq.2).mpr hy)
    · rw [Nat.min_eq_right hk] at g
      have e : growS ties (begS dl0 pl0 r) (k + 1) = growS ties (begS dl0 pl0 r) k := by
        show roomS ties (growS ties (begS dl0 pl0 r) k) k = _
        unfold roomS
        rw [List.getElem?_eq_none hk]
      rw [e, Nat.min_eq_right (by omega)]
      exact g
theorem grow_stop (ties : List (Int × Int)) (s0 : S3) {k : Nat} (h : (growS ties s0 k).q.length ≤ k) : ∀ j, growS ties s0 (k + j) = growS ties s0 k
  | 0 => rfl
  | j + 1 => by
    have ih := grow_stop ties s0 h j
    show roomS ties (growS ties s0 (k + j)) (k + j) = _
    rw [ih]
    unfold roomS
    rw [List.getElem?_eq_none (by omega)]
theorem search_ok (ok : PartsOk ms ties) : ∀ r : Nat, r ≤ ms.length → ∃ rt, Bfs ties ms.length (searchS ties ms.length r).1 (searchS ties ms.length r).2 rt r
  | 0, _ => ⟨_, bfs_start ms.length⟩
  | r + 1, hr => by
    obtain ⟨rt, B⟩ := search_ok ok r (by omega)
    show ∃ rt', Bfs ties ms.length (treeS ties ms.length (searchS ties ms.length r) r).1 (treeS ties ms.length (searchS ties ms.length r) r).2 rt' (r + 1)
    unfold treeS
    by_cases h : oAt (searchS ties ms.length r).1 r = none
    · rw [if_pos h]
      have g := grow_ok ok B (by omega) h ms.length
      rw [Nat.min_eq_right g.few] at g
      exact ⟨_, g.end B⟩
    · rw [if_neg h]
      exact ⟨rt, B.skip h⟩
end
end W1

set_option maxRecDepth 100000
set_option maxHeartbeats 4000000
namespace W1
open PySem PyProof.Rows L2
local macro_rules | `(tactic| walk_at "rp") => `(tactic| first | assumption | exact Rp.int _ | exact Rp.bl _ | exact Rp.str _ | exact Rp.non | exact Rp.obj _ | (refine Rp.le (by assumption) ?_; walk_at "rp"))
local macro_rules | `(tactic| walk_at "ed") => `(tactic| first
  | exact ed_int | exact ed_str | exact ed_bl | exact ed_non
  | (refine ed_var rfl ?_; walk_at "rp")
  | (refine ed_ixT (ds := [_, _]) ?_ ed_int (by decide) rfl; walk_at "ed")
  | (refine ed_I0 ?_ ?_ <;> walk_at "ed")
  | (refine ed_B0 ?_ ?_ <;> walk_at "ed")
  | (refine ed_eqS ?_ ?_ rfl rfl rfl <;> walk_at "ed")
  | assumption)
local macro_rules | `(tactic| walk_at "ea") => `(tactic| first | exact ea_nil | (refine ea_cons ?_ ?_; walk_at "ed"; walk_at "ea"))

abbrev s_grow_tree : Stmt := topS 20
abbrev N_grow_tree : List Str := ["web", "root", "depths", "parents", "reached", "at", "room", "other"]
theorem sc_grow_tree : FnScope N_grow_tree ["web", "root", "depths", "parents"] (defScope s_grow_tree) := ⟨rfl, rfl, rfl, by decide +kernel, rfl, by decide +kernel, by decide +kernel⟩
def eO : Option Nat → D
  | none => .non
  | some d => .int (d : Int)
def vO : Option Nat → V
  | none => .non
  | some d => .int (d : Int)
section
variable {K : PySem.W.Frag} {H H' : Hp}
theorem rp_O : ∀ o : Option Nat, Rp K H (vO o) (eO o)
  | none => .non
  | some d => .int _
theorem rps_O : ∀ l : List (Option Nat), Rps K H (l.map vO) (l.map eO)
  | [] => .nil
  | o :: l => .cons (rp_O o) (rps_O l)
theorem rp_O' {v : V} {o : Option Nat} (r : Rp K H v (eO o)) : v = vO o := by
  cases o with
  | none => exact rp_non r
  | some d => exact rp_int r
theorem notH_O (l : List (Option Nat)) : NotH (l.map vO) := fun c p x s n e => by
  cases l with
  | nil => cases e
  | cons o l =>
    rw [List.map_cons] at e
    injection e with e _
    cases o <;> cases e
theorem rps_N : ∀ l : List Nat, Rps K H (l.map fun x : Nat => V.int (x : Int)) (l.map fun x : Nat => D.int (x : Int))
  | [] => .nil
  | o :: l => .cons (.int _) (rps_N l)
theorem notH_N (l : List Nat) : NotH (l.map fun x : Nat => V.int (x : Int)) := fun c p x s n e => by
  cases l with
  | nil => cases e
  | cons o l =>
    rw [List.map_cons] at e
    injection e with e _
    cases e
end
structure S2At (H0 H : Hp) (A B : Addr) (dl pl : List (Option Nat)) : Prop where
  a : H A = some (.lst (dl.map vO))
  b : H B = some (.lst (pl.map vO))
  ne : A ≠ B
  nA : H0 A = none
  nB : H0 B = none
  le : Le H0 H
theorem S2At.le2 {H0 H H' : Hp} {A B : Addr} {dl pl : List (Option Nat)} (s : S2At H0 H A B dl pl) (e : Le H H') : S2At H0 H' A B dl pl :=
  ⟨e.lst s.a (notH_O _), e.lst s.b (notH_O _), s.ne, s.nA, s.nB, s.le.trans e⟩
theorem S2At.setA {H0 H : Hp} {A B : Addr} {dl pl : List (Option Nat)} (s : S2At H0 H A B dl pl) (dl' : List (Option Nat)) : S2At H0 (upd H A (.lst (dl'.map vO))) A B dl' pl :=
  ⟨upd_same, by rw [upd_ne s.ne.symm]; exact s.b, s.ne, s.nA, s.nB, s.le.mut s.nA⟩
theorem S2At.setB {H0 H : Hp} {A B : Addr} {dl pl : List (Option Nat)} (s : S2At H0 H A B dl pl) (pl' : List (Option Nat)) : S2At H0 (upd H B (.lst (pl'.map vO))) A B dl pl' :=
  ⟨by rw [upd_ne s.ne]; exact s.a, upd_same, s.ne, s.nA, s.nB, s.le.mut s.nB⟩
abbrev vN (q : List Nat) : List V := q.map fun x : Nat => V.int (x : Int)
structure G3 (H0 H : Hp) (A B R : Addr) (s : S3) : Prop where
  ab : S2At H0 H A B s.dl s.pl
  r : H R = some (.lst (vN s.q))
  nR : H0 R = none
  neA : R ≠ A
  neB : R ≠ B
theorem G3.le2 {H0 H H' : Hp} {A B R : Addr} {s : S3} (g : G3 H0 H A B R s) (e : Le H H') : G3 H0 H' A B R s := ⟨g.ab.le2 e, e.lst g.r (notH_N _), g.nR, g.neA, g.neB⟩
theorem G3.setA {H0 H : Hp} {A B R : Addr} {s : S3} (g : G3 H0 H A B R s) (dl' : List (Option Nat)) : G3 H0 (upd H A (.lst (dl'.map vO))) A B R ⟨s.q, dl', s.pl⟩ := ⟨g.ab.setA dl', by rw [upd_ne g.neA]; exact g.r, g.nR, g.neA, g.neB⟩
theorem G3.setB {H0 H : Hp} {A B R : Addr} {s : S3} (g : G3 H0 H A B R s) (pl' : List (Option Nat)) : G3 H0 (upd H B (.lst (pl'.map vO))) A B R ⟨s.q, s.dl, pl'⟩ := ⟨g.ab.setB pl', by rw [upd_ne g.neB]; exact g.r, g.nR, g.neA, g.neB⟩
theorem G3.setR {H0 H : Hp} {A B R : Addr} {s : S3} (g : G3 H0 H A B R s) (q' : List Nat) : G3 H0 (upd H R (.lst (vN q'))) A B R ⟨q', s.dl, s.pl⟩ :=
  ⟨⟨by rw [upd_ne g.neA.symm]; exact g.ab.a, by rw [upd_ne g.neB.symm]; exact g.ab.b, g.ab.ne, g.ab.nA, g.ab.nB, g.ab.le.mut g.nR⟩, upd_same, g.nR, g.neA, g.neB⟩
section
variable {K : PySem.W.Frag} {σ : L2.St} {H H' : Hp} {ta tb tc te : TE} {t u : TT} {D1 : Ends} {tu tw tz : TS}
theorem S2At.rA {H0 : Hp} {A B : Addr} {dl pl : List (Option Nat)} (s : S2At H0 H A B dl pl) : Rp K H (.ref A) (.lst (dl.map eO)) := .lst s.a (notH_O _) (rps_O _)
theorem S2At.rB {H0 : Hp} {A B : Addr} {dl pl : List (Option Nat)} (s : S2At H0 H A B dl pl) : Rp K H (.ref B) (.lst (pl.map eO)) := .lst s.b (notH_O _) (rps_O _)
theorem G3.rR {H0 : Hp} {A B R : Addr} {s : S3} (g : G3 H0 H A B R s) : Rp K H (.ref R) (.lst (s.q.map fun x : Nat => D.int (x : Int))) := .lst g.r (notH_N _) (rps_N _)
theorem eO_at {l : List (Option Nat)} {x : Nat} {z : Int} (hz : z = (x : Int)) (h : x < l.length) : (l.map eO)[z.toNat]? = some (eO (oAt l x)) := by
  subst hz
  rw [Int.toNat_natCast, List.getElem?_map, oAt_get h]
  rfl
theorem eO_no (o : Option Nat) : ∀ v, eO o ≠ .obj v := fun v => by cases o <;> exact fun e => nomatch e
theorem ed_isO {o : Option Nat} (h : ED K ta σ H (eO o)) : ED K (tOp (fun x y H Q => y = .non ∧ Q (.bl (decide (x = .non))) H) ta (tC .non)) σ H (.bl (decide (o = none))) := by
  refine ed_eq (ed_isN h (eO_no o)) ?_
  cases o <;> rfl
/-- while, with its measure -/
theorem s_while {W : Nat → L2.St → Hp → Prop} {m0 : Nat} {b : Nat → L2.St → Hp → Bool} (h0 : W m0 σ H) (ht : ∀ m σ H, W m σ H → EB t σ H (b m σ H))
    (k : ∀ m σ H, W m σ H → b m σ H = true → ∀ H1, Le H H1 → ∃ N : L2.St → Hp → Prop, (∀ σ' H', N σ' H' → ∃ m', m' < m ∧ W m' σ' H') ∧ tu { D1 with nx := N, ct := N, bk := D1.nx } σ H1)
    (kz : ∀ m σ H, W m σ H → b m σ H = false → ∀ H1, Le H H1 → D1.nx σ H1) : tWhile t tu D1 σ H := ⟨W, ⟨m0, h0⟩, fun m σ H w => ht m σ H w H (Le.refl _) _ fun x H1 e p => by
  subst p
  by_cases hb : b m σ H = true
  · rw [if_pos hb]
    exact k m σ H w hb H1 e
  · rw [if_neg hb]
    exact kz m σ H w (Bool.not_eq_true _ ▸ hb) H1 e⟩
theorem s_augI {i : Nat} {f : Int → Int → Int} {a b : Int} {ti : TIp} (hti : ti = ipI f) (hx : σ[i]? = some (some (.int a))) (h : ED K te σ H (.int b)) (k : ∀ H1, Le H H1 → D1.nx (σ.set i (some (.int (f a b)))) H1) : tAug i te ti D1 σ H := by
  subst hti
  exact ⟨_, hx, h H (Le.refl _) _ fun v d H1 e p r => by
    have p' : d = .int b := p
    subst p'
    have ev := rp_int r
    subst ev
    exact ⟨a, b, rfl, rfl, k H1 e⟩⟩
end
section
variable {P : Program} {w : World} {K : PySem.W.Frag} {mg : Str → Option Value} {base : Heap} {C : Addr}
def spGrow (K : PySem.W.Frag) (C : Addr) : Sp := fun vs H Q _ => ∃ a A B H0 ms ties dl pl rt, ∃ r : Nat, vs = [.ref a, .int (r : Int), .ref A, .ref B] ∧ WebAt K C H0 a ms ties ∧ PartsOk ms ties ∧ Bfs ties ms.length dl pl rt r ∧ r < ms.length ∧ oAt dl r = none ∧
  S2At H0 H A B (dl.set r (some 0)) pl ∧ ∀ H', S2At H0 H' A B (growS ties (begS dl pl r) ms.length).dl (growS ties (begS dl pl r) ms.length).pl → Q .non H'
theorem ok_grow (T : Txt mg) (W : WTxt K C) (g : GDef K mg "grow_tree" s_grow_tree ["web", "root", "depths", "parents"]) : Def P w K mg base 1 "grow_tree" ["web", "root", "depths", "parents"] (spGrow K C) := by
  refine defS g sc_grow_tree (fun vs H Q E h => ?_) fun cdv A0 outer s0 f H vs Q E hr h => ?_
  · obtain ⟨a, A, B, H0, ms, ties, dl, pl, rt, r, rfl, _⟩ := h
    rfl
  obtain ⟨a, A, B, H0, ms, ties, dl, pl, rt, r, rfl, xw, ok, bf, hr1, hr0, hs, q⟩ := h
  refine ⟨_, (pss_cons (ps_set (i := 4) sc_grow_tree.nd rfl (Or.inl rfl) (pe_lst (pa_cons (pv 1) pa_nil)))
    (pss_cons (ps_set (i := 5) sc_grow_tree.nd rfl (Or.inl rfl) pe_int)
    (pss_one (ps_while PassesOwn.never (pt_cmpR op_lt (pv 5) (pe_callB (kc_len (K := K)) (by rfl) T.n_len boot_len (pa_cons (pv 4) pa_nil)) (nomark _))
      (pss_cons (ps_set (i := 6) sc_grow_tree.nd rfl (Or.inl rfl) (pe_ix (kix_list (K := K)) (pv 4) (pv 5) (fun _ _ => rfl)))
    (pss_cons (ps_for PassesOwn.never rfl (kpi_tup (K := K) (pe_ix (kix_tup (K := K)) (kpe_fld (K := K) (pv 0) rfl) (pv 6) (fun _ _ => rfl))) (pg_name (i := 7) sc_grow_tree.nd rfl (Or.inl rfl))
      (pss_one (ps_if (pt_cmpR op_isN (pe_ix (kix_list (K := K)) (pv 2) (pv 7) (fun _ _ => rfl)) pe_non (nomark _))
      (pss_cons (ps_asg (pe_op op_add (pe_ix (kix_list (K := K)) (pv 2) (pv 6) (fun _ _ => rfl)) pe_int) (pg_sub (pv 2) (pv 7) set_list))
    (pss_cons (ps_asg (pv 6) (pg_sub (pv 3) (pv 7) set_list))
    (pss_one (ps_expr (pe_bm PySem.F.plainAttrs_list PySem.F.slot_list_append PySem.F.type_list_append mt_append (pv 4) (pa_cons (pv 7) pa_nil))))))
      pss_nil)))
    (pss_one (ps_aug (i := 5) sc_grow_tree.nd rfl (Or.inl rfl) pe_int ip_add)))))))), ?_⟩
  -- reached = [root]
  refine q_asgF (K := K) (ef_lst (ds := [.int (r : Int)]) (ea_cons (ed_var rfl (.int _)) ea_nil) (by show 1 ≤ 100000; decide) rfl) fun R vs ds H1 nR e1 hR nh rr hd => ?_
  subst hd
  obtain ⟨v1, rfl, rr1⟩ := rps1 rr
  have ev := rp_int rr1
  subst ev
  have few := ok.few
  have hRv : H1 R = some (.lst (vN [r])) := hR
  have g0 : G3 H0 H1 A B R (growS ties (begS dl pl r) 0) := ⟨hs.le2 e1, hRv, hs.le.fresh nR, (fun e => by rw [e, hs.a] at nR; cases nR), fun e => by rw [e, hs.b] at nR; cases nR⟩
  -- at = 0
  refine q_asgD (K := K) (ed_int (i := 0)) fun v H2 e2 r2 => ?_
  have ev := rp_int r2
  subst ev
  have g0 := g0.le2 e2
  refine s_while (W := fun m σ H' => ∃ k y6 y7, m = ms.length + 1 - k ∧ k ≤ (growS ties (begS dl pl r) k).q.length ∧ σ = [some (.ref a), some (.int (r : Int)), some (.ref A), some (.ref B), some (.ref R), some (.int ((k : Nat) : Int)), y6, y7] ∧ G3 H0 H' A B R (growS ties (begS dl pl r) k))
    (m0 := ms.length + 1) (b := fun m σ H' => decide (ms.length + 1 - m < (growS ties (begS dl pl r) (ms.length + 1 - m)).q.length)) ⟨0, none, none, rfl, Nat.zero_le _, rfl, g0⟩ ?_ ?_ ?_
  · rintro m σ H3 ⟨k, y6, y7, rfl, hk, rfl, g3⟩
    have kn : k ≤ ms.length := by
      have gk := grow_ok ok bf hr1 hr0 k
      have := gk.few
      omega
    refine eb_eq (et_test (ed_B0 (f := fun i j => decide (i < j)) (ed_var rfl (.int _)) (ed_lenL (ed_var rfl g3.rR)))) ?_
    have e : ms.length + 1 - (ms.length + 1 - k) = k := by omega
    rw [e, List.length_map]
    exact decide_eq_decide.mpr (by omega)
  · rintro m σ H3 ⟨k, y6, y7, rfl, hk, rfl, g3⟩ hb H4 e4
    have gk := grow_ok ok bf hr1 hr0 k
    have kn : k ≤ ms.length := by
      have := gk.few
      omega
    have hb' := of_decide_eq_true hb
    have e : ms.length + 1 - (ms.length + 1 - k) = k := by omega
    rw [e] at hb'
    generalize hS : growS ties (begS dl pl r) k = S at *
    rw [Nat.min_eq_left (by omega)] at gk
    have ha : S.q[k]? = some S.q[k] := List.getElem?_eq_getElem hb'
    generalize S.q[k] = a1 at ha
    have g4 := g3.le2 e4
    have hq := gk.qn _ (List.mem_of_getElem? ha)
    have hR4 := g4.r
    have eS : growS ties (begS dl pl r) (k + 1) = (nbrs ties a1).foldl (visit a1) S := by
      show roomS ties (growS ties (begS dl pl r) k) k = _
      unfold roomS
      rw [hS, ha]
    refine ⟨fun σ' H' => ∃ y6 y7, k + 1 ≤ (growS ties (begS dl pl r) (k + 1)).q.length ∧ σ' = [some (.ref a), some (.int (r : Int)), some (.ref A), some (.ref B), some (.ref R), some (.int (((k + 1 : Nat)) : Int)), y6, y7] ∧ G3 H0 H' A B R (growS ties (begS dl pl r) (k + 1)), fun σ' H' ⟨y6, y7, h1, h2, h3⟩ => ⟨ms.length + 1 - (k + 1), by omega, k + 1, y6, y7, rfl, h1, h2, h3⟩, ?_⟩
    -- room = reached[at]
    refine q_asgD (K := K) (d := .int (a1 : Int)) (ed_ixL (ed_var rfl g4.rR) (ed_var rfl (.int _)) (by omega) (by rw [Int.toNat_natCast, List.getElem?_map, ha]; rfl)) fun v H5 e5 r5 => ?_
    have ev := rp_int r5
    subst ev
    have g5 := g4.le2 e5
    have x5 := xw.le g5.ab.le
    -- for other in web.near[room]
    refine q_forT (K := K) (ds := (rawNear ties (a1 : Int)).map .int) (ed_ixT (i := (a1 : Int)) (ed_near W x5 (ed_var rfl (.obj _))) (ed_var rfl (.int _)) (by omega) (by rw [Int.toNat_natCast, List.getElem?_map, List.getElem?_range hq.2]; rfl)) (noL_ints _) fun H6 e6 => ?_
    refine ⟨fun i σ' H' => ∃ y7, σ' = [some (.ref a), some (.int (r : Int)), some (.ref A), some (.ref B), some (.ref R), some (.int (k : Int)), some (.int (a1 : Int)), y7] ∧ LeT H6 H' ∧ G3 H0 H' A B R (((nbrs ties a1).take i).foldl (visit a1) S), ⟨y7, rfl, LeT.refl _, g5.le2 e6⟩, fun i σ' H' _ ⟨_, _, e, _⟩ => e, ?_, ?_⟩
    · rintro i d v σ' H' hd rv ⟨y7, rfl, et, gi⟩
      rw [List.getElem?_map] at hd
      cases hz : (rawNear ties (a1 : Int))[i]? with
      | none =>
        rw [hz] at hd
        cases hd
      | some z =>
        rw [hz] at hd
        have hd' := Option.some.inj hd
        subst hd'
        have ev := rp_int rv
        subst ev
        have zm := List.mem_of_getElem? hz
        have zr := near_nat ok hq.2 z zm
        obtain ⟨y, rfl⟩ : ∃ y : Nat, z = (y : Int) := ⟨z.toNat, by omega⟩
        have hy : (nbrs ties a1)[i]? = some y := by
          unfold nbrs
          rw [List.getElem?_map, hz]
          rfl
        have ym := List.mem_of_getElem? hy
        have F := fold_ok ok bf ((nbrs ties a1).take i) S gk ha fun y' hy' => (nbrs_adj ok hq.2).mp (List.mem_of_mem_take hy')
        have eF : ((nbrs ties a1).take (i + 1)).foldl (visit a1) S = visit a1 (((nbrs ties a1).take i).foldl (visit a1) S) y := by
          rw [List.take_add_one, hy, List.foldl_append]
          rfl
        generalize ((nbrs ties a1).take i).foldl (visit a1) S = Si at *
        have gf := F.g
        have yl : y < Si.dl.length := by rw [gf.lenD]; omega
        have ypl : y < Si.pl.length := by rw [gf.lenP]; omega
        have anz : oAt Si.dl a1 ≠ none := (gf.new a1 hq.1).mp (List.mem_of_getElem? F.at_)
        have al : a1 < Si.dl.length := by rw [gf.lenD]; exact hq.2
        show tIfS _ _ _ _ _ _
        refine s_ifB (b := decide (oAt Si.dl y = none)) (et_test (ed_isO (K := K) (ed_ixL (ed_var rfl gi.ab.rA) (ed_var rfl (.int _)) (by omega) (eO_at rfl yl)))) (fun hn H7 e7 => ?_) fun hn H7 e7 => ?_
        · have hn := of_decide_eq_true hn
          have g7 := gi.le2 e7
          -- depths[other] = depths[room] + 1
          refine q_set (K := K) (ds := Si.dl.map eO) (P := is (.int ((dv Si.dl a1 : Int) + 1))) g7.ab.a (notH_O _) (by rw [List.length_map, List.length_map]) (ed_I0 (f := fun i j => i + j) (ed_eq (ed_ixL (ed_var rfl g7.ab.rA) (ed_var rfl (.int _)) (by omega) (eO_at rfl al)) (by rw [dv_of anz]; rfl)) ed_int) (fun _ _ => ed_var rfl (.obj _)) (i := (y : Int)) (fun _ _ => ed_var rfl (.int _)) (by omega) (by rw [List.length_map]; omega) fun w d H8 H9 e8 p8 e9 r9 l9 => ?_
          have p8' : d = .int ((dv Si.dl a1 : Int) + 1) := p8
          subst p8'
          have ev := rp_int r9
          subst ev
          have g9 := (g7.le2 (e8.trans e9)).setA (Si.dl.set y (some (dv Si.dl a1 + 1)))
          have es1 : (Si.dl.map vO).set ((y : Int)).toNat (.int ((dv Si.dl a1 : Int) + 1)) = (Si.dl.set y (some (dv Si.dl a1 + 1))).map vO := by
            rw [Int.toNat_natCast, List.map_set]
            rfl
          rw [es1]
          have lt9 := LeT.upd (o := .lst ((Si.dl.set y (some (dv Si.dl a1 + 1))).map vO)) l9
          -- parents[other] = room
          refine q_set (K := K) (ds := Si.pl.map eO) (P := is (.int (a1 : Int))) g9.ab.b (notH_O _) (by rw [List.length_map, List.length_map]) (ed_var rfl (.int _)) (fun _ _ => ed_var rfl (.obj _)) (i := (y : Int)) (fun _ _ => ed_var rfl (.int _)) (by omega) (by rw [List.length_map]; omega) fun w d H10 H11 e10 p10 e11 r11 l11 => ?_
          have p10' : d = .int (a1 : Int) := p10
          subst p10'
          have ev := rp_int r11
          subst ev
          have g11 := (g9.le2 (e10.trans e11)).setB (Si.pl.set y (some a1))
          have es2 : (Si.pl.map vO).set ((y : Int)).toNat (.int (a1 : Int)) = (Si.pl.set y (some a1)).map vO := by
            rw [Int.toNat_natCast, List.map_set]
            rfl
          rw [es2]
          have lt11 := LeT.upd (o := .lst ((Si.pl.set y (some a1)).map vO)) l11
          -- reached.append(other)
          refine s_app (K := K) (P := is (.int (y : Int))) g11.r (notH_N _) (ed_var rfl (.obj _)) (fun _ _ => ed_var rfl (.int _)) (by rw [List.length_map]; exact Nat.lt_of_le_of_lt gf.few (Nat.lt_of_le_of_lt ok.few (by decide))) fun w d H12 e12 p12 r12 l12 => ?_
          have p12' : d = .int (y : Int) := p12
          subst p12'
          have ev := rp_int r12
          subst ev
          have g12 := (g11.le2 e12).setR (Si.q ++ [y])
          have es3 : vN Si.q ++ [.int (y : Int)] = vN (Si.q ++ [y]) := by
            unfold vN
            rw [List.map_append]
            rfl
          rw [es3]
          refine ⟨_, rfl, ?_, ?_⟩
          · exact et.trans (((((e7.trans (e8.trans e9)).t.trans lt9).trans (e10.trans e11).t).trans lt11).trans (e12.t.trans (LeT.upd l12)))
          · rw [eF]
            unfold visit
            rw [if_pos hn]
            exact g12
        · refine ⟨_, rfl, et.trans e7.t, ?_⟩
          rw [eF]
          unfold visit
          rw [if_neg (of_decide_eq_false hn)]
          exact gi.le2 e7
    · rintro σ' H' ⟨y7, rfl, et, gi⟩
      have etk : (nbrs ties a1).take ((rawNear ties (a1 : Int)).map D.int).length = nbrs ties a1 := by
        rw [List.length_map]
        have : (rawNear ties (a1 : Int)).length = (nbrs ties a1).length := by
          unfold nbrs
          rw [List.length_map]
        rw [this, List.take_length]
      rw [etk, ← eS] at gi
      refine s_augI (K := K) (f := fun i j => i + j) (a := (k : Int)) (b := 1) rfl rfl ed_int fun H7 e7 => ?_
      have gl := grow_len ties (begS dl pl r) k
      refine ⟨_, _, ?_, by rfl, gi.le2 e7⟩
      have gk1 := grow_ok ok bf hr1 hr0 (k + 1)
      rw [hS] at gl
      omega
  · rintro m σ H3 ⟨k, y6, y7, rfl, hk, rfl, g3⟩ hb H4 e4
    have gk := grow_ok ok bf hr1 hr0 k
    have kn : k ≤ ms.length := by
      have := gk.few
      omega
    have hb' := of_decide_eq_false hb
    have e : ms.length + 1 - (ms.length + 1 - k) = k := by omega
    rw [e] at hb'
    have st := grow_stop ties (begS dl pl r) (k := k) (by omega) (ms.length - k)
    rw [show k + (ms.length - k) = ms.length by omega] at st
    rw [st] at q
    exact q H4 (g3.le2 e4).ab
end
end W1

set_option maxRecDepth 100000
set_option maxHeartbeats 4000000
namespace W1
open PySem PyProof.Rows L2
local macro_rules | `(tactic| walk_at "rp") => `(tactic| first | assumption | exact Rp.int _ | exact Rp.bl _ | exact Rp.str _ | exact Rp.non | exact Rp.obj _ | (refine Rp.le (by assumption) ?_; walk_at "rp"))
local macro_rules | `(tactic| walk_at "ed") => `(tactic| first
  | exact ed_int | exact ed_str | exact ed_bl | exact ed_non
  | (refine ed_var rfl ?_; walk_at "rp")
  | (refine ed_ixT (ds := [_, _]) ?_ ed_int (by decide) rfl; walk_at "ed")
  | (refine ed_I0 ?_ ?_ <;> walk_at "ed")
  | (refine ed_B0 ?_ ?_ <;> walk_at "ed")
  | (refine ed_eqS ?_ ?_ rfl rfl rfl <;> walk_at "ed")
  | assumption)
local macro_rules | `(tactic| walk_at "ea") => `(tactic| first | exact ea_nil | (refine ea_cons ?_ ?_; walk_at "ed"; walk_at "ea"))

abbrev s_search_trees : Stmt := topS 19
abbrev N_search_trees : List Str := ["web", "depths", "parents", "root", "_"]
theorem sc_search_trees : FnScope N_search_trees ["web"] (defScope s_search_trees) := ⟨rfl, rfl, rfl, by decide +kernel, rfl, by decide +kernel, by decide +kernel⟩
section
variable {K : PySem.W.Frag} {σ : L2.St} {H : Hp} {ta te : TE} {tt : TT} {vs : List Nat}
theorem ef_lcT {ds : List D} {j : Nat} {I : Nat → List D → Prop} {PT : Nat → D → Bool → Prop} (G : Good I) (h : ED K ta σ H (.tup ds)) (hw : ∀ x, wipe ((wipe σ vs).set j (some x)) vs = wipe σ vs) (h0 : I 0 [])
    (ht : ∀ (i : Nat) d v acc H1, Le H H1 → ds[i]? = some d → Rp K H1 v d → I i acc → ET tt ((wipe σ vs).set j (some v)) H1 (PT i d))
    (he : ∀ (i : Nat) d v acc H1, Le H H1 → ds[i]? = some d → Rp K H1 v d → I i acc → PT i d true → EP K te ((wipe σ vs).set j (some v)) H1 (fun d' _ => I (i + 1) (acc ++ [d']) ∧ NoL d'))
    (hf : ∀ (i : Nat) d acc, ds[i]? = some d → I i acc → PT i d false → I (i + 1) acc) : EF K (tLc (iTup K ta) (gName j) tt te vs) σ H (fun acc => I ds.length acc) := fun H1 e Q q => h H1 e _ fun v d0 H2 e2 p r => by
  have p' : d0 = .tup ds := p
  subst p'
  obtain ⟨a, xs, rfl, s, rr⟩ := rp_tup r
  refine ⟨a, rfl, ⟨xs, s⟩, fun L hL => lc_it (walk_tup (xs := xs)) (CI K H2 L I) (ci_start hL h0) (fun i H' _ c => c.2.1.sqt s) ?_ (fun H' c => ?_)⟩
  · rintro i x H' _ hi c ⟨rfl, hx⟩
    obtain ⟨d, h1, h2⟩ := rr.at' hx
    exact ⟨hw x, ci_turn G c (fun acc ia => ht i d x acc H2 (e.trans e2) h1 h2 ia) (fun acc ia pt => he i d x acc H2 (e.trans e2) h1 h2 ia pt) (fun acc ia pt => hf i d acc h1 ia pt)⟩
  · rw [rr.len] at c
    obtain ⟨q1, q2, ws, acc, q3, q4, q5⟩ := c
    exact q L ws acc H' (e2.fresh q1) (e2.trans q2) q3 ((G.uni _ acc q5).notH q4) q4 q5
theorem nons_rps : ∀ {n : Nat} {vs : List V}, Rps K H vs ((List.replicate n ()).map fun _ => D.non) → vs = (List.replicate n (none : Option Nat)).map vO
  | 0, vs, h => by cases h; rfl
  | n + 1, vs, h => by
    rw [List.replicate_succ, List.map_cons] at h
    cases h with
    | cons r rr =>
      rw [nons_rps rr, rp_non r]
      rfl
theorem enc_N : Enc fun _ : Unit => D.non := ⟨.inr fun a => ⟨fun _ => (fun e => nomatch e), fun _ => (fun e => nomatch e)⟩, fun a => .non⟩
/-- [None for _ in ..] -/
theorem ef_nones {ns : List Int} {j : Nat} (h : ED K ta σ H (.tup (ns.map .int))) (hz : ns.length ≤ 50000) (hw : ∀ x, wipe ((wipe σ vs).set j (some x)) vs = wipe σ vs) :
    EF K (tLc (iTup K ta) (gName j) tYes (tC .non) vs) σ H (fun ds => ds = (List.replicate ns.length ()).map fun _ => D.non) := fun H1 e Q q => ef_lcT (K := K) (I := GI (fun _ : Unit => D.non) fun i zs => zs = List.replicate i () ∧ i ≤ ns.length) (PT := fun i d b => b = true) (good enc_N _) h hw ⟨[], rfl, Nat.zero_le _, rfl, Nat.zero_le _⟩ (fun i d v acc H1 e hd rv _ => et_yes) (fun i d v acc H1 e hd rv ia _ => by
    obtain ⟨zs, rfl, hz, rfl, hi⟩ := ia
    have hlt := (List.getElem?_eq_some_iff.mp hd).1
    rw [List.length_map] at hlt
    refine EP.weak ed_non fun d' H2 _ p => ?_
    have p' : d' = .non := p
    subst p'
    exact ⟨GI.more (by simp; omega) ⟨by rw [← List.replicate_succ'], hlt⟩, .non⟩) (fun i d acc hd _ hf => nomatch hf) H1 e Q fun p us ds H2 np e2 hp nh rr pl => q p us ds H2 np e2 hp nh rr (by
      obtain ⟨zs, rfl, _, hzs, _⟩ := pl
      rw [List.length_map] at hzs
      rw [hzs])
end
section
variable {P : Program} {w : World} {K : PySem.W.Frag} {mg : Str → Option Value} {base : Heap} {C : Addr}
def eT2 (st : List (Option Nat) × List (Option Nat)) : D := .tup [.lst (st.1.map eO), .lst (st.2.map eO)]
def R_search (K : PySem.W.Frag) (C : Addr) : List D → Hp → Pd → Prop := fun ds H P => ∃ a ms ties, ds = [.obj (.ref a)] ∧ WebAt K C H a ms ties ∧ PartsOk ms ties ∧ P = is (eT2 (searchS ties ms.length ms.length))
theorem ok_search (T : GTxt mg) (W : WTxt K C) (g : GDef K mg "search_trees" s_search_trees ["web"]) (Ggrow_tree : Def P w K mg base 1 "grow_tree" ["web", "root", "depths", "parents"] (spGrow K C)) : Def P w K mg base 2 "search_trees" ["web"] (spD K (R_search K C)) := by
  refine defD g sc_search_trees (fun ds H Pd h => ?_) fun cdv A0 outer s0 f H vs ds Pd Q E hr r h q => ?_
  · obtain ⟨a, ms, ties, rfl, _⟩ := h
    rfl
  obtain ⟨a, ms, ties, rfl, x, ok, rfl⟩ := h
  obtain ⟨v1, rfl, r1⟩ := rps1 r
  have ev := rp_obj r1
  subst ev
  have few := ok.few
  refine ⟨_, (pss_cons (ps_setLc (i := 1) (own := [("_", 4)]) rfl sc_search_trees.nd rfl rfl (sw_true rfl rfl rfl (by decide +kernel)) (kpi_tup (K := K) (kpe_fld (K := K) (pv 0) rfl)) (blkOk_by (N := N_search_trees) (sc := defScope s_search_trees) (by decide +kernel)) (fun _ _ _ _ _ => (pg_name (i := 4) sc_search_trees.nd rfl (Or.inl rfl))) (fun _ _ _ _ _ => pts_nil) (fun _ _ _ _ _ => pe_non))
    (pss_cons (ps_setLc (i := 2) (own := [("_", 4)]) rfl sc_search_trees.nd rfl rfl (sw_true rfl rfl rfl (by decide +kernel)) (kpi_tup (K := K) (kpe_fld (K := K) (pv 0) rfl)) (blkOk_by (N := N_search_trees) (sc := defScope s_search_trees) (by decide +kernel)) (fun _ _ _ _ _ => (pg_name (i := 4) sc_search_trees.nd rfl (Or.inl rfl))) (fun _ _ _ _ _ => pts_nil) (fun _ _ _ _ _ => pe_non))
    (pss_cons (ps_for PassesOwn.never rfl (pi_range1 (by rfl) T.n_range (pa_cons (pe_callB (kc_len (K := K)) (by rfl) T.n_len boot_len (pa_cons (pv 1) pa_nil)) pa_nil)) (pg_name (i := 3) sc_search_trees.nd rfl (Or.inl rfl))
      (pss_one (ps_if (pt_cmpR op_isN (pe_ix (kix_list (K := K)) (pv 1) (pv 3) (fun _ _ => rfl)) pe_non (nomark _))
      (pss_cons (ps_asg pe_int (pg_sub (pv 1) (pv 3) set_list))
    (pss_one (ps_expr (pe_def Ggrow_tree (hr.mono (by decide)) (pa_cons (pv 0) (pa_cons (pv 3) (pa_cons (pv 1) (pa_cons (pv 2) pa_nil))))))))
      pss_nil)))
    (pss_one (ps_ret (pe_tup (pa_cons (pv 1) (pa_cons (pv 2) pa_nil)))))))), ?_⟩
  refine q_asgF (K := K) (ef_nones (ed_mem W x (ed_var rfl r1)) (by omega) (fun _ => rfl)) fun A us ds H1 nA e1 hA nh rr hd => ?_
  subst hd
  have ev := nons_rps rr
  subst ev
  refine q_asgF (K := K) (ef_nones (ed_mem W (x.le e1) (ed_var rfl (.obj _))) (by omega) (fun _ => rfl)) fun B us ds H2 nB e2 hB nh2 rr2 hd => ?_
  subst hd
  have ev := nons_rps rr2
  subst ev
  have s2 : S2At H H2 A B (searchS ties ms.length 0).1 (searchS ties ms.length 0).2 := ⟨e2.lst hA (notH_O _), hB, (fun e => by rw [e, nB] at hA; cases hA), nA, e1.fresh nB, e1.trans e2⟩
  refine q_forR1 (K := K) (n := (ms.length : Int)) (ea_cons (ed_eq (ed_lenL (ed_var rfl s2.rA)) (by rw [List.length_map]; show D.int ((List.replicate ms.length none).length : Int) = _; rw [List.length_replicate])) ea_nil) (by omega) fun H3 e3 => ?_
  refine ⟨fun i σ H' => ∃ y, σ = [some (.ref a), some (.ref A), some (.ref B), y, none] ∧ S2At H H' A B (searchS ties ms.length i).1 (searchS ties ms.length i).2, ⟨none, rfl, s2.le2 e3⟩, ?_, ?_⟩
  · rintro i σ H' hi ⟨y, rfl, si⟩
    have hi' : i < ms.length := by omega
    obtain ⟨rt, bf⟩ := search_ok ok i (by omega)
    have il : i < (searchS ties ms.length i).1.length := by rw [bf.lenD]; exact hi'
    show tIfS _ _ _ _ _ _
    refine s_ifB (b := decide (oAt (searchS ties ms.length i).1 i = none)) (et_test (ed_isO (K := K) (ed_ixL (ed_var rfl si.rA) (ed_var rfl (.int _)) (by omega) (eO_at rfl il)))) (fun hn H4 e4 => ?_) fun hn H4 e4 => ?_
    · have hn := of_decide_eq_true hn
      have s4 := si.le2 e4
      refine q_set (K := K) (ds := (searchS ties ms.length i).1.map eO) (P := is (.int 0)) s4.a (notH_O _) (by rw [List.length_map, List.length_map]) ed_int (fun _ _ => ed_var rfl (.obj _)) (i := (i : Int)) (fun _ _ => ed_var rfl (.int _)) (by omega) (by rw [List.length_map]; omega) fun w d H5 H6 e5 p5 e6 r6 l6 => ?_
      have p5' : d = .int 0 := p5
      subst p5'
      have ev := rp_int r6
      subst ev
      have s6 := (s4.le2 (e5.trans e6)).setA ((searchS ties ms.length i).1.set i (some 0))
      have es1 : ((searchS ties ms.length i).1.map vO).set ((i : Int)).toNat (.int 0) = ((searchS ties ms.length i).1.set i (some 0)).map vO := by
        rw [Int.toNat_natCast, List.map_set]
        rfl
      rw [es1]
      have hA4 : EDA K (tCons (tVar 0) (tCons (tVar 3) (tCons (tVar 1) (tCons (tVar 2) tNil)))) [some (.ref a), some (.ref A), some (.ref B), some (.int (i : Int)), none] (upd H6 A (.lst (((searchS ties ms.length i).1.set i (some 0)).map vO))) [.obj (.ref a), .int (i : Int), .obj (.ref A), .obj (.ref B)] :=
        ea_cons (ed_var rfl (.obj _)) (ea_cons (ed_var rfl (.int _)) (ea_cons (ed_var rfl (.obj _)) (ea_cons (ed_var rfl (.obj _)) ea_nil)))
      unfold tDrop tCall
      refine hA4 _ (Le.refl _) _ fun vs es H7 e7 p rr => ?_
      have p' : es = [.obj (.ref a), .int (i : Int), .obj (.ref A), .obj (.ref B)] := p
      subst p'
      have evs : vs = [.ref a, .int (i : Int), .ref A, .ref B] := by
        obtain _ | ⟨q1, rr⟩ := rr
        obtain _ | ⟨q2, rr⟩ := rr
        obtain _ | ⟨q3, rr⟩ := rr
        obtain _ | ⟨q4, rr⟩ := rr
        cases rr
        rw [rp_obj q1, rp_int q2, rp_obj q3, rp_obj q4]
      subst evs
      refine ⟨a, A, B, H, ms, ties, _, _, rt, i, rfl, x, ok, bf, hi', hn, s6.le2 e7, fun H8 s8 => ⟨_, rfl, ?_⟩⟩
      have et : searchS ties ms.length (i + 1) = treeS ties ms.length (searchS ties ms.length i) i := rfl
      rw [et]
      unfold treeS
      rw [if_pos hn]
      exact s8
    · refine ⟨_, rfl, ?_⟩
      have et : searchS ties ms.length (i + 1) = treeS ties ms.length (searchS ties ms.length i) i := rfl
      rw [et]
      unfold treeS
      rw [if_neg (of_decide_eq_false hn)]
      exact si.le2 e4
  · rintro σ H' ⟨y, rfl, si⟩
    rw [Int.toNat_natCast] at si
    refine s_retD (K := K) (d := eT2 (searchS ties ms.length ms.length)) (ed_tup (ea_cons (ed_var rfl si.rA) (ea_cons (ed_var rfl si.rB) ea_nil)) (by show 2 ≤ 100000; decide)) fun v H4 e4 r4 => q v _ H4 (si.le.trans e4) rfl r4
end
end W1

set_option maxRecDepth 100000
set_option maxHeartbeats 4000000
namespace W1
open PySem PyProof.Rows L2
local macro_rules | `(tactic| walk_at "rp") => `(tactic| first | assumption | exact Rp.int _ | exact Rp.bl _ | exact Rp.str _ | exact Rp.non | exact Rp.obj _ | (refine Rp.le (by assumption) ?_; walk_at "rp"))
local macro_rules | `(tactic| walk_at "ed") => `(tactic| first
  | exact ed_int | exact ed_str | exact ed_bl | exact ed_non
  | (refine ed_var rfl ?_; walk_at "rp")
  | (refine ed_ixT (ds := [_, _]) ?_ ed_int (by decide) rfl; walk_at "ed")
  | (refine ed_I0 ?_ ?_ <;> walk_at "ed")
  | (refine ed_B0 ?_ ?_ <;> walk_at "ed")
  | (refine ed_eqS ?_ ?_ rfl rfl rfl <;> walk_at "ed")
  | assumption)
local macro_rules | `(tactic| walk_at "ea") => `(tactic| first | exact ea_nil | (refine ea_cons ?_ ?_; walk_at "ed"; walk_at "ea"))

abbrev s_tie_within_depth : Stmt := topS 21
abbrev N_tie_within_depth : List Str := ["web", "depths", "one", "other"]
theorem sc_tie_within_depth : FnScope N_tie_within_depth ["web", "depths"] (defScope s_tie_within_depth) := ⟨rfl, rfl, rfl, by decide +kernel, rfl, by decide +kernel, by decide +kernel⟩
abbrev s_lots_by_depth : Stmt := topS 16
abbrev N_lots_by_depth : List Str := ["rooms", "depths", "first", "second", "room"]
theorem sc_lots_by_depth : FnScope N_lots_by_depth ["rooms", "depths"] (defScope s_lots_by_depth) := ⟨rfl, rfl, rfl, by decide +kernel, rfl, by decide +kernel, by decide +kernel⟩
abbrev s_two_lots : Stmt := topS 15
abbrev N_two_lots : List Str := ["web", "depths", "_"]
theorem sc_two_lots : FnScope N_two_lots ["web"] (defScope s_two_lots) := ⟨rfl, rfl, rfl, by decide +kernel, rfl, by decide +kernel, by decide +kernel⟩
section
variable {K : PySem.W.Frag} {σ : L2.St} {H H' : Hp} {C a : Addr} {ms : List Int} {ties : List (Int × Int)} {ta te : TE}
theorem ed_ties (T : WTxt K C) (x : WebAt K C H a ms ties) (h : ED K te σ H (.obj (.ref a))) : ED K (tFld K te "ties") σ H (.tup (ties.map eP)) := fun H1 e Q q => h H1 e _ fun v d H2 e2 p r => by
  have p' : d = .obj (.ref a) := p
  subst p'
  have ev := rp_obj r
  subst ev
  obtain ⟨dx, m, t, n, h, h1, h2, h3⟩ := x.le (e.trans e2)
  exact ⟨a, C, dx, _, _, rfl, h, T.cl, T.nT, web_t m t n, q _ _ H2 e2 rfl h2⟩
theorem eO_dv {l : List (Option Nat)} {x : Nat} (h : oAt l x ≠ none) : eO (oAt l x) = .int (dv l x : Int) := by
  rw [dv_of h]
  rfl
theorem ed_dv {l : List (Option Nat)} {x : Nat} {z : Int} (hz : z = (x : Int)) (hx : oAt l x ≠ none) (h : ED K ta σ H (.lst (l.map eO))) (h2 : ED K te σ H (.int z)) : ED K (tOp (rIxL K) ta te) σ H (.int (dv l x : Int)) :=
  ed_eq (ed_ixL h h2 (by omega) (eO_at hz (oAt_lt hx))) (eO_dv hx)
/-- list(range(n)) -/
theorem ef_listRg {n : Nat} (h : ED K ta σ H (.int (n : Int))) (hz : n ≤ 50000) : EFD K (tLstRg (tRg1 ta)) σ H (((List.range n).map fun i : Nat => (i : Int)).map .int) := fun H1 e Q q => h H1 e _ fun v d H2 e2 p r => by
  have p' : d = .int (n : Int) := p
  subst p'
  have ev := rp_int r
  subst ev
  refine ⟨(n : Int), rfl, ⟨by omega, by omega, by omega, by omega, by omega⟩, fun q' hq => ?_⟩
  have er : rgV 0 (n : Int) = ((List.range n).map fun i : Nat => (i : Int)).map V.int := by
    unfold rgV
    rw [List.map_map, show ((n : Int) - 0).toNat = n by omega]
    apply List.map_congr_left
    intro i _
    show V.int (0 + (i : Int)) = V.int (i : Int)
    rw [Int.zero_add]
  rw [er]
  exact q q' _ _ _ (e2.fresh hq) (e2.trans (Le.new hq)) upd_same (notH_ints _) (rps_ints _) rfl
end
def sameD (dl : List (Option Nat)) (p : Int × Int) : Bool := decide (dv dl p.1.toNat = dv dl p.2.toNat)
def eOP : Option (Int × Int) → D
  | none => .non
  | some p => eP p
theorem ed_notOP {K : PySem.W.Frag} {σ : L2.St} {H : Hp} {ta : TE} {o : Option (Int × Int)} (h : ED K ta σ H (eOP o)) : ED K (tOp (fun x y H Q => y = .non ∧ Q (.bl (!decide (x = .non))) H) ta (tC .non)) σ H (.bl (!decide (o = none))) := by
  cases o with
  | none => exact ed_notN (d1 := .non) h fun v e => nomatch e
  | some p => exact ed_notN (d1 := eP p) h fun v e => nomatch e
theorem ed_isOP {K : PySem.W.Frag} {σ : L2.St} {H : Hp} {ta : TE} {o : Option (Int × Int)} (h : ED K ta σ H (eOP o)) : ED K (tOp (fun x y H Q => y = .non ∧ Q (.bl (decide (x = .non))) H) ta (tC .non)) σ H (.bl (decide (o = none))) := by
  cases o with
  | none => exact ed_isN (d1 := .non) h fun v e => nomatch e
  | some p => exact ed_isN (d1 := eP p) h fun v e => nomatch e
def lotI (n : Nat) (dl : List (Option Nat)) (k : Nat) : List Int := ((List.range n).map fun i : Nat => (i : Int)).filter fun i => decide (dv dl i.toNat % 2 = k)
def eLots (n : Nat) (dl : List (Option Nat)) : D := .tup [.tup ((lotI n dl 0).map .int), .tup ((lotI n dl 1).map .int)]
theorem find_at {α : Type} {f : α → Bool} {l : List α} {i : Nat} {p : α} (h : l[i]? = some p) (h0 : ∀ x ∈ l.take i, f x = false) (h1 : f p = true) : l.find? f = some p := by
  obtain ⟨hi, e⟩ := List.getElem?_eq_some_iff.mp h
  have : l = l.take i ++ p :: l.drop (i + 1) := by
    rw [← e, List.getElem_cons_drop, List.take_append_drop]
  rw [this, List.find?_append, List.find?_eq_none.mpr (fun x hx => by rw [h0 x hx]; exact Bool.false_ne_true), Option.none_or, List.find?_cons_of_pos h1]
section
variable {P : Program} {w : World} {K : PySem.W.Frag} {mg : Str → Option Value} {base : Heap} {C : Addr}
def R_twd (K : PySem.W.Frag) (C : Addr) : List D → Hp → Pd → Prop := fun ds H P => ∃ a ms ties dl, ds = [.obj (.ref a), .lst (dl.map eO)] ∧ WebAt K C H a ms ties ∧ PartsOk ms ties ∧ (∀ x, x < ms.length → oAt dl x ≠ none) ∧ P = is (eOP (ties.find? (sameD dl)))
theorem ok_twd (T : GTxt mg) (W : WTxt K C) (g : GDef K mg "tie_within_depth" s_tie_within_depth ["web", "depths"]) : Def P w K mg base 1 "tie_within_depth" ["web", "depths"] (spD K (R_twd K C)) := by
  refine defD g sc_tie_within_depth (fun ds H Pd h => ?_) fun cdv A0 outer s0 f H vs ds Pd Q E hr r h q => ?_
  · obtain ⟨a, ms, ties, dl, rfl, _⟩ := h
    rfl
  obtain ⟨a, ms, ties, dl, rfl, x, ok, hall, rfl⟩ := h
  obtain ⟨v1, v2, rfl, r1, r2⟩ := rps2 r
  refine ⟨_, (pss_cons (ps_for PassesOwn.never rfl (kpi_tup (K := K) (kpe_fld (K := K) (pv 0) rfl)) (kpg_tup (K := K) (n := 2) rfl (pgs_cons (pg_name (i := 2) sc_tie_within_depth.nd rfl (Or.inl rfl)) (pgs_cons (pg_name (i := 3) sc_tie_within_depth.nd rfl (Or.inl rfl)) pgs_nil)))
      (pss_one (ps_if (pt_cmpR op_eq (pe_ix (kix_list (K := K)) (pv 1) (pv 2) (fun _ _ => rfl)) (pe_ix (kix_list (K := K)) (pv 1) (pv 3) (fun _ _ => rfl)) (nomark _))
      (pss_one (ps_ret (pe_tup (pa_cons (pv 2) (pa_cons (pv 3) pa_nil)))))
      pss_nil)))
    (pss_one (ps_ret pe_non))), ?_⟩
  refine q_forT2 (K := K) (ds := ties.map eP) (ed_ties W x (ed_var rfl r1)) fun H1 e1 => ?_
  refine ⟨fun i σ H' => ∃ y2 y3, σ = [some v1, some v2, y2, y3] ∧ Le H1 H' ∧ ∀ p ∈ ties.take i, sameD dl p = false, ⟨none, none, rfl, Le.refl _, fun p hp => by rw [List.take_zero] at hp; cases hp⟩, fun i σ H' _ ⟨_, _, _, e, _⟩ => e, ?_, ?_⟩
  · rintro i d v σ H' hd rv ⟨y2, y3, rfl, e, hno⟩
    obtain ⟨p, hp, rfl⟩ := map_at hd
    obtain ⟨h1, h2, h3⟩ := ok.tie (List.mem_of_getElem? hp)
    obtain ⟨t, xs, rfl, st, rr⟩ := rp_tup rv
    obtain ⟨w1, w2, rfl, q1, q2⟩ := rps2 rr
    have ew1 := rp_int q1
    have ew2 := rp_int q2
    subst ew1 ew2
    refine ⟨t, _, rfl, st, rfl, _, _, rfl, _, _, rfl, rfl, ?_⟩
    have r2' := r2.le (e1.trans e)
    show tIfS _ _ _ _ _ _
    refine s_ifB (b := sameD dl p) (eb_eq (et_test (K := K) (ed_eqS (ed_dv (x := p.1.toNat) (z := p.1) (by omega) (hall _ (by omega)) (ed_var rfl r2') (ed_var rfl (.int _))) (ed_dv (x := p.2.toNat) (z := p.2) (by omega) (hall _ (by omega)) (ed_var rfl r2') (ed_var rfl (.int _))) rfl rfl rfl)) ?_) (fun hn H4 e4 => ?_) fun hn H4 e4 => ?_
    · unfold sameD vOf
      exact decide_eq_decide.mpr ⟨fun h => by injection h with h; omega, fun h => by rw [h]⟩
    · have ef := find_at hp hno hn
      rw [ef] at q
      refine s_retD (K := K) (d := eP p) (ed_tup (ea_cons (ed_var rfl (.int _)) (ea_cons (ed_var rfl (.int _)) ea_nil)) (by show 2 ≤ 100000; decide)) fun v H5 e5 r5 => q v _ H5 ((e1.trans e).trans (e4.trans e5)) rfl r5
    · refine ⟨_, _, rfl, e.trans e4, fun p' hp' => ?_⟩
      rw [List.take_add_one, hp] at hp'
      rcases List.mem_append.mp hp' with hp' | hp'
      · exact hno p' hp'
      · rw [List.mem_singleton.mp hp']
        exact hn
  · rintro σ H' ⟨y2, y3, rfl, e, hno⟩
    rw [List.length_map, List.take_length] at hno
    rw [List.find?_eq_none.mpr fun x hx => by rw [hno x hx]; exact Bool.false_ne_true] at q
    exact s_retD (K := K) (d := .non) ed_non fun v H5 e5 r5 => q v _ H5 (e1.trans (e.trans e5)) rfl r5
def R_lbd : List D → Hp → Pd → Prop := fun ds _ P => ∃ dl, ∃ n : Nat, ds = [.lst (((List.range n).map fun i : Nat => (i : Int)).map .int), .lst (dl.map eO)] ∧ n ≤ 60 ∧ (∀ x, x < n → oAt dl x ≠ none) ∧ P = is (eLots n dl)
theorem ok_lbd (T : GTxt mg) (g : GDef K mg "lots_by_depth" s_lots_by_depth ["rooms", "depths"]) : Def P w K mg base 1 "lots_by_depth" ["rooms", "depths"] (spD K R_lbd) := by
  refine defD g sc_lots_by_depth (fun ds H Pd h => ?_) fun cdv A0 outer s0 f H vs ds Pd Q E hr r h q => ?_
  · obtain ⟨dl, n, rfl, _⟩ := h
    rfl
  obtain ⟨dl, n, rfl, few, hall, rfl⟩ := h
  obtain ⟨v1, v2, rfl, r1, r2⟩ := rps2 r
  refine ⟨_, (pss_cons (ps_set (i := 2) sc_lots_by_depth.nd rfl (Or.inl rfl) (pe_callTy (kc_tuple (K := K)) (by rfl) T.n_tuple boot_tuple (pa_cons (pe_lc (own := [("room", 4)]) rfl sc_lots_by_depth.nd (kpi_list (K := K) (pv 0)) (blkOk_by (N := N_lots_by_depth) (sc := defScope s_lots_by_depth) (by decide +kernel)) (fun _ _ _ _ _ => (pg_name (i := 4) sc_lots_by_depth.nd rfl (Or.inl rfl))) (fun _ _ _ _ _ => (pts_one (pt_cmpR op_eq (pe_op op_mod (pe_ix (kix_list (K := K)) (pv 1) (pv 4) (fun _ _ => rfl)) pe_int) pe_int (nomark _)))) (fun _ _ _ _ _ => (pv 4))) pa_nil)))
    (pss_cons (ps_set (i := 3) sc_lots_by_depth.nd rfl (Or.inl rfl) (pe_callTy (kc_tuple (K := K)) (by rfl) T.n_tuple boot_tuple (pa_cons (pe_lc (own := [("room", 4)]) rfl sc_lots_by_depth.nd (kpi_list (K := K) (pv 0)) (blkOk_by (N := N_lots_by_depth) (sc := defScope s_lots_by_depth) (by decide +kernel)) (fun _ _ _ _ _ => (pg_name (i := 4) sc_lots_by_depth.nd rfl (Or.inl rfl))) (fun _ _ _ _ _ => (pts_one (pt_cmpR op_eq (pe_op op_mod (pe_ix (kix_list (K := K)) (pv 1) (pv 4) (fun _ _ => rfl)) pe_int) pe_int (nomark _)))) (fun _ _ _ _ _ => (pv 4))) pa_nil)))
    (pss_one (ps_ret (pe_tup (pa_cons (pv 2) (pa_cons (pv 3) pa_nil))))))), ?_⟩
  have room : ∀ {z : Int}, z ∈ ((List.range n).map fun i : Nat => (i : Int)) → z = ((z.toNat : Nat) : Int) ∧ oAt dl z.toNat ≠ none := fun {z} hz => by
    obtain ⟨i, hi, rfl⟩ := List.mem_map.mp hz
    exact ⟨rfl, hall _ (List.mem_range.mp hi)⟩
  refine q_asgD (K := K) (d := .tup ((lotI n dl 0).map .int)) (ed_tupOf (ed_eq (ed_lcL enc_int (encS := .int) ((List.range n).map fun i : Nat => (i : Int)) (fun i => decide (dv dl i.toNat % 2 = 0)) (fun i => i) (ed_var rfl r1) (by rw [List.length_map, List.length_range]; omega) (fun _ => rfl) (fun b v H1 e hb r => ?_) fun b v H1 e hb r _ => ed_var rfl r) ?_)) fun u0 H1 e1 q0 => ?_
  · have ev := rp_int r
    subst ev
    obtain ⟨h1, h2⟩ := room hb
    refine eb_eq (et_test (K := K) (ed_eqS (ed_I (f := fun i j => i % j) (ed_dv h1 h2 (ed_var rfl (r2.le e)) (ed_var rfl (.int _))) ed_int (by show (0 : Int) < 2; decide)) ed_int rfl rfl rfl)) ?_
    unfold vOf
    exact decide_eq_decide.mpr ⟨fun h => by injection h with h; omega, fun h => by rw [show ((dv dl b.toNat : Nat) : Int) % 2 = 0 by omega]⟩
  · rw [List.map_id']
    rfl
  refine q_asgD (K := K) (d := .tup ((lotI n dl 1).map .int)) (ed_tupOf (ed_eq (ed_lcL enc_int (encS := .int) ((List.range n).map fun i : Nat => (i : Int)) (fun i => decide (dv dl i.toNat % 2 = 1)) (fun i => i) (ed_var rfl (r1.le e1)) (by rw [List.length_map, List.length_range]; omega) (fun _ => rfl) (fun b v H1 e hb r => ?_) fun b v H1 e hb r _ => ed_var rfl r) ?_)) fun u1 H2 e2 q1 => ?_
  · have ev := rp_int r
    subst ev
    obtain ⟨h1, h2⟩ := room hb
    refine eb_eq (et_test (K := K) (ed_eqS (ed_I (f := fun i j => i % j) (ed_dv h1 h2 (ed_var rfl ((r2.le e1).le e)) (ed_var rfl (.int _))) ed_int (by show (0 : Int) < 2; decide)) ed_int rfl rfl rfl)) ?_
    unfold vOf
    exact decide_eq_decide.mpr ⟨fun h => by injection h with h; omega, fun h => by rw [show ((dv dl b.toNat : Nat) : Int) % 2 = 1 by omega]⟩
  · rw [List.map_id']
    rfl
  refine s_retD (K := K) (d := eLots n dl) (ed_tup (ea_cons (ed_var rfl (q0.le e2)) (ea_cons (ed_var rfl q1) ea_nil)) (by show 2 ≤ 100000; decide)) fun v H5 e5 r5 => q v _ H5 ((e1.trans e2).trans e5) rfl r5
def R_two (K : PySem.W.Frag) (C : Addr) : List D → Hp → Pd → Prop := fun ds H P => ∃ a ms ties, ds = [.obj (.ref a)] ∧ WebAt K C H a ms ties ∧ PartsOk ms ties ∧
  P = is (if ties.find? (sameD (searchS ties ms.length ms.length).1) = none then eLots ms.length (searchS ties ms.length ms.length).1 else .non)
theorem search_all {ms : List Int} {ties : List (Int × Int)} (ok : PartsOk ms ties) : ∀ x, x < ms.length → oAt (searchS ties ms.length ms.length).1 x ≠ none := fun x hx => by
  obtain ⟨rt, bf⟩ := search_ok ok ms.length (Nat.le_refl _)
  exact bf.all x hx hx
theorem ok_two (T : GTxt mg) (W : WTxt K C) (g : GDef K mg "two_lots" s_two_lots ["web"]) (Gsearch_trees : Def P w K mg base 2 "search_trees" ["web"] (spD K (R_search K C))) (Gtie_within_depth : Def P w K mg base 1 "tie_within_depth" ["web", "depths"] (spD K (R_twd K C)))
    (Glots_by_depth : Def P w K mg base 1 "lots_by_depth" ["rooms", "depths"] (spD K R_lbd)) : Def P w K mg base 3 "two_lots" ["web"] (spD K (R_two K C)) := by
  refine defD g sc_two_lots (fun ds H Pd h => ?_) fun cdv A0 outer s0 f H vs ds Pd Q E hr r h q => ?_
  · obtain ⟨a, ms, ties, rfl, _⟩ := h
    rfl
  obtain ⟨a, ms, ties, rfl, x, ok, rfl⟩ := h
  obtain ⟨v1, rfl, r1⟩ := rps1 r
  have all := search_all ok
  obtain ⟨rt, bf⟩ := search_ok ok ms.length (Nat.le_refl _)
  have lD := bf.lenD
  refine ⟨_, (pss_cons (ps_asg (pe_def Gsearch_trees (hr.mono (by decide)) (pa_cons (pv 0) pa_nil)) (kpg_tup (K := K) (n := 2) rfl (pgs_cons (pg_name (i := 1) sc_two_lots.nd rfl (Or.inl rfl)) (pgs_cons (pg_name (i := 2) sc_two_lots.nd rfl (Or.inl rfl)) pgs_nil))))
    (pss_cons (ps_if (pt_cmpR op_notN (pe_def Gtie_within_depth (hr.mono (by decide)) (pa_cons (pv 0) (pa_cons (pv 1) pa_nil))) pe_non (nomark _))
      (pss_one (ps_ret pe_non))
      pss_nil)
    (pss_one (ps_ret (pe_def Glots_by_depth (hr.mono (by decide)) (pa_cons (pe_listRg rfl (by rfl) T.n_list (prg_1 (by rfl) T.n_range (pe_callB (kc_len (K := K)) (by rfl) T.n_len boot_len (pa_cons (pv 1) pa_nil)))) (pa_cons (pv 1) pa_nil))))))), ?_⟩
  generalize hst : searchS ties ms.length ms.length = st at *
  refine q_tup2 (K := K) (d1 := .lst (st.1.map eO)) (d2 := .lst (st.2.map eO)) (ed_call (ea_cons (ed_var rfl r1) ea_nil) fun H1 e1 => ⟨a, ms, ties, rfl, x.le e1, ok, by rw [hst]; rfl⟩) fun u w H1 e1 q1 q2 => ?_
  refine q_whenB (b := !decide (ties.find? (sameD st.1) = none)) (et_test (K := K) (ed_notOP (ed_call (ea_cons (ed_var rfl (r1.le e1)) (ea_cons (ed_var rfl q1) ea_nil)) fun H2 e2 => ⟨a, ms, ties, st.1, rfl, x.le (e1.trans e2), ok, all, rfl⟩))) (fun hn H2 e2 => ?_) fun hn H2 e2 => ?_
  · rw [if_neg (by simpa using hn)] at q
    exact s_retD (K := K) (d := .non) ed_non fun v H5 e5 r5 => q v _ H5 (e1.trans (e2.trans e5)) rfl r5
  · rw [if_pos (by simpa using hn)] at q
    have few := ok.few
    refine s_retD (K := K) (d := eLots ms.length st.1) (ed_call (ea_cons (EFD.ed (ef_listRg (n := ms.length) (ed_eq (ed_lenL (ed_var rfl (q1.le e2))) (by rw [List.length_map, lD])) (by omega))) (ea_cons (ed_var rfl (q1.le e2)) ea_nil)) fun H3 e3 => ⟨st.1, ms.length, rfl, few, all, rfl⟩) fun v H5 e5 r5 => q v _ H5 (e1.trans (e2.trans e5)) rfl r5
end
end W1

set_option maxRecDepth 100000
set_option maxHeartbeats 4000000
/-! xs[-2::-1] -/
namespace W1
open PySem PySem.Calls PyProof PyProof.Rows L2
theorem rev2_bounds (m : Nat) : sliceBounds (some (-2)) none (some (-1)) (m + 1) = ((m : Int) - 1, -1, -1) := by
  unfold sliceBounds
  simp
  omega
theorem rev2_pick (items : Array Value) (h : 0 < items.size) : slicePick items (some (-2)) none (some (-1)) = (items.toList.take (items.size - 1)).reverse.toArray := by
  obtain ⟨m, hm⟩ : ∃ m, items.size = m + 1 := ⟨items.size - 1, by omega⟩
  unfold slicePick
  rw [hm, rev2_bounds]
  show ((sliceRange ((m : Int) - 1) (-1) (-1)).filterMap (items[·]?)).toArray = _
  rw [PySem.W.krv_sliceRange, PySem.W.krv_range, List.filterMap_reverse]
  have h := pick_run items 0 m
  have e : (List.range m).map (0 + ·) = List.range m := by
    rw [show ((0 + ·) : Nat → Nat) = id from funext fun k => Nat.zero_add k, List.map_id]
  rw [e, List.drop_zero] at h
  rw [h]
  rfl
def tRev2 (K : PySem.W.Frag) (te : TE) : TE := fun σ H Q => te σ H fun x H1 => ∃ a xs, x = .ref a ∧ SqL K H1 a xs ∧ xs ≠ [] ∧ ∀ p, H1 p = none → Q (.ref p) (upd H1 p (.lst xs.dropLast.reverse))
theorem pe_rev2 {X : Cx} {e : Expr} {te : TE} {k k2 : Nat} {p1 p2 p3 p4 p5 pos : Pos} (he : PE X e te) : PE X (.Subscript e (.Slice (some (.UnaryOp .USub (.Constant (.int 2) k2 p4) p5)) none (some (.UnaryOp .USub (.Constant (.int 1) k p1) p2)) p3) pos) (tRev2 X.K te) := by
  constructor
  intro pins s σ H Q I h
  refine Subscript_ (thn (he.run pins s σ H _ I h) fun v s1 ⟨x, H1, I1, r1, q1⟩ => ?_)
  obtain ⟨a, xs, ex, hx, hne, q⟩ := q1
  subst ex
  cases r1
  have hst : PO X (some (.UnaryOp .USub (.Constant (.int 1) k p1) p2)) (tPart (tUn (rU fun i => .int (-i)) (tC (.int 1)))) := po_some (pe_un un_neg pe_int)
  have hlo : PO X (some (.UnaryOp .USub (.Constant (.int 2) k2 p4) p5)) (tPart (tUn (rU fun i => .int (-i)) (tC (.int 2)))) := po_some (pe_un un_neg pe_int)
  refine wpAny_Slice (thn (hlo.run pins s1 σ H1 (fun o H2 => o = some (-2) ∧ H2 = H1) I1 ⟨2, rfl, -2, rfl, rfl, rfl⟩) fun vl s2 ⟨l, H2, I2, pl, el, e2⟩ => ?_)
  subst el e2
  refine thn (po_none.run pins s2 σ H2 (fun o H3 => o = none ∧ H3 = H2) I2 ⟨rfl, rfl⟩) fun vu s3 ⟨u, H3, I3, pu, eu, e3⟩ => ?_
  subst eu e3
  refine thn (hst.run pins s3 σ H3 (fun o H4 => o = some (-1) ∧ H4 = H3) I3 ⟨1, rfl, -1, rfl, rfl, rfl⟩) fun vs s4 ⟨o, H4, I4, ps, eo, e4⟩ => ?_
  subst eo e4
  have I5 : Inv X pins σ H4 { s4 with heap := s4.heap.push { cls := .type "slice", data := .fields #[vl, vu, vs] } } := I4.kept (t' := s4.toks) fun b ob q => Heap.get?_push_of_some _ q
  obtain ⟨its, r, ht, hz⟩ := I5.list hx
  have hlen := r.length
  have hpos : 0 < its.toArray.size := by
    rw [List.size_toArray, ← hlen]
    exact List.length_pos_iff.mpr hne
  show wpAny (model X.prog X.w) X.A (subscriptTail e (.Slice (some (.UnaryOp .USub (.Constant (.int 2) k2 p4) p5)) none (some (.UnaryOp .USub (.Constant (.int 1) k p1) p2)) p3) (.ref a) (.ref s4.heap.objs.size)) (L2.EP X pins σ Q) X.xe { s4 with heap := s4.heap.push { cls := .type "slice", data := .fields #[vl, vu, vs] } }
  refine tail_any (ops := [.ref a, .ref s4.heap.objs.size]) ht.isList.typeIs (PySem.slot_list_getitem.lookup) ?_ (by with_unfolding_all rfl)
  refine wpAny_getItem_list_slice ht.isList (Heap.IsSliceOf.new _ vl vu vs) pl pu ps (by decide) ?_ (by rw [List.size_toArray]; omega)
  rw [rev2_pick _ hpos]
  have er : (its.toArray.toList.take (its.toArray.size - 1)).reverse = its.dropLast.reverse := by
    rw [List.size_toArray, List.toList_toArray, List.dropLast_eq_take]
  rw [er]
  refine ⟨.ref _, _, I5.laid (t' := s4.toks) (o := .lst xs.dropLast.reverse) (fun b ob q => Heap.get?_push_of_some _ q) (Nat.le_refl _) ?_, rfl, q _ (I5.hok.fresh (Nat.le_refl _))⟩
  exact ⟨by rw [List.length_reverse, List.length_dropLast]; omega, _, 0, (r.dropLast).reverse, Heap.get?_push_size _ rfl⟩
theorem kpe_rev2 {X : Cx} {K : PySem.W.Frag} {e : Expr} {te : TE} {k k2 : Nat} {p1 p2 p3 p4 p5 pos : Pos} (he : PE X e te) (h : X.K = K := by rfl) : PE X (.Subscript e (.Slice (some (.UnaryOp .USub (.Constant (.int 2) k2 p4) p5)) none (some (.UnaryOp .USub (.Constant (.int 1) k p1) p2)) p3) pos) (tRev2 K te) := h ▸ pe_rev2 he
end W1

set_option maxRecDepth 100000
set_option maxHeartbeats 4000000
namespace W1
open PySem PyProof.Rows L2
/-! ### climbing, the ring -/
def upN (pl : List (Option Nat)) (x : Nat) : Nat → Nat
  | 0 => x
  | i + 1 => (oAt pl (upN pl x i)).getD 0
def Meet (pl : List (Option Nat)) (a b m : Nat) : Prop := upN pl a m = upN pl b m ∧ ∀ j, j < m → upN pl a j ≠ upN pl b j
theorem Meet.one {pl : List (Option Nat)} {a b m m' : Nat} (h : Meet pl a b m) (h' : Meet pl a b m') : m = m' := by
  rcases Nat.lt_trichotomy m m' with hl | hl | hl
  · exact absurd h.1 (h'.2 m hl)
  · exact hl
  · exact absurd h'.1 (h.2 m' hl)
def ringL (pl : List (Option Nat)) (a b m : Nat) : List Nat := (List.range (m + 1)).map (upN pl a) ++ ((List.range m).map (upN pl b)).reverse
/-- one behind the other, the first behind the last -/
def Cyc (ties : List (Int × Int)) (ns : List Nat) : Prop := ∀ i x y : Nat, ns[i]? = some x → ns[(i + 1) % ns.length]? = some y → adj ties x y
structure Ring (n : Nat) (ties : List (Int × Int)) (ns : List Nat) : Prop where
  three : 3 ≤ ns.length
  odd : ns.length % 2 = 1
  room : ∀ x ∈ ns, x < n
  nd : ns.Nodup
  cyc : Cyc ties ns
section
variable {ms : List Int} {ties : List (Int × Int)} {dl pl : List (Option Nat)} {rt : Nat → Nat} {r n : Nat}
theorem up_ok (B : Bfs ties n dl pl rt r) {x : Nat} (hx : oAt dl x ≠ none) : ∀ i, i ≤ dv dl x → oAt dl (upN pl x i) ≠ none ∧ dv dl (upN pl x i) + i = dv dl x ∧ rt (upN pl x i) = rt x
  | 0, _ => ⟨hx, rfl, rfl⟩
  | i + 1, hi => by
    obtain ⟨h1, h2, h3⟩ := up_ok B hx i (by omega)
    rcases B.par _ h1 with ⟨_, h4, _⟩ | ⟨p, h4, h5, h6, h7, h8⟩
    · omega
    · have e : upN pl x (i + 1) = p := by
        show (oAt pl (upN pl x i)).getD 0 = p
        rw [h4]
        rfl
      rw [e]
      exact ⟨h5, by omega, h8.symm.trans h3⟩
theorem up_step (B : Bfs ties n dl pl rt r) {x i : Nat} (hx : oAt dl x ≠ none) (hi : i < dv dl x) : oAt pl (upN pl x i) = some (upN pl x (i + 1)) ∧ adj ties (upN pl x (i + 1)) (upN pl x i) := by
  obtain ⟨h1, h2, h3⟩ := up_ok B hx i (by omega)
  rcases B.par _ h1 with ⟨_, h4, _⟩ | ⟨p, h4, h5, h6, h7, h8⟩
  · omega
  · have e : upN pl x (i + 1) = p := by
      show (oAt pl (upN pl x i)).getD 0 = p
      rw [h4]
      rfl
    rw [e]
    exact ⟨h4, h7⟩
theorem up_top (B : Bfs ties n dl pl rt r) {x : Nat} (hx : oAt dl x ≠ none) : upN pl x (dv dl x) = rt x := by
  obtain ⟨h1, h2, h3⟩ := up_ok B hx (dv dl x) (Nat.le_refl _)
  rcases B.par _ h1 with ⟨_, _, h4⟩ | ⟨p, h4, h5, h6, h7, h8⟩
  · rw [← h3, h4]
  · omega
/-- a root is its own -/
theorem root_dv (B : Bfs ties n dl pl rt r) {x : Nat} (hx : oAt dl x ≠ none) (h : rt x = x) : dv dl x = 0 := by
  obtain ⟨h1, h2, h3⟩ := up_ok B hx (dv dl x) (Nat.le_refl _)
  rw [up_top B hx, h] at h2
  omega
theorem root_root (B : Bfs ties n dl pl rt r) {x : Nat} (hx : oAt dl x ≠ none) : oAt dl (rt x) ≠ none ∧ rt (rt x) = rt x := by
  obtain ⟨h1, h2, h3⟩ := up_ok B hx (dv dl x) (Nat.le_refl _)
  rw [up_top B hx] at h1 h3
  exact ⟨h1, h3⟩
theorem nd_map : ∀ (k : Nat) (f : Nat → Nat), (∀ i j, i < k → j < k → f i = f j → i = j) → ((List.range k).map f).Nodup := fun k f hf => by
  rw [List.nodup_iff_pairwise_ne, List.pairwise_map]
  refine List.Pairwise.imp_of_mem ?_ (List.nodup_range (n := k))
  intro i j hi hj hne e
  exact hne (hf i j (List.mem_range.mp hi) (List.mem_range.mp hj) e)
theorem up_few (B : Bfs ties n dl pl rt r) {x : Nat} (hx : oAt dl x ≠ none) : dv dl x < n := by
  have h := nodup_len (a := (List.range (dv dl x + 1)).map (upN pl x)) (L := List.range n) (nd_map _ _ fun i j hi hj e => by
    have h1 := (up_ok B hx i (by omega)).2.1
    have h2 := (up_ok B hx j (by omega)).2.1
    rw [e] at h1
    omega) fun y hy => by
    obtain ⟨i, hi, rfl⟩ := List.mem_map.mp hy
    have := oAt_lt (up_ok B hx i (by have := List.mem_range.mp hi; omega)).1
    rw [B.lenD] at this
    exact List.mem_range.mpr this
  rw [List.length_map, List.length_range, List.length_range] at h
  omega
theorem meet_end (B : Bfs ties n dl pl rt r) {a b : Nat} (ha : oAt dl a ≠ none) (hab : adj ties a b) (hd : dv dl a = dv dl b) : upN pl a (dv dl a) = upN pl b (dv dl a) := by
  obtain ⟨h1, h2, h3⟩ := B.clo a b ha hab
  rw [up_top B ha]
  rw [hd, up_top B h1]
  exact h3.symm
theorem ring_ok (ok : PartsOk ms ties) (B : Bfs ties ms.length dl pl rt r) {a b m : Nat} (ha : oAt dl a ≠ none) (hab : adj ties a b) (hd : dv dl a = dv dl b) (hm : Meet pl a b m) : Ring ms.length ties (ringL pl a b m) := by
  obtain ⟨hb, _, _⟩ := B.clo a b ha hab
  have ne := (adj_ok ok hab).2.2
  have me := meet_end B ha hab hd
  have md : m ≤ dv dl a := Nat.le_of_not_lt fun h => hm.2 _ h me
  have m1 : 1 ≤ m := Nat.pos_of_ne_zero fun h => ne (by have := hm.1; rw [h] at this; exact this)
  have ln : (ringL pl a b m).length = 2 * m + 1 := by
    unfold ringL
    rw [List.length_append, List.length_reverse, List.length_map, List.length_map, List.length_range, List.length_range]
    omega
  have dA : ∀ i, i ≤ m → dv dl (upN pl a i) + i = dv dl a := fun i hi => (up_ok B ha i (by omega)).2.1
  have dB : ∀ i, i ≤ m → dv dl (upN pl b i) + i = dv dl a := fun i hi => by rw [hd]; exact (up_ok B hb i (by omega)).2.1
  have gA : ∀ i, i ≤ m → (ringL pl a b m)[i]? = some (upN pl a i) := fun i hi => by
    unfold ringL
    rw [List.getElem?_append_left (by rw [List.length_map, List.length_range]; omega), List.getElem?_map, List.getElem?_range (by omega)]
    rfl
  have gB : ∀ j, j < m → (ringL pl a b m)[2 * m - j]? = some (upN pl b j) := fun j hj => by
    unfold ringL
    rw [List.getElem?_append_right (by rw [List.length_map, List.length_range]; omega), List.length_map, List.length_range, List.getElem?_reverse (by rw [List.length_map, List.length_range]; omega), List.length_map, List.length_range, List.getElem?_map, show m - 1 - (2 * m - j - (m + 1)) = j by omega, List.getElem?_range hj]
    rfl
  refine ⟨by omega, by omega, fun x hx => ?_, ?_, fun i x y hx hy => ?_⟩
  · unfold ringL at hx
    rcases List.mem_append.mp hx with hx | hx
    · obtain ⟨i, hi, rfl⟩ := List.mem_map.mp hx
      rw [List.mem_range] at hi
      have := oAt_lt (up_ok B ha i (by omega)).1
      rw [B.lenD] at this
      exact this
    · obtain ⟨i, hi, rfl⟩ := List.mem_map.mp (List.mem_reverse.mp hx)
      rw [List.mem_range] at hi
      have := oAt_lt (up_ok B hb i (by omega)).1
      rw [B.lenD] at this
      exact this
  · unfold ringL
    have ndm : ∀ (k : Nat) (f : Nat → Nat), (∀ i j, i < k → j < k → f i = f j → i = j) → ((List.range k).map f).Nodup := fun k f hf => by
      rw [List.nodup_iff_pairwise_ne, List.pairwise_map]
      refine List.Pairwise.imp_of_mem ?_ (List.nodup_range (n := k))
      intro i j hi hj hne e
      exact hne (hf i j (List.mem_range.mp hi) (List.mem_range.mp hj) e)
    refine List.nodup_append.mpr ⟨ndm _ _ fun i j hi hj e => ?_, List.pairwise_reverse.mpr ((ndm m (upN pl b) fun i j hi hj e => ?_).imp fun h e => h e.symm), fun x hx y hy e => ?_⟩
    · have h1 := dA i (by omega)
      have h2 := dA j (by omega)
      rw [e] at h1
      omega
    · have h1 := dB i (by omega)
      have h2 := dB j (by omega)
      rw [e] at h1
      omega
    · obtain ⟨i, hi, rfl⟩ := List.mem_map.mp hx
      obtain ⟨j, hj, rfl⟩ := List.mem_map.mp (List.mem_reverse.mp hy)
      rw [List.mem_range] at hi hj
      have h1 := dA i (by omega)
      have h2 := dB j (by omega)
      rw [e] at h1
      have : i = j := by omega
      subst this
      exact hm.2 i hj e
  · have hil : i < 2 * m + 1 := by
      have := (List.getElem?_eq_some_iff.mp hx).1
      omega
    rw [ln] at hy
    by_cases h1 : i < m
    · rw [gA i (by omega)] at hx
      rw [Nat.mod_eq_of_lt (by omega), gA (i + 1) (by omega)] at hy
      rw [← Option.some.inj hx, ← Option.some.inj hy]
      exact adj_symm (up_step B ha (by omega)).2
    · by_cases h2 : i = m
      · subst h2
        rw [gA i (by omega)] at hx
        rw [Nat.mod_eq_of_lt (by omega), show i + 1 = 2 * i - (i - 1) by omega, gB (i - 1) (by omega)] at hy
        rw [← Option.some.inj hx, ← Option.some.inj hy, hm.1]
        have := (up_step (i := i - 1) B hb (by omega)).2
        rw [show i - 1 + 1 = i by omega] at this
        exact this
      · have hj : ∃ j, j < m ∧ i = 2 * m - j := ⟨2 * m - i, by omega, by omega⟩
        obtain ⟨j, hj, rfl⟩ := hj
        rw [gB j hj] at hx
        by_cases h3 : j = 0
        · subst h3
          rw [show (2 * m - 0 + 1) % (2 * m + 1) = 0 by rw [Nat.sub_zero, Nat.mod_self], gA 0 (by omega)] at hy
          rw [← Option.some.inj hx, ← Option.some.inj hy]
          exact adj_symm hab
        · rw [Nat.mod_eq_of_lt (by omega), show 2 * m - j + 1 = 2 * m - (j - 1) by omega, gB (j - 1) (by omega)] at hy
          rw [← Option.some.inj hx, ← Option.some.inj hy]
          have := (up_step (i := j - 1) B hb (by omega)).2
          rw [show j - 1 + 1 = j by omega] at this
          exact this
end
end W1

set_option maxRecDepth 100000
set_option maxHeartbeats 4000000
namespace W1
open PySem PyProof.Rows L2
local macro_rules | `(tactic| walk_at "rp") => `(tactic| first | assumption | exact Rp.int _ | exact Rp.bl _ | exact Rp.str _ | exact Rp.non | exact Rp.obj _ | (refine Rp.le (by assumption) ?_; walk_at "rp"))
local macro_rules | `(tactic| walk_at "ed") => `(tactic| first
  | exact ed_int | exact ed_str | exact ed_bl | exact ed_non
  | (refine ed_var rfl ?_; walk_at "rp")
  | (refine ed_ixT (ds := [_, _]) ?_ ed_int (by decide) rfl; walk_at "ed")
  | (refine ed_I0 ?_ ?_ <;> walk_at "ed")
  | (refine ed_B0 ?_ ?_ <;> walk_at "ed")
  | (refine ed_eqS ?_ ?_ rfl rfl rfl <;> walk_at "ed")
  | assumption)
local macro_rules | `(tactic| walk_at "ea") => `(tactic| first | exact ea_nil | (refine ea_cons ?_ ?_; walk_at "ed"; walk_at "ea"))

abbrev s_odd_ring : Stmt := topS 17
abbrev N_odd_ring : List Str := ["web", "depths", "parents", "tie", "one", "other", "left", "right"]
theorem sc_odd_ring : FnScope N_odd_ring ["web"] (defScope s_odd_ring) := ⟨rfl, rfl, rfl, by decide +kernel, rfl, by decide +kernel, by decide +kernel⟩
section
variable {K : PySem.W.Frag} {σ : L2.St} {H H' : Hp} {ta tb te : TE} {d : D}
theorem atI_last {xs : List V} {ds : List D} (r : Rps K H xs ds) {n : Nat} (hn : ds.length = n + 1) (e : ds[n]? = some d) : ∃ v, atI xs (-1) = some v ∧ Rp K H v d := by
  obtain ⟨v, h1, h2⟩ := r.at e
  refine ⟨v, ?_, h2⟩
  unfold atI ixN
  rw [if_neg (by decide), if_pos (by rw [r.len, hn]; omega), r.len, hn]
  show xs[(-1 + ((n + 1 : Nat) : Int)).toNat]? = some v
  rw [show (-1 + ((n + 1 : Nat) : Int)).toNat = n by omega]
  exact h1
theorem ed_last {ds : List D} {n : Nat} (ha : ED K ta σ H (.lst ds)) (hb : ED K tb σ H (.int (-1))) (hn : ds.length = n + 1) (e : ds[n]? = some d) : ED K (tOp (rIxL K) ta tb) σ H d :=
  ed_op ha hb fun x y H2 _ r1 r2 Q q => by
    obtain ⟨a, xs, rfl, s, nh, rr⟩ := rp_lst r1
    obtain ⟨v, h1, h2⟩ := atI_last rr hn e
    exact ⟨a, xs, -1, v, rfl, rp_int r2, SqL.of s, h1, q v d H2 (Le.refl _) rfl h2⟩
theorem rps_dropLast : ∀ {vs : List V} {ds : List D}, Rps K H vs ds → Rps K H vs.dropLast ds.dropLast
  | _, _, .nil => .nil
  | _, _, .cons r .nil => .nil
  | _, _, .cons r (.cons r2 rr) => by
    rw [List.dropLast_cons_cons, List.dropLast_cons_cons]
    exact .cons r (rps_dropLast (.cons r2 rr))
theorem ed_rev2 {ds : List D} (h : ED K ta σ H (.lst ds)) (hne : ds ≠ []) (hu : Uni ds.dropLast.reverse) : ED K (tRev2 K ta) σ H (.lst ds.dropLast.reverse) := fun H1 e Q q => h H1 e _ fun v d H2 e2 p r => by
  have p' : d = .lst ds := p
  subst p'
  obtain ⟨a, xs, rfl, s, nh, rr⟩ := rp_lst r
  refine ⟨a, xs, rfl, SqL.of s, fun h => hne (by subst h; cases rr; rfl), fun p np => ?_⟩
  have rf := (rps_rev (rps_dropLast rr)).le (Le.new (o := .lst xs.dropLast.reverse) np)
  exact q _ _ _ (e2.trans (Le.new np)) rfl (.lst upd_same (hu.notH rf) rf)
end
theorem q_while {t : TT} {D1 : Ends} {tu tz : TS} {σ : L2.St} {H : Hp} {W : Nat → L2.St → Hp → Prop} {m0 : Nat} {b : Nat → L2.St → Hp → Bool} (h0 : W m0 σ H) (ht : ∀ m σ H, W m σ H → EB t σ H (b m σ H))
    (k : ∀ m σ H, W m σ H → b m σ H = true → ∀ H1, Le H H1 → ∃ N : L2.St → Hp → Prop, (∀ σ' H', N σ' H' → ∃ m', m' < m ∧ W m' σ' H') ∧ tu { D1 with nx := N, ct := N, bk := tz D1 } σ H1)
    (kz : ∀ m σ H, W m σ H → b m σ H = false → ∀ H1, Le H H1 → tz D1 σ H1) : tSeq (tWhile t tu) tz D1 σ H := s_while (D1 := { D1 with nx := tz D1 }) h0 ht k kz
abbrev dN (q : List Nat) : List D := q.map fun x : Nat => D.int (x : Int)
theorem uni_N (q : List Nat) : Uni (dN q) := .inl fun d hd => by
  obtain ⟨i, _, rfl⟩ := List.mem_map.mp hd
  exact ⟨_, rfl⟩
abbrev ways (pl : List (Option Nat)) (x k : Nat) : List Nat := (List.range (k + 1)).map (upN pl x)
theorem ways_len (pl : List (Option Nat)) (x k : Nat) : (ways pl x k).length = k + 1 := by
  rw [List.length_map, List.length_range]
theorem ways_at (pl : List (Option Nat)) (x k : Nat) : (dN (ways pl x k))[k]? = some (.int (upN pl x k : Int)) := by
  rw [List.getElem?_map, List.getElem?_map, List.getElem?_range (by omega)]
  rfl
theorem ways_more (pl : List (Option Nat)) (x k : Nat) : vN (ways pl x k) ++ [.int (upN pl x (k + 1) : Int)] = vN (ways pl x (k + 1)) := by
  unfold ways
  rw [List.range_succ (n := k + 1), List.map_append, vN, vN, List.map_append]
  rfl
section
variable {P : Program} {w : World} {K : PySem.W.Frag} {mg : Str → Option Value} {base : Heap} {C : Addr}
def R_ring (K : PySem.W.Frag) (C : Addr) : List D → Hp → Pd → Prop := fun ds H P => ∃ a ms ties, ds = [.obj (.ref a)] ∧ WebAt K C H a ms ties ∧ PartsOk ms ties ∧
  P = fun d _ => match ties.find? (sameD (searchS ties ms.length ms.length).1) with
    | none => d = .non
    | some p => ∃ m, Meet (searchS ties ms.length ms.length).2 p.1.toNat p.2.toNat m ∧ m ≤ 60 ∧ d = .tup (dN (ringL (searchS ties ms.length ms.length).2 p.1.toNat p.2.toNat m))
theorem ok_ring (T : GTxt mg) (W : WTxt K C) (g : GDef K mg "odd_ring" s_odd_ring ["web"]) (Gsearch_trees : Def P w K mg base 2 "search_trees" ["web"] (spD K (R_search K C))) (Gtie_within_depth : Def P w K mg base 1 "tie_within_depth" ["web", "depths"] (spD K (R_twd K C))) : Def P w K mg base 3 "odd_ring" ["web"] (spD K (R_ring K C)) := by
  refine defD g sc_odd_ring (fun ds H Pd h => ?_) fun cdv A0 outer s0 f H vs ds Pd Q E hr r h q => ?_
  · obtain ⟨a, ms, ties, rfl, _⟩ := h
    rfl
  obtain ⟨a, ms, ties, rfl, x, ok, rfl⟩ := h
  obtain ⟨v1, rfl, r1⟩ := rps1 r
  have all := search_all ok
  obtain ⟨rt, bf⟩ := search_ok ok ms.length (Nat.le_refl _)
  have few := ok.few
  refine ⟨_, (pss_cons (ps_asg (pe_def Gsearch_trees (hr.mono (by decide)) (pa_cons (pv 0) pa_nil)) (kpg_tup (K := K) (n := 2) rfl (pgs_cons (pg_name (i := 1) sc_odd_ring.nd rfl (Or.inl rfl)) (pgs_cons (pg_name (i := 2) sc_odd_ring.nd rfl (Or.inl rfl)) pgs_nil))))
    (pss_cons (ps_set (i := 3) sc_odd_ring.nd rfl (Or.inl rfl) (pe_def Gtie_within_depth (hr.mono (by decide)) (pa_cons (pv 0) (pa_cons (pv 1) pa_nil))))
    (pss_cons (ps_if (pt_cmpR op_isN (pv 3) pe_non (nomark _))
      (pss_one (ps_ret pe_non))
      pss_nil)
    (pss_cons (ps_asg (pv 3) (kpg_tup (K := K) (n := 2) rfl (pgs_cons (pg_name (i := 4) sc_odd_ring.nd rfl (Or.inl rfl)) (pgs_cons (pg_name (i := 5) sc_odd_ring.nd rfl (Or.inl rfl)) pgs_nil))))
    (pss_cons (ps_set (i := 6) sc_odd_ring.nd rfl (Or.inl rfl) (pe_lst (pa_cons (pv 4) pa_nil)))
    (pss_cons (ps_set (i := 7) sc_odd_ring.nd rfl (Or.inl rfl) (pe_lst (pa_cons (pv 5) pa_nil)))
    (pss_cons (ps_while PassesOwn.never (pt_cmpR op_ne (pe_ix (kix_list (K := K)) (pv 6) (pe_un un_neg pe_int) (fun _ _ => rfl)) (pe_ix (kix_list (K := K)) (pv 7) (pe_un un_neg pe_int) (fun _ _ => rfl)) (nomark _))
      (pss_cons (ps_expr (pe_bm PySem.F.plainAttrs_list PySem.F.slot_list_append PySem.F.type_list_append mt_append (pv 6) (pa_cons (pe_ix (kix_list (K := K)) (pv 2) (pe_ix (kix_list (K := K)) (pv 6) (pe_un un_neg pe_int) (fun _ _ => rfl)) (fun _ _ => rfl)) pa_nil)))
    (pss_one (ps_expr (pe_bm PySem.F.plainAttrs_list PySem.F.slot_list_append PySem.F.type_list_append mt_append (pv 7) (pa_cons (pe_ix (kix_list (K := K)) (pv 2) (pe_ix (kix_list (K := K)) (pv 7) (pe_un un_neg pe_int) (fun _ _ => rfl)) (fun _ _ => rfl)) pa_nil))))))
    (pss_one (ps_ret (pe_callTy (kc_tuple (K := K)) (by rfl) T.n_tuple boot_tuple (pa_cons (pe_op op_cat (pv 6) (kpe_rev2 (K := K) (pv 7))) pa_nil))))))))))), ?_⟩
  generalize hst : searchS ties ms.length ms.length = st at *
  obtain ⟨dl, pl⟩ := st
  refine q_tup2 (K := K) (d1 := .lst (dl.map eO)) (d2 := .lst (pl.map eO)) (ed_call (ea_cons (ed_var rfl r1) ea_nil) fun H1 e1 => ⟨a, ms, ties, rfl, x.le e1, ok, by rw [hst]; rfl⟩) fun u w1 H1 e1 q1 q2 => ?_
  dsimp only at bf all q
  refine q_asgD (K := K) (d := eOP (ties.find? (sameD dl))) (ed_call (ea_cons (ed_var rfl (r1.le e1)) (ea_cons (ed_var rfl q1) ea_nil)) fun H2 e2 => ⟨a, ms, ties, dl, rfl, x.le (e1.trans e2), ok, all, rfl⟩) fun vt H2 e2 q3 => ?_
  refine q_whenB (b := decide (ties.find? (sameD dl) = none)) (et_test (K := K) (ed_isOP (ed_var rfl q3))) (fun hn H3 e3 => ?_) fun hn H3 e3 => ?_
  · rw [of_decide_eq_true hn] at q
    exact s_retD (K := K) (d := .non) ed_non fun v H5 e5 r5 => q v _ H5 (e1.trans (e2.trans (e3.trans e5))) rfl r5
  have hn := of_decide_eq_false hn
  obtain ⟨p, hp⟩ := Option.ne_none_iff_exists'.mp hn
  rw [hp] at q q3
  have pm := List.mem_of_find?_eq_some hp
  obtain ⟨t1, t2, t3⟩ := ok.tie pm
  have same0 : sameD dl p = true := List.find?_some hp
  have same := of_decide_eq_true same0
  obtain ⟨A, hA⟩ : ∃ A : Nat, p.1 = (A : Int) := ⟨p.1.toNat, by omega⟩
  obtain ⟨B, hB⟩ : ∃ B : Nat, p.2 = (B : Int) := ⟨p.2.toNat, by omega⟩
  have eA : p.1.toNat = A := by omega
  have eB : p.2.toNat = B := by omega
  rw [eA, eB] at same
  dsimp only at q
  rw [eA, eB] at q
  have ra : oAt dl A ≠ none := all A (by omega)
  have rb : oAt dl B ≠ none := all B (by omega)
  have hab : adj ties A B := adj_iff.mpr (.inl (by rw [← hA, ← hB]; exact pm))
  have dn : dv dl A ≤ 60 := by
    have := up_few bf ra
    omega
  refine q_tup2 (K := K) (d1 := .int (A : Int)) (d2 := .int (B : Int)) (ed_eq (ed_var rfl (q3.le e3)) (by show D.tup [.int p.1, .int p.2] = _; rw [hA, hB])) fun wa wb H4 e4 qa qb => ?_
  have ev := rp_int qa
  subst ev
  have ev := rp_int qb
  subst ev
  have e04 := e1.trans (e2.trans (e3.trans e4))
  have q2' := q2.le (e2.trans (e3.trans e4))
  -- left, right
  refine q_asgF (K := K) (ef_lst (ds := [.int (A : Int)]) (ea_cons (ed_var rfl (.int _)) ea_nil) (by show 1 ≤ 100000; decide) rfl) fun L us ds H5 nL e5 hL nhL rrL hd => ?_
  subst hd
  obtain ⟨u1, rfl, ru1⟩ := rps1 rrL
  have ev := rp_int ru1
  subst ev
  refine q_asgF (K := K) (ef_lst (ds := [.int (B : Int)]) (ea_cons (ed_var rfl (.int _)) ea_nil) (by show 1 ≤ 100000; decide) rfl) fun R us ds H6 nR e6 hR nhR rrR hd => ?_
  subst hd
  obtain ⟨u1, rfl, ru1⟩ := rps1 rrR
  have ev := rp_int ru1
  subst ev
  have nRL : L ≠ R := fun e => by rw [e, nR] at hL; cases hL
  have nR4 := e5.fresh nR
  have hL6 : H6 L = some (.lst (vN (ways pl A 0))) := e6.lst hL (notH_N [A])
  have hR6 : H6 R = some (.lst (vN (ways pl B 0))) := hR
  have rL : ∀ {H' : Hp} {k : Nat}, H' L = some (.lst (vN (ways pl A k))) → Rp K H' (.ref L) (.lst (dN (ways pl A k))) := fun h => .lst h (notH_N _) (rps_N _)
  have rR : ∀ {H' : Hp} {k : Nat}, H' R = some (.lst (vN (ways pl B k))) → Rp K H' (.ref R) (.lst (dN (ways pl B k))) := fun h => .lst h (notH_N _) (rps_N _)
  have tst : ∀ {H' : Hp} {k : Nat} {y1 y2 y3 y4 y5 y6 : Option V}, H' L = some (.lst (vN (ways pl A k))) → H' R = some (.lst (vN (ways pl B k))) → ED K (tOp rNe (tOp (rIxL K) (tVar 6) (tUn (rU fun i => .int (-i)) (tC (.int 1)))) (tOp (rIxL K) (tVar 7) (tUn (rU fun i => .int (-i)) (tC (.int 1))))) [y1, y2, y3, y4, y5, y6, some (.ref L), some (.ref R)] H' (.bl (!decide (upN pl A k = upN pl B k))) := fun {H' k} _ _ _ _ _ _ h1 h2 => by
    refine ed_eq (ed_neS (ed_last (ed_var rfl (rL h1)) (ed_neg ed_int) (by rw [List.length_map, ways_len]) (ways_at _ _ _)) (ed_last (ed_var rfl (rR h2)) (ed_neg ed_int) (by rw [List.length_map, ways_len]) (ways_at _ _ _)) rfl rfl rfl) ?_
    unfold vOf
    congr 2
    exact decide_eq_decide.mpr ⟨fun h => by injection h with h; omega, fun h => by rw [h]⟩
  refine q_while (W := fun m σ H' => ∃ k, m = dv dl A - k ∧ k ≤ dv dl A ∧ (∀ j, j < k → upN pl A j ≠ upN pl B j) ∧ σ = [some v1, some u, some w1, some vt, some (.int (A : Int)), some (.int (B : Int)), some (.ref L), some (.ref R)] ∧ Le H4 H' ∧ H' L = some (.lst (vN (ways pl A k))) ∧ H' R = some (.lst (vN (ways pl B k))))
    (m0 := dv dl A) (b := fun m _ _ => !decide (upN pl A (dv dl A - m) = upN pl B (dv dl A - m))) ⟨0, rfl, Nat.zero_le _, fun j hj => absurd hj (Nat.not_lt_zero _), rfl, e5.trans e6, hL6, hR6⟩ ?_ ?_ ?_
  · rintro m σ H7 ⟨k, rfl, hk, _, rfl, e7, l1, l2⟩
    rw [show dv dl A - (dv dl A - k) = k by omega]
    exact et_test (K := K) (tst l1 l2)
  · rintro m σ H7 ⟨k, rfl, hk, hno, rfl, e7, l1, l2⟩ hb H8 e8
    rw [show dv dl A - (dv dl A - k) = k by omega] at hb
    have hne : upN pl A k ≠ upN pl B k := by simpa using hb
    have kd : k < dv dl A := by
      rcases Nat.lt_or_ge k (dv dl A) with h | h
      · exact h
      · have ek : k = dv dl A := by omega
        rw [ek] at hne
        exact absurd (meet_end bf ra hab same) hne
    refine ⟨fun σ' H' => σ' = [some v1, some u, some w1, some vt, some (.int (A : Int)), some (.int (B : Int)), some (.ref L), some (.ref R)] ∧ Le H4 H' ∧ H' L = some (.lst (vN (ways pl A (k + 1)))) ∧ H' R = some (.lst (vN (ways pl B (k + 1)))), fun σ' H' ⟨h1, h2, h3, h4⟩ => ⟨dv dl A - (k + 1), by omega, k + 1, rfl, by omega, fun j hj => ?_, h1, h2, h3, h4⟩, ?_⟩
    · rcases Nat.lt_succ_iff_lt_or_eq.mp hj with h | h
      · exact hno j h
      · rw [h]
        exact hne
    have l1' := e8.lst l1 (notH_N _)
    have l2' := e8.lst l2 (notH_N _)
    have ba := up_ok bf ra k (by omega)
    have bb := up_ok bf rb k (by omega)
    have sa := (up_step bf ra kd).1
    have sb := (up_step bf rb (by rw [← same]; exact kd)).1
    have pa : upN pl A k < pl.length := by
      have := oAt_lt ba.1
      rw [bf.lenD] at this
      rw [bf.lenP]
      exact this
    have pb : upN pl B k < pl.length := by
      have := oAt_lt bb.1
      rw [bf.lenD] at this
      rw [bf.lenP]
      exact this
    have w8 := q2'.le (e7.trans e8)
    -- left.append(parents[left[-1]])
    refine q_app (K := K) (P := is (.int (upN pl A (k + 1) : Int))) l1' (notH_N _) (ed_var rfl (.obj _)) (fun H9 e9 => ed_eq (ed_ixL (ed_var rfl (w8.le e9)) (ed_last (ed_var rfl (rL (e9.lst l1' (notH_N _)))) (ed_neg ed_int) (by rw [List.length_map, ways_len]) (ways_at _ _ _)) (by omega) (eO_at rfl pa)) (by rw [sa]; rfl)) (by rw [List.length_map, ways_len]; omega) fun y d H9 e9 p9 r9 l9 => ?_
    have p9' : d = .int (upN pl A (k + 1) : Int) := p9
    subst p9'
    have ev := rp_int r9
    subst ev
    rw [ways_more]
    have l2'' : upd H9 L (.lst (vN (ways pl A (k + 1)))) R = some (.lst (vN (ways pl B k))) := by
      rw [upd_ne nRL.symm]
      exact e9.lst l2' (notH_N _)
    have e79 : Le H4 (upd H9 L (.lst (vN (ways pl A (k + 1))))) := (e7.trans (e8.trans e9)).mut nL
    have w9 := q2'.le e79
    refine s_app (K := K) (P := is (.int (upN pl B (k + 1) : Int))) l2'' (notH_N _) (ed_var rfl (.obj _)) (fun H10 e10 => ed_eq (ed_ixL (ed_var rfl (w9.le e10)) (ed_last (ed_var rfl (rR (e10.lst l2'' (notH_N _)))) (ed_neg ed_int) (by rw [List.length_map, ways_len]) (ways_at _ _ _)) (by omega) (eO_at rfl pb)) (by rw [sb]; rfl)) (by rw [List.length_map, ways_len]; omega) fun y d H10 e10 p10 r10 l10 => ?_
    have p10' : d = .int (upN pl B (k + 1) : Int) := p10
    subst p10'
    have ev := rp_int r10
    subst ev
    rw [ways_more]
    exact ⟨rfl, (e79.trans e10).mut nR4, by rw [upd_ne nRL]; exact e10.lst upd_same (notH_N _), upd_same⟩
  · rintro m σ H7 ⟨k, rfl, hk, hno, rfl, e7, l1, l2⟩ hb H8 e8
    rw [show dv dl A - (dv dl A - k) = k by omega] at hb
    have heq : upN pl A k = upN pl B k := by simpa using hb
    have l1' := e8.lst l1 (notH_N _)
    have l2' := e8.lst l2 (notH_N _)
    have ering : dN (ways pl A k) ++ (dN (ways pl B k)).dropLast.reverse = dN (ringL pl A B k) := by
      unfold ringL ways dN
      rw [List.range_succ (n := k), List.map_append, List.map_append (l₁ := (List.range k)), List.map_append]
      simp
    have hU := uni_N (ringL pl A B k)
    rw [← ering] at hU
    have hU2 : Uni (dN (ways pl B k)).dropLast.reverse := .inl fun d hd => by
      obtain ⟨i, _, rfl⟩ := List.mem_map.mp (List.dropLast_subset _ (List.mem_reverse.mp hd))
      exact ⟨_, rfl⟩
    refine s_retD (K := K) (d := .tup (dN (ringL pl A B k))) (ed_tupOf (ed_eq (ed_cat (ed_var rfl (rL l1')) (ed_rev2 (ed_var rfl (rR l2')) (by intro h; have := congrArg List.length h; rw [List.length_map, ways_len] at this; cases this) hU2) (by rw [List.length_reverse, List.length_dropLast, List.length_map, ways_len, List.length_map, ways_len]; omega) hU) (by rw [ering]))) fun v H9 e9 r9 => q v _ H9 (e04.trans ((e7.trans e8).trans e9)) ⟨k, ⟨heq, hno⟩, by omega, rfl⟩ r9
end
end W1

set_option maxRecDepth 100000
set_option maxHeartbeats 4000000
/-! own rules: len(set(t)) of a tuple of ints; a pair among pairs -/
namespace W1
open PySem PySem.Calls PySem.Spec PyProof PyProof.Rows L2 RZ
def tLenSetT (K : PySem.W.Frag) (ta : TE) : TE := fun σ H Q => ta σ H fun x H1 => ∃ (l : Addr) (ns : List Int), x = .ref l ∧ SqT K H1 l (ns.map V.int) ∧ ns.length ≤ 4000 ∧ ∀ c : Nat, c ≤ ns.length → (c = ns.length ↔ ns.Nodup) → Q (.int (c : Nat)) H1
theorem nodup_lenI : ∀ {a L : List Int}, a.Nodup → (∀ x ∈ a, x ∈ L) → a.length ≤ L.length
  | [], _, _, _ => Nat.zero_le _
  | x :: a, L, h, hs => by
    obtain ⟨h1, h2⟩ := List.nodup_cons.mp h
    have hx : x ∈ L := hs x (List.mem_cons_self ..)
    have ih := nodup_lenI (L := L.erase x) h2 fun y hy => (List.mem_erase_of_ne (fun e : y = x => h1 (by rw [← e]; exact hy))).mpr (hs y (List.mem_cons_of_mem _ hy))
    rw [List.length_erase_of_mem hx] at ih
    have : 0 < L.length := List.length_pos_of_mem hx
    rw [List.length_cons]
    omega
theorem nodup_of_len : ∀ {a L : List Int}, a.Nodup → (∀ x ∈ L, x ∈ a) → a.length = L.length → (∀ x ∈ a, x ∈ L) → L.Nodup
  | a, [], _, _, _, _ => List.nodup_nil
  | a, y :: L, h, hs, hl, hc => by
    have hy : y ∈ a := hs y (List.mem_cons_self ..)
    have hyL : y ∉ L := fun hm => by
      have := nodup_lenI (L := L) h fun x hx => by
        rcases List.mem_cons.mp (hc x hx) with e | e
        · rw [e]
          exact hm
        · exact e
      rw [hl, List.length_cons] at this
      omega
    refine List.nodup_cons.mpr ⟨hyL, nodup_of_len (a := a.erase y) (h.erase y) (fun x hx => ?_) ?_ fun x hx => ?_⟩
    · exact (List.mem_erase_of_ne (fun e : x = y => hyL (e ▸ hx))).mpr (hs x (List.mem_cons_of_mem _ hx))
    · rw [List.length_erase_of_mem hy, hl, List.length_cons]
      omega
    · have hx' := (h.mem_erase_iff).mp hx
      rcases List.mem_cons.mp (hc x hx'.2) with e | e
      · exact absurd e hx'.1
      · exact e
theorem pe_lenSetT {X : Cx} {a : Expr} {ta : TE} {p p2 q pos : Pos} (hg : Gl X "len") (hm : X.mg "len" = none) (hg2 : Gl X "set") (hm2 : X.mg "set" = none) (ha : PE X a ta) (hc : X.calm = true := by rfl)
    (na : starEach [a] X.env = (false, eval a X.env) :: starEach [] X.env := by rfl) : PE X (.Call (.Name "len" p) [.Call (.Name "set" p2) [a] [] q] [] pos) (tLenSetT X.K ta) := by
  refine ⟨fun pins s σ H Q I h => ?_⟩
  refine Call_ (ld_blt I hg hm PySem.boot_len ?_)
  refine PyProof.Rows.callWith_builtin1 (PyProof.Rows.args_cons ?_ rfl) rfl rfl
  refine Call_ (ld_blt I hg2 hm2 PyProof.Rows.boot_set ?_)
  refine PyProof.Rows.callWith_type1 (PyProof.Rows.args_cons (thn (ha.run pins s σ H _ I h) fun v s1 ⟨x, H1, I1, r1, q1⟩ => PyProof.Rows.args_nil ?_) na) na rfl
  obtain ⟨l, ns, rfl, hq, hl, q1⟩ := q1
  cases r1
  obtain ⟨its, r, pl, hz⟩ := I1.tuple hq
  refine call_set_tupI ns (I1.ok.hd hc) pl (by simpa using intsAre_vals r) (by unfold scanBound; omega) fun h' tk c hS hc2 hk => ?_
  refine PyProof.Rows.args_nil ?_
  have hS2 := hS.setOf (P := X.prog)
  obtain ⟨o, es, ep, t, ho, hex, hd, g, nd, hm, hb, hf, hn, _⟩ := hS
  have I2 : Inv X pins σ H1 { s1 with heap := h', toks := tk } := I1.kept fun b o e => hk b o e
  have hmem : ∀ k, k ∈ es.toList.map keyOf ↔ k ∈ ns := fun k => (hm k).symm.trans decide_eq_true_iff
  have hlen : (es.toList.map keyOf).length = c := by rw [List.length_map, Array.length_toList, hn]
  have hcn : c = ns.length ↔ ns.Nodup := by
    constructor
    · intro e
      exact nodup_of_len nd (fun x hx => (hmem x).mpr hx) (by rw [hlen, e]) fun x hx => (hmem x).mp hx
    · intro h
      have := nodup_lenI h fun x hx => (hmem x).mpr hx
      rw [hlen] at this
      omega
  refine call_len_set ho hex hd hf (by rw [hn] <;> omega) ⟨.int c, H1, I2.tok _, ⟨_, by rw [hn]⟩, q1 c hc2 hcn⟩
theorem kpe_lenSetT {X : Cx} {K : PySem.W.Frag} {a : Expr} {ta : TE} {p p2 q pos : Pos} (hg : Gl X "len") (hm : X.mg "len" = none) (hg2 : Gl X "set") (hm2 : X.mg "set" = none) (ha : PE X a ta) (hc : X.calm = true := by rfl)
    (na : starEach [a] X.env = (false, eval a X.env) :: starEach [] X.env := by rfl) (h : X.K = K := by rfl) : PE X (.Call (.Name "len" p) [.Call (.Name "set" p2) [a] [] q] [] pos) (tLenSetT K ta) := h ▸ pe_lenSetT hg hm hg2 hm2 ha hc na
theorem ed_lenSetT {K : PySem.W.Frag} {σ : L2.St} {H : Hp} {ta : TE} {ns : List Int} (h : ED K ta σ H (.tup (ns.map .int))) (hl : ns.length ≤ 4000) : EP K (tLenSetT K ta) σ H (fun d _ => ∃ c : Nat, d = .int (c : Int) ∧ c ≤ ns.length ∧ (c = ns.length ↔ ns.Nodup)) := fun H1 e Q q => h H1 e _ fun v d H2 e2 p r => by
  have p' : d = .tup (ns.map .int) := p
  subst p'
  obtain ⟨a, xs, rfl, s, rr⟩ := rp_tup r
  have ex := ints_rps rr
  subst ex
  exact ⟨a, ns, rfl, s, hl, fun c h1 h2 => q _ (.int (c : Int)) H2 e2 ⟨c, rfl, h1, h2⟩ (.int _)⟩
/-! ### a pair among pairs -/
def pdP (p : Int × Int) : PyData := .tuple [.int p.1, .int p.2]
def rInP (K : PySem.W.Frag) : R2 := fun x y H Q => ∃ (p : Int × Int) (ps : List (Int × Int)), L2.Dp K H x (pdP p) ∧ L2.Dp K H y (.tuple (ps.map pdP)) ∧ Q (.bl (decide (p ∈ ps))) H
theorem pdP_lay : ∀ ps : List (Int × Int), PyData.canLayAll0 (ps.map pdP) = true
  | [] => rfl
  | p :: ps => by
    have ih := pdP_lay ps
    simp [pdP, PyData.canLayAll0, PyData.canLay0, ih] at ih ⊢
theorem pdP_eqv (p q : Int × Int) : PyData.eqv (pdP q) (pdP p) = decide (q = p) := by
  obtain ⟨a, b⟩ := p
  obtain ⟨c, d⟩ := q
  simp [pdP, PyData.eqv, PyData.eqvAll, Prod.ext_iff, Bool.beq_eq_decide_eq]
theorem op_inP {X : Cx} (hu : X.A.units + 64 < cLine) : OpR X (compareOp .In) (rInP X.K) := by
  intro pins s σ H x y v u Q I rx ry h
  obtain ⟨p, ps, hd, he, q⟩ := h
  obtain ⟨as, r1⟩ := L2.Dp.reads I (pdP p) x v hd rx
  obtain ⟨bs, r2⟩ := L2.Dp.reads I (.tuple (ps.map pdP)) y u he ry
  have hdep : (pdP p).depth ≤ 60 := by
    simp [pdP, PyData.depth, PyData.depthAll]
  refine SeqAt.in_tuple_reads r2 r1 (pdP_lay ps) (by simp [pdP, PyData.canLay0, PyData.canLayAll0]) (Nat.lt_of_le_of_lt (Nat.add_le_add_left (Nat.le_trans (Nat.min_le_right _ _) hdep) _) (by omega)) ⟨.bl _, H, I, rfl, ?_⟩
  have e : ((ps.map pdP).any fun y => PyData.eqv y (pdP p)) = decide (p ∈ ps) := by
    rw [List.any_map]
    by_cases hp : p ∈ ps
    · rw [decide_eq_true hp]
      exact List.any_eq_true.mpr ⟨p, hp, by show PyData.eqv (pdP p) (pdP p) = true; rw [pdP_eqv, decide_eq_true rfl]⟩
    · rw [decide_eq_false hp]
      refine List.any_eq_false.mpr fun z hz => ?_
      show ¬ PyData.eqv (pdP z) (pdP p) = true
      rw [pdP_eqv]
      exact fun h => hp (of_decide_eq_true h ▸ hz)
  rw [e]
  exact q
theorem kop_inP {X : Cx} {K : PySem.W.Frag} (hu : X.A.units + 64 < cLine) (h : X.K = K := by rfl) : OpR X (compareOp .In) (rInP K) := h ▸ op_inP hu
theorem rp_pdP {K : PySem.W.Frag} {H : Hp} {v : V} {p : Int × Int} (r : Rp K H v (eP p)) : L2.Dp K H v (pdP p) := by
  obtain ⟨a, xs, rfl, s, rr⟩ := rp_tup r
  obtain ⟨w1, w2, rfl, q1, q2⟩ := rps2 rr
  have ew1 := rp_int q1
  have ew2 := rp_int q2
  subst ew1 ew2
  exact .tup s (.cons (.int _) (.cons (.int _) .nil))
theorem rps_pdP {K : PySem.W.Frag} {H : Hp} : ∀ {ps : List (Int × Int)} {vs : List V}, Rps K H vs (ps.map eP) → DpAll K H vs (ps.map pdP)
  | [], _, r => by cases r; exact .nil
  | p :: ps, _, r => by
    rw [List.map_cons] at r
    cases r with
    | cons r rr => exact .cons (rp_pdP r) (rps_pdP rr)
theorem ed_inP {K : PySem.W.Frag} {σ : L2.St} {H : Hp} {ta tb : TE} {p : Int × Int} {ps : List (Int × Int)} (h : ED K ta σ H (eP p)) (h2 : ED K tb σ H (.tup (ps.map eP))) : ED K (tOp (rInP K) ta tb) σ H (.bl (decide (p ∈ ps))) := ed_op h h2 fun v w H2 _ r1 r2 Q q => by
  obtain ⟨a, xs, rfl, s, rr⟩ := rp_tup r2
  exact ⟨p, ps, rp_pdP r1, .tup s (rps_pdP rr), q _ _ H2 (Le.refl _) rfl (.bl _)⟩
end W1

set_option maxRecDepth 100000
set_option maxHeartbeats 4000000
namespace W1
open PySem PyProof.Rows L2 RZ
local macro_rules | `(tactic| walk_at "rp") => `(tactic| first | assumption | exact Rp.int _ | exact Rp.bl _ | exact Rp.str _ | exact Rp.non | exact Rp.obj _ | (refine Rp.le (by assumption) ?_; walk_at "rp"))
local macro_rules | `(tactic| walk_at "ed") => `(tactic| first
  | exact ed_int | exact ed_str | exact ed_bl | exact ed_non
  | (refine ed_var rfl ?_; walk_at "rp")
  | (refine ed_ixT (ds := [_, _]) ?_ ed_int (by decide) rfl; walk_at "ed")
  | (refine ed_I0 ?_ ?_ <;> walk_at "ed")
  | (refine ed_B0 ?_ ?_ <;> walk_at "ed")
  | (refine ed_eqS ?_ ?_ rfl rfl rfl <;> walk_at "ed")
  | assumption)
local macro_rules | `(tactic| walk_at "ea") => `(tactic| first | exact ea_nil | (refine ea_cons ?_ ?_; walk_at "ed"; walk_at "ea"))

abbrev s_is_odd_ring : Stmt := topS 18
abbrev N_is_odd_ring : List Str := ["web", "thing", "room", "at"]
theorem sc_is_odd_ring : FnScope N_is_odd_ring ["web", "thing"] (defScope s_is_odd_ring) := ⟨rfl, rfl, rfl, by decide +kernel, rfl, by decide +kernel, by decide +kernel⟩
abbrev s__law_int : Stmt := topS 32
abbrev N__law_int : List Str := ["_law_thing", "_law_least", "_law_most"]
theorem sc__law_int : FnScope N__law_int ["_law_thing", "_law_least", "_law_most"] (defScope s__law_int) := ⟨rfl, rfl, rfl, by decide +kernel, rfl, by decide +kernel, by decide +kernel⟩
abbrev s__law_is_ring : Stmt := topS 34
abbrev N__law_is_ring : List Str := ["_law_parts_here", "_law_thing", "_law_turned", "_law_room", "_law_one", "_law_other"]
theorem sc__law_is_ring : FnScope N__law_is_ring ["_law_parts_here", "_law_thing"] (defScope s__law_is_ring) := ⟨rfl, rfl, rfl, by decide +kernel, rfl, by decide +kernel, by decide +kernel⟩
section
variable {K : PySem.W.Frag} {σ : L2.St} {H : Hp} {ta te : TE} {tt : TT} {vs : List Nat}
/-- all([f for d in t]) -/
theorem ed_lcAll {ds : List D} {j : Nat} {f : D → Bool} (h : ED K ta σ H (.tup ds)) (hz : ds.length ≤ 50000) (hw : ∀ x, wipe ((wipe σ vs).set j (some x)) vs = wipe σ vs)
    (he : ∀ d v H1, Le H H1 → d ∈ ds → Rp K H1 v d → ED K te ((wipe σ vs).set j (some v)) H1 (.bl (f d))) : ED K (tCB (rAll K) (tCons (tLc (iTup K ta) (gName j) tYes te vs) tNil)) σ H (.bl (ds.all f)) := by
  refine ed_eq (ed_all (bs := ds.map f) ?_) (by rw [List.all_map]; rfl)
  refine EP.weak (EF.ep (ef_lcT (I := GI D.bl fun i zs => zs = (ds.take i).map f) (PT := fun i d b => b = true) (good enc_bl _) h hw ⟨[], rfl, Nat.zero_le _, by simp⟩ (fun i d v acc H1 e hd rv _ => et_yes) (fun i d v acc H1 e hd rv ia _ => ?_) (fun i d acc hd _ hf => nomatch hf))) fun d _ _ p => ?_
  · obtain ⟨zs, rfl, hl, rfl⟩ := ia
    refine (he d v H1 e (List.mem_of_getElem? hd) rv).weak fun d' H2 _ p => ?_
    have p' : d' = .bl (f d) := p
    subst p'
    have hi := (List.getElem?_eq_some_iff.mp hd).1
    refine ⟨GI.more (by rw [List.length_append, List.length_map, List.length_take, List.length_singleton]; omega) ?_, .bl _⟩
    rw [List.take_add_one, hd, List.map_append]
    rfl
  · obtain ⟨es, rfl, zs, rfl, _, rfl⟩ := p
    rw [List.take_length]
/-- all([f for i, d in enumerate(t)]) -/
theorem ed_lcE {A : TA} {ds : List D} {j l : Nat} {f : Nat → Bool} (h : EDA K A σ H [.tup ds]) (hz : ds.length ≤ 50000) (hw : ∀ x y, wipe (((wipe σ vs).set j (some x)).set l (some y)) vs = wipe σ vs)
    (he : ∀ (i : Nat) d v H1, Le H H1 → ds[i]? = some d → Rp K H1 v d → ED K te (((wipe σ vs).set j (some (.int (i : Int)))).set l (some v)) H1 (.bl (f i))) :
    ED K (tLc (iEnumT K A) (gTup K 2 (gCons (gName j) (gCons (gName l) gNil))) tYes te vs) σ H (.lst (((List.range ds.length).map f).map .bl)) := fun H1 e Q q => h H1 e _ fun us es H2 e2 p rr => by
  have p' : es = [.tup ds] := p
  subst p'
  obtain ⟨v, rfl, r1⟩ := rps1 rr
  obtain ⟨a, xs, rfl, s, r⟩ := rp_tup r1
  have G := good enc_bl fun i zs => zs = (List.range i).map f
  refine ⟨a, xs, rfl, s, fun L hL => lc_it (walk_enT (xs := xs)) (CI K H2 L (GI D.bl fun i zs => zs = (List.range i).map f)) (ci_start (I := GI D.bl fun i zs => zs = (List.range i).map f) hL ⟨[], rfl, Nat.zero_le _, rfl⟩) (fun i H' _ c => c.2.1.sqt s) ?_ (fun H' c => ?_)⟩
  · rintro i x H' H3 hi c ⟨T, x1, x2, rfl, nT, rfl, f1, f2⟩
    have ex : x1 = .int (i : Nat) := (Option.some.inj f1).symm
    subst ex
    obtain ⟨d1, g1, g2⟩ := r.at' f2
    have hil := (List.getElem?_eq_some_iff.mp g1).1
    refine ⟨T, _, rfl, Evl.st_of upd_same, rfl, _, _, rfl, _, _, rfl, rfl, hw _ _, ci_turn G (CI.le G c (Le.new nT)) (PT := fun b => b = true) (fun acc ia => et_yes) (fun acc ia _ => ?_) (fun acc ia hf => nomatch hf)⟩
    obtain ⟨zs, rfl, hl, rfl⟩ := ia
    refine (he i d1 x2 H2 (e.trans e2) g1 g2).weak fun d' H3 _ p => ?_
    have p' : d' = .bl (f i) := p
    subst p'
    exact ⟨GI.more (by rw [List.length_append, List.length_map, List.length_range, List.length_singleton]; omega) (by rw [List.range_succ, List.map_append]; rfl), .bl _⟩
  · rw [r.len] at c
    exact ci_end G c fun v d H3 e3 p r => q v d H3 (e2.trans e3) (by
      obtain ⟨acc, rfl, zs, rfl, _, rfl⟩ := p
      rfl) r
/-- [f for d, e in zip(t, u)] of tuples of one length -/
theorem ed_lcZ2 {A : TA} {ds ds2 : List D} {j l : Nat} {f : Nat → Bool} (ha : EDA K A σ H [.tup ds, .tup ds2]) (hl : ds2.length = ds.length) (hz : ds.length ≤ 50000) (hw : ∀ x y, wipe (((wipe σ vs).set j (some x)).set l (some y)) vs = wipe σ vs)
    (he : ∀ (i : Nat) x y v u H1, Le H H1 → ds[i]? = some x → ds2[i]? = some y → Rp K H1 v x → Rp K H1 u y → ED K te (((wipe σ vs).set j (some v)).set l (some u)) H1 (.bl (f i))) :
    ED K (tLc (iZipA K A) (gTup K 2 (gCons (gName j) (gCons (gName l) gNil))) tYes te vs) σ H (.lst (((List.range ds.length).map f).map .bl)) := fun H1 e Q q => ha H1 e _ fun us es H2 e2 p rr => by
  have p' : es = [.tup ds, .tup ds2] := p
  subst p'
  obtain ⟨v, u, rfl, r1, r2⟩ := rps2 rr
  have G := good enc_bl fun i zs => zs = (List.range i).map f
  obtain ⟨a, xs, rfl, s, r⟩ := rp_tup r1
  obtain ⟨b, ys, rfl, s2, rb⟩ := rp_tup r2
  refine ⟨a, b, xs, ys, rfl, .inr ⟨s, s2, fun L hL => lc_it (walk_zipT (n := ds.length) (by rw [r.len, rb.len, hl, Nat.min_self])) (CI K H2 L (GI D.bl fun i zs => zs = (List.range i).map f)) (ci_start (I := GI D.bl fun i zs => zs = (List.range i).map f) hL ⟨[], rfl, Nat.zero_le _, rfl⟩) (fun i H' _ c => ⟨c.2.1.sqt s, c.2.1.sqt s2⟩) ?_ (fun H' c => ?_)⟩⟩
  · rintro i x H' H3 hi c ⟨T, x1, x2, rfl, nT, rfl, f1, f2⟩
    obtain ⟨d1, g1, g2⟩ := r.at' f1
    obtain ⟨d2, g3, g4⟩ := rb.at' f2
    have hil := (List.getElem?_eq_some_iff.mp g1).1
    refine ⟨T, _, rfl, Evl.st_of upd_same, rfl, _, _, rfl, _, _, rfl, rfl, hw _ _, ci_turn G (CI.le G c (Le.new nT)) (PT := fun b => b = true) (fun acc ia => et_yes) (fun acc ia _ => ?_) (fun acc ia hf => nomatch hf)⟩
    obtain ⟨zs, rfl, hl', rfl⟩ := ia
    refine (he i d1 d2 x1 x2 H2 (e.trans e2) g1 g3 g2 g4).weak fun d' H3 _ p => ?_
    have p' : d' = .bl (f i) := p
    subst p'
    exact ⟨GI.more (by rw [List.length_append, List.length_map, List.length_range, List.length_singleton]; omega) (by rw [List.range_succ, List.map_append]; rfl), .bl _⟩
  · exact ci_end G c fun v d H3 e3 p r => q v d H3 (e2.trans e3) (by
      obtain ⟨acc, rfl, zs, rfl, _, rfl⟩ := p
      rfl) r
end
/-! ### what is a ring -/
def RingD (n : Nat) (ties : List (Int × Int)) (d : D) : Prop := ∃ ns : List Nat, d = .tup (dN ns) ∧ Ring n ties ns
open Classical in
noncomputable def ringB (n : Nat) (ties : List (Int × Int)) (d : D) : Bool := decide (RingD n ties d)
theorem dN_inj : ∀ {a b : List Nat}, dN a = dN b → a = b
  | [], [], _ => rfl
  | [], _ :: _, e => by simp at e
  | _ :: _, [], e => by simp at e
  | x :: a, y :: b, e => by
    rw [dN, dN, List.map_cons, List.map_cons] at e
    injection e with e1 e2
    injection e1 with e1
    rw [dN_inj e2, show x = y by omega]
theorem ringD_iff {n : Nat} {ties : List (Int × Int)} {ns : List Nat} : RingD n ties (.tup (dN ns)) ↔ Ring n ties ns :=
  ⟨fun ⟨ns', e, h⟩ => by
    injection e with e
    rw [dN_inj e]
    exact h, fun h => ⟨ns, rfl, h⟩⟩
open Classical in
theorem ringB_no {n : Nat} {ties : List (Int × Int)} {d : D} (h : ¬ RingD n ties d) : ringB n ties d = false := by
  unfold ringB
  exact decide_eq_false h
theorem rooms_of {n : Nat} : ∀ {ds : List D}, (ds.all fun d => btw 0 ((n : Int) - 1) d) = true → ∃ ns : List Nat, ds = dN ns ∧ ∀ x ∈ ns, x < n
  | [], _ => ⟨[], rfl, fun x hx => nomatch hx⟩
  | d :: ds, h => by
    rw [List.all_cons, Bool.and_eq_true_iff] at h
    obtain ⟨ns, rfl, hn⟩ := rooms_of h.2
    cases d with
    | int i =>
      have h1 : (decide (0 ≤ i) && decide (i ≤ (n : Int) - 1)) = true := h.1
      rw [Bool.and_eq_true_iff] at h1
      have h2 := of_decide_eq_true h1.1
      have h3 := of_decide_eq_true h1.2
      refine ⟨i.toNat :: ns, by show D.int i :: dN ns = D.int ((i.toNat : Nat) : Int) :: dN ns; rw [Int.toNat_of_nonneg h2], fun x hx => ?_⟩
      rcases List.mem_cons.mp hx with e | hx
      · rw [e]
        omega
      · exact hn x hx
    | _ => exact absurd h.1 Bool.false_ne_true
theorem dN_rooms {n : Nat} {ns : List Nat} (h : ∀ x ∈ ns, x < n) : ((dN ns).all fun d => btw 0 ((n : Int) - 1) d) = true := by
  rw [List.all_eq_true]
  intro d hd
  obtain ⟨x, hx, rfl⟩ := List.mem_map.mp hd
  have := h x hx
  exact btw_room (by omega) (by omega)
theorem tup_or (d : D) : (∃ ds, d = .tup ds) ∨ (tupB d = false ∧ ∀ ds, d ≠ .tup ds) := by
  cases d with
  | tup ds => exact .inl ⟨ds, rfl⟩
  | _ => exact .inr ⟨rfl, fun ds e => nomatch e⟩
def prevI (ns : List Nat) (i : Nat) : Nat := (ns[if i = 0 then ns.length - 1 else i - 1]?).getD 0
def itemI (ns : List Nat) (i : Nat) : Nat := (ns[i]?).getD 0
theorem itemI_at {ns : List Nat} {i : Nat} (h : i < ns.length) : ns[i]? = some (itemI ns i) := by
  unfold itemI
  rw [List.getElem?_eq_getElem h]
  rfl
theorem prevI_at {ns : List Nat} {i : Nat} (h : i < ns.length) : ns[if i = 0 then ns.length - 1 else i - 1]? = some (prevI ns i) := by
  unfold prevI
  rw [List.getElem?_eq_getElem (by split <;> omega)]
  rfl
/-- looked at from behind -/
theorem cyc_prev {ties : List (Int × Int)} {ns : List Nat} : Cyc ties ns ↔ ∀ i, i < ns.length → adj ties (itemI ns i) (prevI ns i) := by
  constructor
  · intro h i hi
    have h1 := prevI_at hi
    have h2 := itemI_at hi
    refine adj_symm (h _ _ _ h1 ?_)
    by_cases e : i = 0
    · rw [if_pos e, show (ns.length - 1 + 1) % ns.length = 0 by rw [show ns.length - 1 + 1 = ns.length by omega, Nat.mod_self], ← e]
      exact h2
    · rw [if_neg e, show i - 1 + 1 = i by omega, Nat.mod_eq_of_lt hi]
      exact h2
  · intro h i x y hx hy
    have hi := (List.getElem?_eq_some_iff.mp hx).1
    have hj := (List.getElem?_eq_some_iff.mp hy).1
    have h1 := h _ hj
    rw [show itemI ns ((i + 1) % ns.length) = y by unfold itemI; rw [hy]; rfl] at h1
    have e : prevI ns ((i + 1) % ns.length) = x := by
      unfold prevI
      by_cases e : i + 1 = ns.length
      · rw [e, Nat.mod_self, if_pos rfl, ← e, Nat.add_sub_cancel, hx]
        rfl
      · rw [Nat.mod_eq_of_lt (by omega), if_neg (by omega), Nat.add_sub_cancel, hx]
        rfl
    rw [e] at h1
    exact adj_symm h1
def nextI (ns : List Nat) (i : Nat) : Nat := (ns[(i + 1) % ns.length]?).getD 0
theorem nextI_at {ns : List Nat} {i : Nat} (h : i < ns.length) : ns[(i + 1) % ns.length]? = some (nextI ns i) := by
  unfold nextI
  rw [List.getElem?_eq_getElem (Nat.mod_lt _ (by omega))]
  rfl
theorem cyc_next {ties : List (Int × Int)} {ns : List Nat} : Cyc ties ns ↔ ∀ i, i < ns.length → adj ties (itemI ns i) (nextI ns i) := by
  constructor
  · intro h i hi
    exact h _ _ _ (itemI_at hi) (nextI_at hi)
  · intro h i x y hx hy
    have hi := (List.getElem?_eq_some_iff.mp hx).1
    have := h i hi
    rw [show itemI ns i = x by unfold itemI; rw [hx]; rfl, show nextI ns i = y by unfold nextI; rw [hy]; rfl] at this
    exact this
theorem allI {n : Nat} {f : Nat → Bool} : (((List.range n).map f).all id) = true ↔ ∀ i, i < n → f i = true := by
  rw [List.all_eq_true]
  constructor
  · intro h i hi
    exact h _ (List.mem_map.mpr ⟨i, List.mem_range.mpr hi, rfl⟩)
  · intro h x hx
    obtain ⟨i, hi, rfl⟩ := List.mem_map.mp hx
    exact h i (List.mem_range.mp hi)
theorem nat_nodup {ns : List Nat} : (ns.map fun x : Nat => (x : Int)).Nodup ↔ ns.Nodup := by
  rw [List.nodup_iff_pairwise_ne, List.nodup_iff_pairwise_ne, List.pairwise_map]
  exact ⟨fun h => h.imp fun h e => h (by rw [e]), fun h => h.imp fun h e => h (by omega)⟩
theorem dN_ints (ns : List Nat) : dN ns = (ns.map fun x : Nat => (x : Int)).map .int := by
  rw [List.map_map]
  rfl
theorem len_odd (n : Nat) : (!true || (decide ((n : Int) < 3) || decide (vOf (.int ((n : Int) % 2)) = vOf (.int 0)))) = !decide (3 ≤ n ∧ n % 2 = 1) := by
  have e : (vOf (.int ((n : Int) % 2)) = vOf (.int 0)) ↔ n % 2 = 0 := by
    show V.int _ = V.int _ ↔ _
    exact ⟨fun h => by injection h with h; omega, fun h => by rw [show ((n : Int) % 2) = 0 by omega]⟩
  rw [Bool.eq_iff_iff]
  simp only [Bool.not_true, Bool.false_or, Bool.or_eq_true, decide_eq_true_iff, e, Bool.not_eq_true', decide_eq_false_iff_not]
  omega
section
variable {K : PySem.W.Frag} {σ : L2.St} {H H' : Hp} {ta tb te : TE} {d : D}
theorem ed_lastT {ds : List D} {n : Nat} (ha : ED K ta σ H (.tup ds)) (hb : ED K tb σ H (.int (-1))) (hn : ds.length = n + 1) (e : ds[n]? = some d) : ED K (tOp (rIxT K) ta tb) σ H d :=
  ed_op ha hb fun x y H2 _ r1 r2 Q q => by
    obtain ⟨a, xs, rfl, s, rr⟩ := rp_tup r1
    obtain ⟨v, h1, h2⟩ := atI_last rr hn e
    exact ⟨a, xs, -1, v, rfl, rp_int r2, s, h1, q v d H2 (Le.refl _) rfl h2⟩
theorem ed_prev {ns : List Nat} {v : V} {i k : Nat} (r : Rp K H v (.tup (dN ns))) (hi : i < ns.length) (hv : σ[k]? = some (some v)) (hb : ED K tb σ H (.int ((i : Int) - 1))) : ED K (tOp (rIxT K) (tVar k) tb) σ H (.int (prevI ns i : Int)) := by
  have hp := prevI_at hi
  by_cases e : i = 0
  · rw [if_pos e] at hp
    subst e
    exact ed_lastT (n := ns.length - 1) (ed_var hv r) hb (by rw [List.length_map]; omega) (by rw [List.getElem?_map, hp]; rfl)
  · rw [if_neg e] at hp
    exact ed_ixT (ed_var hv r) hb (by omega) (by rw [show ((i : Int) - 1).toNat = i - 1 by omega, List.getElem?_map, hp]; rfl)
end
section
variable {P : Program} {w : World} {K : PySem.W.Frag} {mg : Str → Option Value} {base : Heap} {C : Addr}
def R_isring (K : PySem.W.Frag) (C : Addr) : List D → Hp → Pd → Prop := fun ds H P => ∃ a ms ties d, ds = [.obj (.ref a), d] ∧ WebAt K C H a ms ties ∧ PartsOk ms ties ∧ Th H d ∧ (∀ xs, d = .tup xs → xs.length ≤ 4000) ∧ P = is (.bl (ringB ms.length ties d))
theorem ok_isring (T : GTxt mg) (W : WTxt K C) (g : GDef K mg "is_odd_ring" s_is_odd_ring ["web", "thing"]) (Gis_room : Def P w K mg base 3 "is_room" ["web", "thing"] (spD K (R_isroom K C))) : Def P w K mg base 4 "is_odd_ring" ["web", "thing"] (spD K (R_isring K C)) := by
  refine defD g sc_is_odd_ring (fun ds H Pd h => ?_) fun cdv A0 outer s0 f H vs ds Pd Q E hr r h q => ?_
  · obtain ⟨a, ms, ties, d, rfl, _⟩ := h
    rfl
  obtain ⟨a, ms, ties, d, rfl, x, ok, th, h4, rfl⟩ := h
  obtain ⟨v1, v2, rfl, r1, r2⟩ := rps2 r
  refine ⟨_, (pss_cons (ps_if (PW.pt (pw_or (pt_not (pt_val (pe_callB (kc_isi (K := K)) (by rfl) T.n_isinstance boot_isinstance (pa_cons (pv 1) (pa_cons (pe_bltn (v := V.ty "tuple") (by rfl) T.n_tuple boot_tuple rfl) pa_nil))))) (pw_or (pt_cmpR op_lt (pe_callB (kc_len (K := K)) (by rfl) T.n_len boot_len (pa_cons (pv 1) pa_nil)) pe_int (nomark _)) (pw_or1 (pt_cmpR op_eq (pe_op op_mod (pe_callB (kc_len (K := K)) (by rfl) T.n_len boot_len (pa_cons (pv 1) pa_nil)) pe_int) pe_int (nomark _))))))
      (pss_one (ps_ret pe_bl))
      pss_nil)
    (pss_cons (ps_if (pt_not (pt_val (pe_callB (kc_all (K := K) rfl) (by rfl) T.n_all boot_all (pa_cons (pe_lc (own := [("room", 2)]) rfl sc_is_odd_ring.nd (kpi_tup (K := K) (pv 1)) (blkOk_by (N := N_is_odd_ring) (sc := defScope s_is_odd_ring) (by decide +kernel)) (fun _ _ _ _ _ => (pg_name (i := 2) sc_is_odd_ring.nd rfl (Or.inl rfl))) (fun _ _ _ _ _ => pts_nil) (fun _ _ _ _ _ => (pe_def Gis_room (hr.mono (by decide)) (pa_cons (pv 0) (pa_cons (pv 2) pa_nil))))) pa_nil))))
      (pss_one (ps_ret pe_bl))
      pss_nil)
    (pss_cons (ps_if (pt_cmpR op_lt (kpe_lenSetT (K := K) (by rfl) T.n_len (by rfl) T.n_set (pv 1)) (pe_callB (kc_len (K := K)) (by rfl) T.n_len boot_len (pa_cons (pv 1) pa_nil)) (nomark _))
      (pss_one (ps_ret pe_bl))
      pss_nil)
    (pss_one (ps_ret (pe_callB (kc_all (K := K) rfl) (by rfl) T.n_all boot_all (pa_cons (pe_lc (own := [("at", 3), ("room", 2)]) rfl sc_is_odd_ring.nd (kpi_enumT (K := K) (by rfl) T.n_enumerate (pa_cons (pv 1) pa_nil)) (blkOk_by (N := N_is_odd_ring) (sc := defScope s_is_odd_ring) (by decide +kernel)) (fun _ _ _ _ _ => (kpg_tup (K := K) (n := 2) rfl (pgs_cons (pg_name (i := 3) sc_is_odd_ring.nd rfl (Or.inl rfl)) (pgs_cons (pg_name (i := 2) sc_is_odd_ring.nd rfl (Or.inl rfl)) pgs_nil)))) (fun _ _ _ _ _ => pts_nil) (fun _ _ _ _ _ => (pe_cmpR (kop_in (K := K)) (pe_ix (kix_tup (K := K)) (pv 1) (pe_op op_sub (pv 3) pe_int) (fun _ _ => rfl)) (pe_ix (kix_tup (K := K)) (kpe_fld (K := K) (pv 0) rfl) (pv 2) (fun _ _ => rfl)) (by rfl)))) pa_nil))))))), ?_⟩
  rcases tup_or d with ⟨ds, rfl⟩ | ⟨hb, hno⟩
  rotate_left
  · rw [ringB_no fun ⟨ns, e, _⟩ => hno _ e] at q
    exact q_whenB (b := true || true) (eb_or (a := true) (b := true) (eb_eq (eb_not (et_B (ed_isTup (ed_var rfl r2) th.tk))) (by rw [hb]; rfl)) fun h => nomatch h) (fun _ H1 e1 => s_retD (K := K) (d := .bl false) ed_bl fun v H2 e2 r => q v _ H2 (e1.trans e2) rfl r) (fun h => nomatch h)
  obtain ⟨hz, hth⟩ := th.items
  have h4 := h4 ds rfl
  have hlen : ∀ {H1 : Hp}, Le H H1 → ED K (tCB (fun xs H Q => ∃ p ys, xs = [.ref p] ∧ (SqL K H p ys ∨ SqT K H p ys) ∧ Q (.int ys.length) H) (tCons (tVar 1) tNil)) [some v1, some v2, none, none] H1 (.int (ds.length : Int)) := fun e => ed_lenT (ed_var rfl (r2.le e))
  refine q_whenB (b := !decide (3 ≤ ds.length ∧ ds.length % 2 = 1)) (eb_eq (eb_or (eb_not (et_B (ed_isTup (ed_var rfl r2) th.tk))) fun _ => eb_or (et_test (ed_B0 (f := fun i j => decide (i < j)) (hlen (Le.refl _)) ed_int)) fun _ => et_test (K := K) (ed_eqS (ed_I (f := fun i j => i % j) (hlen (Le.refl _)) ed_int (by show (0 : Int) < 2; decide)) ed_int rfl rfl rfl)) (len_odd ds.length)) (fun hb H1 e1 => ?_) fun hb H1 e1 => ?_
  · rw [ringB_no fun ⟨ns, e, h⟩ => by
      injection e with e
      have h1 := h.three
      have h2 := h.odd
      have h3 : ds.length = ns.length := by rw [e, List.length_map]
      rw [decide_eq_true ⟨by omega, by omega⟩] at hb
      cases hb] at q
    exact s_retD (K := K) (d := .bl false) ed_bl fun v H2 e2 r => q v _ H2 (e1.trans e2) rfl r
  obtain ⟨three, odd⟩ := of_decide_eq_true ((Bool.not_eq_false' (b := _)).mp hb)
  refine q_whenB (b := !(ds.all fun d => btw 0 ((ms.length : Int) - 1) d)) (eb_not (et_B (ed_lcAll (K := K) (ed_var rfl (r2.le e1)) hz (fun _ => rfl) fun d v H2 e2 hd rv => ed_call (ea_cons (ed_var rfl (r1.le (e1.trans e2))) (ea_cons (ed_var rfl rv) ea_nil)) fun H3 e3 => ⟨a, ms, ties, d, rfl, x.le ((e1.trans e2).trans e3), (hth d hd).tk.le ((e1.trans e2).trans e3), rfl⟩))) (fun hb2 H2 e2 => ?_) fun hb2 H2 e2 => ?_
  · rw [ringB_no fun ⟨ns, e, h⟩ => by
      injection e with e
      rw [e, dN_rooms h.room] at hb2
      cases hb2] at q
    exact s_retD (K := K) (d := .bl false) ed_bl fun v H3 e3 r => q v _ H3 (e1.trans (e2.trans e3)) rfl r
  obtain ⟨ns, rfl, hroom⟩ := rooms_of ((Bool.not_eq_false' (b := _)).mp hb2)
  rw [List.length_map] at three odd hz h4
  have e02 := e1.trans e2
  refine q_whenB (b := !decide ns.Nodup) (et_test (K := K) (ep_I0 (ed_lenSetT (ns := ns.map fun x : Nat => (x : Int)) (ed_eq (ed_var rfl (r2.le e02)) (by rw [dN_ints])) (by rw [List.length_map]; exact h4)) (hlen e02) fun d1 d2 H3 H4 _ _ ⟨c, p1, p2, p3⟩ p4 => ⟨c, (dN ns).length, p1, p4, .bl (decide ((c : Int) < ((dN ns).length : Int))), ?_, .bl _⟩)) (fun hb3 H3 e3 => ?_) fun hb3 H3 e3 => ?_
  · show D.bl _ = D.bl _
    rw [List.length_map] at p2 p3 ⊢
    rw [nat_nodup] at p3
    congr 1
    by_cases hn : ns.Nodup
    · rw [decide_eq_true hn]
      have := p3.mpr hn
      exact decide_eq_false (by omega)
    · rw [decide_eq_false hn]
      have : c ≠ ns.length := fun e => hn (p3.mp e)
      exact decide_eq_true (by omega)
  · rw [ringB_no fun h => by
      rw [decide_eq_true (ringD_iff.mp h).nd] at hb3
      cases hb3] at q
    exact s_retD (K := K) (d := .bl false) ed_bl fun v H4 e4 r => q v _ H4 (e1.trans (e2.trans (e3.trans e4))) rfl r
  have nd := of_decide_eq_true ((Bool.not_eq_false' (b := _)).mp hb3)
  have e03 := e02.trans e3
  refine s_retD (K := K) (d := .bl (ringB ms.length ties (.tup (dN ns)))) (ed_eq (ed_all (bs := (List.range (dN ns).length).map fun i => decide ((prevI ns i : Int) ∈ rawNear ties (itemI ns i : Int))) (ed_lcE (K := K) (ea_cons (ed_var rfl (r2.le e03)) ea_nil) (by rw [List.length_map]; exact hz) (fun _ _ => rfl) fun i d v H4 e4 hd rv => ?_)) ?_) fun v H4 e4 r => q v _ H4 (e03.trans e4) rfl r
  · have hi := (List.getElem?_eq_some_iff.mp hd).1
    rw [List.length_map] at hi
    rw [List.getElem?_map, itemI_at hi] at hd
    have ed' := Option.some.inj hd
    subst ed'
    have e04 := e03.trans e4
    have hir := hroom _ (List.mem_of_getElem? (itemI_at hi))
    refine ed_inT (ed_prev (r2.le e04) hi rfl (ed_I0 (f := fun i j => i - j) (ed_var rfl (.int _)) ed_int)) (ed_ixT (i := (itemI ns i : Int)) (ed_near W (x.le e04) (ed_var rfl (r1.le e04))) (ed_var rfl rv) (by omega) (by rw [Int.toNat_natCast, List.getElem?_map, List.getElem?_range hir]; rfl))
  · congr 1
    rw [Bool.eq_iff_iff, allI, List.length_map]
    unfold ringB
    rw [@decide_eq_true_iff _ (Classical.propDecidable _), ringD_iff]
    constructor
    · intro h
      exact ⟨three, odd, hroom, nd, cyc_prev.mpr fun i hi => by
        have h' := of_decide_eq_true (h i hi)
        exact h'⟩
    · intro h i hi
      have h' : ((prevI ns i : Nat) : Int) ∈ rawNear ties ((itemI ns i : Nat) : Int) := cyc_prev.mp h.cyc i hi
      exact decide_eq_true h'
theorem sub_bl {d : D} (hs : subI d = true) (hi : isI d = false) : blB d = true := by
  cases d with
  | bl b => rfl
  | int i => cases hi
  | _ => cases hs
def R_lint : List D → Hp → Pd → Prop := fun ds H P => ∃ d l m, ds = [d, .int l, .int m] ∧ Tk H d ∧ P = is (.bl (btw l m d))
theorem ok_lint (T : Txt mg) (g : GDef K mg "_law_int" s__law_int ["_law_thing", "_law_least", "_law_most"]) : Def P w K mg base 1 "_law_int" ["_law_thing", "_law_least", "_law_most"] (spD K R_lint) := by
  refine defD g sc__law_int (fun ds H Pd h => ?_) fun cdv A outer s f H vs ds Pd Q E hr r h q => ?_
  · obtain ⟨d, l, m, rfl, _⟩ := h
    rfl
  obtain ⟨d, l, m, rfl, hk, rfl⟩ := h
  obtain ⟨v1, v2, v3, rfl, r1, r2, r3⟩ := rps3 r
  refine ⟨_, (pss_one (ps_ret (pe_and (pe_callB (kc_isi (K := K)) (by rfl) T.n_isinstance boot_isinstance (pa_cons (pv 0) (pa_cons (pe_bltn (v := V.ty "int") (by rfl) T.n_int boot_int rfl) pa_nil))) (pe_and (pe_not (pe_callB (kc_isi (K := K)) (by rfl) T.n_isinstance boot_isinstance (pa_cons (pv 0) (pa_cons (pe_bltn (v := V.ty "bool") (by rfl) T.n_bool boot_bool rfl) pa_nil)))) (pe_one (pe_chain op_le op_le (pv 1) (pv 0) (pv 2))))))), ?_⟩
  have hI := ed_isInt (K := K) (σ := [some v1, some v2, some v3]) (ta := tVar 0) (ed_var rfl r1) hk
  have hB := ed_isBool (K := K) (σ := [some v1, some v2, some v3]) (ta := tVar 0) (ed_var rfl r1) hk
  cases hi : isI d with
  | true =>
    obtain ⟨i, rfl⟩ : ∃ i, d = .int i := by
      cases d with
      | int i => exact ⟨i, rfl⟩
      | _ => cases hi
    exact s_retD (ed_andV (a := true) hI fun _ => ed_andV (a := true) (ed_notV hB) fun _ => ed_chain (f := fun i j => decide (i ≤ j)) (g := fun i j => decide (i ≤ j)) (ed_var rfl r2) (ed_var rfl r1) (ed_var rfl r3)) fun v H1 e1 r => q v _ H1 e1 rfl r
  | false =>
    have hf : btw l m d = false := by cases d <;> first | rfl | cases hi
    cases hs : subI d with
    | false => exact s_retD (ed_andV (a := false) (b := true) (ed_eq hI (by rw [hs])) fun h => nomatch h) fun v H1 e1 r => q v _ H1 e1 (by rw [hf]; rfl) r
    | true =>
      have hb : blB d = true := sub_bl hs hi
      exact s_retD (ed_andV (a := true) (b := false) (ed_eq hI (by rw [hs])) fun _ => ed_eq (ed_andV (a := false) (b := true) (ed_eq (ed_notV hB) (by rw [hb]; rfl)) fun h => nomatch h) rfl) fun v H1 e1 r => q v _ H1 e1 (by rw [hf]; rfl) r
def R_lring : List D → Hp → Pd → Prop := fun ds H P => ∃ ms ties d, ds = [eW ms ties, d] ∧ PartsOk ms ties ∧ Th H d ∧ (∀ xs, d = .tup xs → xs.length ≤ 4000) ∧ P = is (.bl (ringB ms.length ties d))
theorem minmax_adj {ms : List Int} {ties : List (Int × Int)} (ok : PartsOk ms ties) {x y : Nat} : ((if (y : Int) < (x : Int) then (y : Int) else (x : Int), if (y : Int) > (x : Int) then (y : Int) else (x : Int)) ∈ ties) ↔ adj ties x y := by
  rw [adj_iff]
  constructor
  · intro h
    by_cases e : (y : Int) < (x : Int)
    · rw [if_pos e, if_neg (by omega)] at h
      exact .inr h
    · rw [if_neg e] at h
      by_cases e2 : (y : Int) > (x : Int)
      · rw [if_pos e2] at h
        exact .inl h
      · rw [if_neg e2] at h
        have := ok.tie h
        dsimp only at this
        omega
  · rintro (h | h)
    · have := ok.tie h
      dsimp only at this
      rw [if_neg (by omega), if_pos (by omega)]
      exact h
    · have := ok.tie h
      dsimp only at this
      rw [if_pos (by omega), if_neg (by omega)]
      exact h
theorem turned_at {ns : List Nat} {i : Nat} {d : D} (h3 : 3 ≤ ns.length) (hd : ((dN ns).drop 1 ++ (dN ns).take 1)[i]? = some d) (hi : i < ns.length) : d = .int (nextI ns i : Int) := by
  have hn := nextI_at hi
  by_cases e : i + 1 = ns.length
  · rw [List.getElem?_append_right (by rw [List.length_drop, List.length_map]; omega), List.length_drop, List.length_map, show i - (ns.length - 1) = 0 by omega, List.getElem?_take_of_lt (by decide), List.getElem?_map] at hd
    rw [e, Nat.mod_self] at hn
    rw [hn] at hd
    exact (Option.some.inj hd).symm
  · rw [List.getElem?_append_left (by rw [List.length_drop, List.length_map]; omega), List.getElem?_drop, List.getElem?_map, Nat.add_comm 1 i] at hd
    rw [Nat.mod_eq_of_lt (by omega)] at hn
    rw [hn] at hd
    exact (Option.some.inj hd).symm
theorem ok_lring (T : STxt mg) (g : GDef K mg "_law_is_ring" s__law_is_ring ["_law_parts_here", "_law_thing"]) (G_law_int : Def P w K mg base 1 "_law_int" ["_law_thing", "_law_least", "_law_most"] (spD K R_lint)) : Def P w K mg base 2 "_law_is_ring" ["_law_parts_here", "_law_thing"] (spD K R_lring) := by
  refine defD g sc__law_is_ring (fun ds H Pd h => ?_) fun cdv A0 outer s0 f H vs ds Pd Q E hr r h q => ?_
  · obtain ⟨ms, ties, d, rfl, _⟩ := h
    rfl
  obtain ⟨ms, ties, d, rfl, ok, th, h4, rfl⟩ := h
  obtain ⟨v1, v2, rfl, r1, r2⟩ := rps2 r
  refine ⟨_, (pss_cons (ps_if (PW.pt (pw_or (pt_not (pt_val (pe_callB (kc_isi (K := K)) (by rfl) T.n_isinstance boot_isinstance (pa_cons (pv 1) (pa_cons (pe_bltn (v := V.ty "tuple") (by rfl) T.n_tuple boot_tuple rfl) pa_nil))))) (pw_or (pt_cmpR op_lt (pe_callB (kc_len (K := K)) (by rfl) T.n_len boot_len (pa_cons (pv 1) pa_nil)) pe_int (nomark _)) (pw_or1 (pt_cmpR op_eq (pe_op op_mod (pe_callTy call_int1 (by rfl) T.n_int boot_int (pa_cons (pe_callB (kc_len (K := K)) (by rfl) T.n_len boot_len (pa_cons (pv 1) pa_nil)) pa_nil)) pe_int) pe_int (nomark _))))))
      (pss_one (ps_ret pe_bl))
      pss_nil)
    (pss_cons (ps_if (PW.pt (pw_or (pt_not (pt_val (pe_callB (kc_all (K := K) rfl) (by rfl) T.n_all boot_all (pa_cons (pe_lc (own := [("_law_room", 3)]) rfl sc__law_is_ring.nd (kpi_tup (K := K) (pv 1)) (blkOk_by (N := N__law_is_ring) (sc := defScope s__law_is_ring) (by decide +kernel)) (fun _ _ _ _ _ => (pg_name (i := 3) sc__law_is_ring.nd rfl (Or.inl rfl))) (fun _ _ _ _ _ => pts_nil) (fun _ _ _ _ _ => (pe_def G_law_int (hr.mono (by decide)) (pa_cons (pv 3) (pa_cons pe_int (pa_cons (pe_op op_sub (pe_callB (kc_len (K := K)) (by rfl) T.n_len boot_len (pa_cons (pe_ix (kix_tup (K := K)) (pv 0) pe_int (fun _ _ => rfl)) pa_nil)) pe_int) pa_nil)))))) pa_nil)))) (pw_or1 (pt_cmpR op_ne (kpe_lenSetT (K := K) (by rfl) T.n_len (by rfl) T.n_set (pv 1)) (pe_callB (kc_len (K := K)) (by rfl) T.n_len boot_len (pa_cons (pv 1) pa_nil)) (nomark _)))))
      (pss_one (ps_ret pe_bl))
      pss_nil)
    (pss_cons (ps_set (i := 2) sc__law_is_ring.nd rfl (Or.inl rfl) (pe_op (kop_catA (K := K)) (pe_slice (ksl_tup (K := K)) (pv 1) (po_some pe_int) po_none) (pe_slice (ksl_tup (K := K)) (pv 1) po_none (po_some pe_int))))
    (pss_one (ps_ret (pe_callB (kc_all (K := K) rfl) (by rfl) T.n_all boot_all (pa_cons (pe_lc (own := [("_law_one", 4), ("_law_other", 5)]) rfl sc__law_is_ring.nd (kpi_zipA (K := K) (by rfl) T.n_zip (pa_cons (pv 1) (pa_cons (pv 2) pa_nil))) (blkOk_by (N := N__law_is_ring) (sc := defScope s__law_is_ring) (by decide +kernel)) (fun _ _ _ _ _ => (kpg_tup (K := K) (n := 2) rfl (pgs_cons (pg_name (i := 4) sc__law_is_ring.nd rfl (Or.inl rfl)) (pgs_cons (pg_name (i := 5) sc__law_is_ring.nd rfl (Or.inl rfl)) pgs_nil)))) (fun _ _ _ _ _ => pts_nil) (fun _ _ _ _ _ => (pe_cmpR (kop_inP (K := K) hr.units) (pe_tup (pa_cons (pe_callB (call_min2 rfl) (by rfl) T.n_min boot_min (pa_cons (pv 4) (pa_cons (pv 5) pa_nil))) (pa_cons (pe_callB (call_max2 rfl) (by rfl) T.n_max boot_max (pa_cons (pv 4) (pa_cons (pv 5) pa_nil))) pa_nil))) (pe_ix (kix_tup (K := K)) (pv 0) pe_int (fun _ _ => rfl)) (by rfl)))) pa_nil))))))), ?_⟩
  rcases tup_or d with ⟨ds, rfl⟩ | ⟨hb, hno⟩
  rotate_left
  · rw [ringB_no fun ⟨ns, e, _⟩ => hno _ e] at q
    exact q_whenB (b := true || true) (eb_or (a := true) (b := true) (eb_eq (eb_not (et_B (ed_isTup (ed_var rfl r2) th.tk))) (by rw [hb]; rfl)) fun h => nomatch h) (fun _ H1 e1 => s_retD (K := K) (d := .bl false) ed_bl fun v H2 e2 r => q v _ H2 (e1.trans e2) rfl r) (fun h => nomatch h)
  obtain ⟨hz, hth⟩ := th.items
  have h4 := h4 ds rfl
  have hlen : ∀ {H1 : Hp}, Le H H1 → ED K (tCB (fun xs H Q => ∃ p ys, xs = [.ref p] ∧ (SqL K H p ys ∨ SqT K H p ys) ∧ Q (.int ys.length) H) (tCons (tVar 1) tNil)) [some v1, some v2, none, none, none, none] H1 (.int (ds.length : Int)) := fun e => ed_lenT (ed_var rfl (r2.le e))
  refine q_whenB (b := !decide (3 ≤ ds.length ∧ ds.length % 2 = 1)) (eb_eq (eb_or (eb_not (et_B (ed_isTup (ed_var rfl r2) th.tk))) fun _ => eb_or (et_test (ed_B0 (f := fun i j => decide (i < j)) (hlen (Le.refl _)) ed_int)) fun _ => et_test (K := K) (ed_eqS (ed_I (f := fun i j => i % j) (ed_int1 (hlen (Le.refl _))) ed_int (by show (0 : Int) < 2; decide)) ed_int rfl rfl rfl)) (len_odd ds.length)) (fun hb H1 e1 => ?_) fun hb H1 e1 => ?_
  · rw [ringB_no fun ⟨ns, e, h⟩ => by
      injection e with e
      have h1 := h.three
      have h2 := h.odd
      have h3 : ds.length = ns.length := by rw [e, List.length_map]
      rw [decide_eq_true ⟨by omega, by omega⟩] at hb
      cases hb] at q
    exact s_retD (K := K) (d := .bl false) ed_bl fun v H2 e2 r => q v _ H2 (e1.trans e2) rfl r
  obtain ⟨three, odd⟩ := of_decide_eq_true ((Bool.not_eq_false' (b := _)).mp hb)
  have hall : EB (tB (tCB (rAll K) (tCons (tLc (iTup K (tVar 1)) (gName 3) tYes (tCall (spD K R_lint) [] E0 (tCons (tVar 3) (tCons (tC (.int 0)) (tCons (tOp (rI0 fun i j => .int (i - j)) (tCB (fun xs H Q => ∃ p ys, xs = [.ref p] ∧ (SqL K H p ys ∨ SqT K H p ys) ∧ Q (.int ys.length) H) (tCons (tOp (rIxT K) (tVar 0) (tC (.int 0))) tNil)) (tC (.int 1))) tNil)))) [3]) tNil))) [some v1, some v2, none, none, none, none] H1 (ds.all fun d => btw 0 ((ms.length : Int) - 1) d) :=
    et_B (ed_lcAll (K := K) (ed_var rfl (r2.le e1)) hz (fun _ => rfl) fun d v H2 e2 hd rv => ed_call (ea_cons (ed_var rfl rv) (ea_cons ed_int (ea_cons (ed_I0 (f := fun i j => i - j) (ed_eq (ed_lenT (ed_ixT (ds := [_, _]) (ed_var rfl (r1.le (e1.trans e2))) ed_int (by decide) rfl)) (by rw [List.length_map])) ed_int) ea_nil))) fun H3 e3 => ⟨d, 0, (ms.length : Int) - 1, rfl, (hth d hd).tk.le ((e1.trans e2).trans e3), rfl⟩)
  by_cases ha : (ds.all fun d => btw 0 ((ms.length : Int) - 1) d) = true
  rotate_left
  · have ha := Bool.not_eq_true _ ▸ ha
    rw [ringB_no fun ⟨ns, e, h⟩ => by
      injection e with e
      rw [e, dN_rooms h.room] at ha
      cases ha] at q
    exact q_whenB (b := true || true) (eb_or (a := true) (b := true) (eb_eq (eb_not hall) (by rw [ha]; rfl)) fun h => nomatch h) (fun _ H2 e2 => s_retD (K := K) (d := .bl false) ed_bl fun v H3 e3 r => q v _ H3 (e1.trans (e2.trans e3)) rfl r) (fun h => nomatch h)
  obtain ⟨ns, rfl, hroom⟩ := rooms_of ha
  rw [List.length_map] at three odd hz h4
  refine q_whenB (b := false || !decide ns.Nodup) (eb_or (a := false) (eb_eq (eb_not hall) (by rw [ha]; rfl)) fun _ => et_test (K := K) (ep_op (ed_lenSetT (ns := ns.map fun x : Nat => (x : Int)) (ed_eq (ed_var rfl (r2.le e1)) (by rw [dN_ints])) (by rw [List.length_map]; exact h4)) (hlen e1) fun x y d1 d2 H3 H4 _ _ ⟨c, p1, p2, p3⟩ p4 q1 q2 Q' q' => ?_)) (fun hb3 H3 e3 => ?_) fun hb3 H3 e3 => ?_
  · have p4' : d2 = .int ((dN ns).length : Int) := p4
    subst p1 p4'
    have ev := rp_int q1
    subst ev
    have ev := rp_int q2
    subst ev
    refine ⟨rfl, q' _ (.bl _) H4 (Le.refl _) ?_ (.bl _)⟩
    show D.bl _ = D.bl _
    rw [List.length_map] at p2 p3 ⊢
    rw [nat_nodup] at p3
    congr 1
    by_cases hn : ns.Nodup
    · rw [decide_eq_true hn, p3.mpr hn]
      simp [eqV]
    · rw [decide_eq_false hn]
      have : c ≠ ns.length := fun e => hn (p3.mp e)
      simp [eqV]
      omega
  · rw [ringB_no fun h => by
      rw [decide_eq_true (ringD_iff.mp h).nd] at hb3
      cases hb3] at q
    exact s_retD (K := K) (d := .bl false) ed_bl fun v H4 e4 r => q v _ H4 (e1.trans (e3.trans e4)) rfl r
  have nd := of_decide_eq_true ((Bool.not_eq_false' (b := _)).mp hb3)
  have e03 := e1.trans e3
  refine q_asgD (K := K) (d := .tup ((dN ns).drop 1 ++ (dN ns).take 1)) (ed_eq (ed_catA (ed_slT (lo := some 1) (hi := none) (ed_var rfl (r2.le e03)) (eo_some (K := K) ed_int) eo_none) (ed_slT (lo := none) (hi := some 1) (ed_var rfl (r2.le e03)) eo_none (eo_some (K := K) ed_int)) ?_) (by rw [cutG_lo _ _ (by decide), cutG_hi _ _ (by decide)]; rfl)) fun v3 H4 e4 r3 => ?_
  · rw [cutG_lo _ _ (by decide), cutG_hi _ _ (by decide), List.length_drop, List.length_take, List.length_map]
    omega
  have e04 := e03.trans e4
  have lt : ((dN ns).drop 1 ++ (dN ns).take 1).length = (dN ns).length := by
    rw [List.length_append, List.length_drop, List.length_take, List.length_map]
    omega
  refine s_retD (K := K) (d := .bl (ringB ms.length ties (.tup (dN ns)))) (ed_eq (ed_all (bs := (List.range (dN ns).length).map fun i => decide ((if (nextI ns i : Int) < (itemI ns i : Int) then (nextI ns i : Int) else (itemI ns i : Int), if (nextI ns i : Int) > (itemI ns i : Int) then (nextI ns i : Int) else (itemI ns i : Int)) ∈ ties)) (ed_lcZ2 (K := K) (ea_cons (ed_var rfl (r2.le e04)) (ea_cons (ed_var rfl r3) ea_nil)) lt (by rw [List.length_map]; exact hz) (fun _ _ => rfl) fun i d1 d2 u1 u2 H5 e5 hd1 hd2 q1 q2 => ?_)) ?_) fun v H5 e5 r => q v _ H5 (e04.trans e5) rfl r
  · have hi := (List.getElem?_eq_some_iff.mp hd1).1
    rw [List.length_map] at hi
    have ed2 := turned_at three hd2 hi
    subst ed2
    rw [List.getElem?_map, itemI_at hi] at hd1
    have ed' := Option.some.inj hd1
    subst ed'
    exact ed_inP (ed_tup (ea_cons (ed_min2 (ed_var rfl q1) (ed_var rfl q2)) (ea_cons (ed_max2 (ed_var rfl q1) (ed_var rfl q2)) ea_nil)) (by show 2 ≤ 100000; decide)) (ed_ixT (ds := [_, _]) (ed_var rfl (r1.le (e04.trans e5))) ed_int (by decide) rfl)
  · congr 1
    rw [Bool.eq_iff_iff, allI, List.length_map]
    unfold ringB
    rw [@decide_eq_true_iff _ (Classical.propDecidable _), ringD_iff]
    constructor
    · intro h
      exact ⟨three, odd, hroom, nd, cyc_next.mpr fun i hi => (minmax_adj ok).mp (of_decide_eq_true (h i hi))⟩
    · intro h i hi
      exact decide_eq_true ((minmax_adj ok).mpr (cyc_next.mp h.cyc i hi))
end
end W1

set_option maxRecDepth 100000
set_option maxHeartbeats 4000000
namespace W1
open PySem PyProof.Rows L2
/-! ### two lots by going along ties -/
structure LI (ties : List (Int × Int)) (n : Nat) (dl : List (Option Nat)) (b : Nat) (S W : List (Nat × Nat)) : Prop where
  rn : ∀ p ∈ S, p.1 < n ∧ p.2 ≤ 1
  wn : ∀ p ∈ W, p.1 < n ∧ p.2 ≤ 1
  nd : (S.map (·.1)).Nodup
  J : ∀ p ∈ S, ∀ y, adj ties p.1 y → (y, 1 - p.2) ∈ S ∨ (y, 1 - p.2) ∈ W
  beg : ∀ x, x < b → ∃ s, (x, s) ∈ S
  par : ties.find? (sameD dl) = none → ∀ p, p ∈ S ∨ p ∈ W → p.2 = dv dl p.1 % 2
  sm : W.length ≤ S.length * 3600 + 1
def look (S : List (Nat × Nat)) (x : Nat) : Option Nat := (S.find? fun p => decide (p.1 = x)).map (·.2)
section
variable {ms : List Int} {ties : List (Int × Int)} {dl pl : List (Option Nat)} {rt : Nat → Nat} {r n b : Nat} {S W : List (Nat × Nat)}
theorem look_some {x s : Nat} (h : look S x = some s) : (x, s) ∈ S := by
  unfold look at h
  cases hf : S.find? fun p => decide (p.1 = x) with
  | none =>
    rw [hf] at h
    cases h
  | some p =>
    rw [hf] at h
    have h1 := List.find?_some hf
    have h2 := List.mem_of_find?_eq_some hf
    have e1 : p.1 = x := of_decide_eq_true h1
    have e2 : p.2 = s := Option.some.inj h
    rw [← e1, ← e2]
    exact h2
theorem look_none {x : Nat} (h : look S x = none) : ∀ s, (x, s) ∉ S := fun s hm => by
  unfold look at h
  cases hf : S.find? fun p => decide (p.1 = x) with
  | none =>
    have := List.find?_eq_none.mp hf _ hm
    exact this (decide_eq_true rfl)
  | some p =>
    rw [hf] at h
    cases h
theorem mem_one {x s s' : Nat} (nd : (S.map (·.1)).Nodup) (h : (x, s) ∈ S) (h' : (x, s') ∈ S) : s = s' := by
  induction S with
  | nil => cases h
  | cons p S ih =>
    rw [List.map_cons, List.nodup_cons] at nd
    rcases List.mem_cons.mp h with e | h1
    · rcases List.mem_cons.mp h' with e' | h2
      · have := e.trans e'.symm
        injection this
      · exact absurd (List.mem_map.mpr ⟨_, h2, by rw [← e]⟩) nd.1
    · rcases List.mem_cons.mp h' with e' | h2
      · exact absurd (List.mem_map.mpr ⟨_, h1, by rw [← e']⟩) nd.1
      · exact ih nd.2 h1 h2
theorem look_mem {x s : Nat} (nd : (S.map (·.1)).Nodup) (h : (x, s) ∈ S) : look S x = some s := by
  cases hl : look S x with
  | none => exact absurd h (look_none hl s)
  | some s' => rw [mem_one nd h (look_some hl)]
theorem LI.few (I : LI ties n dl b S W) : S.length ≤ n := by
  have := nodup_len (a := S.map (·.1)) (L := List.range n) I.nd fun x hx => by
    obtain ⟨p, hp, rfl⟩ := List.mem_map.mp hx
    exact List.mem_range.mpr (I.rn p hp).1
  rw [List.length_map, List.length_range] at this
  exact this
/-- no tie within a depth: tied rooms are of unlike sides -/
theorem par_adj (ok : PartsOk ms ties) (B : Bfs ties ms.length dl pl rt ms.length) (hp : ties.find? (sameD dl) = none) {x y : Nat} (h : adj ties x y) : dv dl x % 2 + dv dl y % 2 = 1 := by
  obtain ⟨h1, h2, _⟩ := adj_ok ok h
  have rx := B.all x h1 h1
  have ry := B.all y h2 h2
  have c1 := (B.clo x y rx h).2.1
  have c2 := (B.clo y x ry (adj_symm h)).2.1
  have ne : dv dl x ≠ dv dl y := fun e => by
    have no := List.find?_eq_none.mp hp
    rcases adj_iff.mp h with h | h
    · exact no _ h (decide_eq_true (by show dv dl ((x : Int)).toNat = dv dl ((y : Int)).toNat; rw [Int.toNat_natCast, Int.toNat_natCast, e]))
    · exact no _ h (decide_eq_true (by show dv dl ((y : Int)).toNat = dv dl ((x : Int)).toNat; rw [Int.toNat_natCast, Int.toNat_natCast, e]))
  omega
theorem LI.start (dl : List (Option Nat)) : LI ties n dl 0 [] [] :=
  ⟨fun p h => (nomatch h), fun p h => (nomatch h), List.nodup_nil, fun p h => (nomatch h), fun x h => absurd h (Nat.not_lt_zero _), fun _ p h => (by rcases h with h | h <;> cases h), Nat.zero_le _⟩
/-- a room that is begun with already -/
theorem LI.skip (I : LI ties n dl b S []) {s : Nat} (h : look S b = some s) : LI ties n dl (b + 1) S [] :=
  ⟨I.rn, I.wn, I.nd, I.J, fun x hx => by
    rcases Nat.lt_succ_iff_lt_or_eq.mp hx with h1 | h1
    · exact I.beg x h1
    · rw [h1]
      exact ⟨s, look_some h⟩, I.par, I.sm⟩
theorem LI.root (ok : PartsOk ms ties) (B : Bfs ties ms.length dl pl rt ms.length) (I : LI ties ms.length dl b S []) (hb : b < ms.length) (h : look S b = none) : dv dl b = 0 := by
  have rb := B.all b hb hb
  have key : ∀ d x, dv dl x = d → oAt dl x ≠ none → rt x < b → ∃ s, (x, s) ∈ S := by
    intro d
    induction d using Nat.strongRecOn with
    | _ d ih =>
      intro x hd hx hr
      rcases B.par x hx with ⟨_, _, h3⟩ | ⟨p, h1, h2, h3, h4, h5⟩
      · rw [← h3]
        exact I.beg _ hr
      · obtain ⟨s, hs⟩ := ih (dv dl p) (by omega) p rfl h2 (by rw [← h5]; exact hr)
        rcases I.J _ hs x h4 with h6 | h6
        · exact ⟨_, h6⟩
        · cases h6
  have hz : ¬ rt b < b := fun hlt => by
    obtain ⟨s, hs⟩ := key _ b rfl rb hlt
    exact look_none h s hs
  have := B.low b rb
  exact root_dv B rb (by omega)
/-- .. begun with now -/
theorem LI.begin (ok : PartsOk ms ties) (B : Bfs ties ms.length dl pl rt ms.length) (I : LI ties ms.length dl b S []) (hb : b < ms.length) (h : look S b = none) : LI ties ms.length dl b S [(b, 0)] := by
  have h0 := I.root ok B hb h
  refine ⟨I.rn, fun p hp => ?_, I.nd, fun p hp y hy => ?_, I.beg, fun hn p hp => ?_, by rw [List.length_singleton]; omega⟩
  · rw [List.mem_singleton.mp hp]
    exact ⟨hb, Nat.zero_le _⟩
  · rcases I.J p hp y hy with h1 | h1
    · exact .inl h1
    · cases h1
  · rcases hp with hp | hp
    · exact I.par hn p (.inl hp)
    · rw [List.mem_singleton.mp hp, h0]
/-- what waits, seen already on its side -/
theorem LI.drop {x s : Nat} (I : LI ties n dl b S (W ++ [(x, s)])) (h : look S x = some s) : LI ties n dl b S W := by
  refine ⟨I.rn, fun p hp => I.wn p (List.mem_append_left _ hp), I.nd, fun p hp y hy => ?_, I.beg, fun hn p hp => I.par hn p (hp.imp id fun h => List.mem_append_left _ h), ?_⟩
  · rcases I.J p hp y hy with h1 | h1
    · exact .inl h1
    · rcases List.mem_append.mp h1 with h1 | h1
      · exact .inr h1
      · rw [List.mem_singleton.mp h1]
        exact .inl (look_some h)
  · have := I.sm
    rw [List.length_append, List.length_singleton] at this
    omega
/-- .. on another side: there is a tie within a depth -/
theorem LI.clash {x s s' : Nat} (I : LI ties n dl b S (W ++ [(x, s)])) (h : look S x = some s') (ne : s' ≠ s) : ties.find? (sameD dl) ≠ none := fun hn => by
  have h1 := I.par hn _ (.inl (look_some h))
  have h2 := I.par hn (x, s) (.inr (List.mem_append_right _ (List.mem_cons_self ..)))
  exact ne (h1.trans h2.symm)
/-- .. new -/
theorem LI.push (ok : PartsOk ms ties) (B : Bfs ties ms.length dl pl rt ms.length) {x s : Nat} {ys : List Nat} (I : LI ties ms.length dl b S (W ++ [(x, s)])) (h : look S x = none) (hy : ∀ y, y ∈ ys ↔ adj ties x y) (hl : ys.length ≤ 3600) :
    LI ties ms.length dl b (S ++ [(x, s)]) (W ++ ys.map fun y => (y, 1 - s)) := by
  have hw := I.wn (x, s) (List.mem_append_right _ (List.mem_cons_self ..))
  refine ⟨fun p hp => ?_, fun p hp => ?_, ?_, fun p hp y hpy => ?_, fun z hz => ?_, fun hn p hp => ?_, ?_⟩
  · rcases List.mem_append.mp hp with hp | hp
    · exact I.rn p hp
    · rw [List.mem_singleton.mp hp]
      exact hw
  · rcases List.mem_append.mp hp with hp | hp
    · exact I.wn p (List.mem_append_left _ hp)
    · obtain ⟨y, hy', rfl⟩ := List.mem_map.mp hp
      exact ⟨(adj_ok ok ((hy y).mp hy')).2.1, by dsimp only; omega⟩
  · rw [List.map_append, List.nodup_append]
    refine ⟨I.nd, List.nodup_cons.mpr ⟨(fun h => nomatch h), List.nodup_nil⟩, fun a ha c hc e => ?_⟩
    obtain ⟨p, hp, rfl⟩ := List.mem_map.mp ha
    have ec : c = x := List.mem_singleton.mp hc
    refine look_none h p.2 ?_
    rw [← ec, ← e]
    exact hp
  · rcases List.mem_append.mp hp with hp | hp
    · rcases I.J p hp y hpy with h1 | h1
      · exact .inl (List.mem_append_left _ h1)
      · rcases List.mem_append.mp h1 with h1 | h1
        · exact .inr (List.mem_append_left _ h1)
        · exact .inl (List.mem_append_right _ h1)
    · have ep := List.mem_singleton.mp hp
      subst ep
      exact .inr (List.mem_append_right _ (List.mem_map.mpr ⟨y, (hy y).mpr hpy, rfl⟩))
  · obtain ⟨s', hs⟩ := I.beg z hz
    exact ⟨s', List.mem_append_left _ hs⟩
  · have hs : s = dv dl x % 2 := I.par hn (x, s) (.inr (List.mem_append_right _ (List.mem_cons_self ..)))
    rcases hp with hp | hp
    · rcases List.mem_append.mp hp with hp | hp
      · exact I.par hn p (.inl hp)
      · rw [List.mem_singleton.mp hp]
        exact hs
    · rcases List.mem_append.mp hp with hp | hp
      · exact I.par hn p (.inr (List.mem_append_left _ hp))
      · obtain ⟨y, hy', rfl⟩ := List.mem_map.mp hp
        have := par_adj ok B hn ((hy y).mp hy')
        dsimp only
        omega
  · have := I.sm
    rw [List.length_append, List.length_singleton] at this
    rw [List.length_append, List.length_map, List.length_append, List.length_singleton]
    omega
/-- nothing waits any more: the room is begun -/
theorem LI.done {s : Nat} (I : LI ties n dl b S []) (h : (b, s) ∈ S) : LI ties n dl (b + 1) S [] := I.skip (look_mem I.nd h)
def sideS (S : List (Nat × Nat)) (x : Nat) : Nat := (look S x).getD 0
/-- all begun: the sides are those by depth, and there is no tie within a depth -/
theorem LI.end (ok : PartsOk ms ties) (B : Bfs ties ms.length dl pl rt ms.length) (I : LI ties ms.length dl ms.length S []) : ties.find? (sameD dl) = none ∧ ∀ x, x < ms.length → look S x = some (dv dl x % 2) := by
  have tot : ∀ x, x < ms.length → (x, sideS S x) ∈ S := fun x hx => by
    obtain ⟨s, hs⟩ := I.beg x hx
    unfold sideS
    rw [look_mem I.nd hs]
    exact hs
  have sj : ∀ x y, adj ties x y → sideS S y = 1 - sideS S x := fun x y h => by
    obtain ⟨h1, h2, _⟩ := adj_ok ok h
    rcases I.J _ (tot x h1) y h with h3 | h3
    · exact mem_one I.nd (tot y h2) h3
    · cases h3
  have one : ∀ x, x < ms.length → sideS S x ≤ 1 := fun x hx => (I.rn _ (tot x hx)).2
  have key : ∀ d x, dv dl x = d → oAt dl x ≠ none → (sideS S x + sideS S (rt x) + dv dl x) % 2 = 0 := by
    intro d
    induction d using Nat.strongRecOn with
    | _ d ih =>
      intro x hd hx
      have xn : x < ms.length := by
        have := oAt_lt hx
        rw [B.lenD] at this
        exact this
      rcases B.par x hx with ⟨_, h2, h3⟩ | ⟨p, h1, h2, h3, h4, h5⟩
      · rw [h3, h2]
        omega
      · have h6 := ih (dv dl p) (by omega) p rfl h2
        have h7 := sj p x h4
        have h8 := one p (adj_ok ok h4).1
        have h9 := one x xn
        rw [h5, h3]
        omega
  have no : ties.find? (sameD dl) = none := by
    cases hf : ties.find? (sameD dl) with
    | none => rfl
    | some p =>
      have h1 : sameD dl p = true := List.find?_some hf
      have h2 := List.mem_of_find?_eq_some hf
      have h3 := ok.tie h2
      have h4 : dv dl p.1.toNat = dv dl p.2.toNat := of_decide_eq_true h1
      have ha : adj ties p.1.toNat p.2.toNat := adj_iff.mpr (.inl (by
        rw [show ((p.1.toNat : Nat) : Int) = p.1 by omega, show ((p.2.toNat : Nat) : Int) = p.2 by omega]
        exact h2))
      obtain ⟨n1, n2, _⟩ := adj_ok ok ha
      have r1 := B.all _ n1 n1
      have r2 := B.all _ n2 n2
      have k1 := key _ _ rfl r1
      have k2 := key _ _ rfl r2
      rw [(B.clo _ _ r1 ha).2.2, ← h4] at k2
      have h7 := sj _ _ ha
      have h8 := one _ n1
      have h9 := one _ n2
      omega
  refine ⟨no, fun x hx => ?_⟩
  rw [look_mem I.nd (tot x hx)]
  congr 1
  exact I.par no _ (.inl (tot x hx))
end
end W1

set_option maxRecDepth 100000
set_option maxHeartbeats 4000000
/-! own rules: dicts of ints -/
namespace W1
open PySem PySem.Calls PySem.Spec PyProof PyProof.Rows L2
theorem u1 {a c : Nat} (h : a + 64 < c) : a + 1 < c := by omega
def rDin : R2 := fun y x H Q => ∃ a o, x = .ref a ∧ DGet H a y o ∧ Q (.bl o.isSome) H
def rDnin : R2 := fun y x H Q => ∃ a o, x = .ref a ∧ DGet H a y o ∧ Q (.bl (!o.isSome)) H
theorem op_dictin {X : Cx} (hu : X.A.units + 1 < cLine) : OpR X (compareOp .In) rDin := by
  intro pins s σ H y x v u Q I ry rx h
  obtain ⟨a, o, rfl, g, q⟩ := h
  obtain rfl : u = Value.ref a := rx
  exact d_in hu I g ry fun s3 I3 => ⟨.bl o.isSome, H, I3, rfl, q⟩
theorem op_dictnin {X : Cx} (hu : X.A.units + 1 < cLine) : OpR X (compareOp .NotIn) rDnin := by
  intro pins s σ H y x v u Q I ry rx h
  obtain ⟨a, o, rfl, g, q⟩ := h
  obtain rfl : u = Value.ref a := rx
  exact d_notIn hu I g ry fun s3 I3 => ⟨.bl (!o.isSome), H, I3, rfl, q⟩
abbrev kvS (S : List (Nat × Nat)) : List (Key × V) := S.map fun p : Nat × Nat => ((Sum.inl (p.1 : Int) : Key), V.int (p.2 : Int))
theorem val_look (S : List (Nat × Nat)) (x : Nat) : valV (kvS S) (Sum.inl (x : Int)) = (look S x).map fun s : Nat => V.int (s : Int) := by
  induction S with
  | nil => rfl
  | cons p S ih =>
    have hl : look (p :: S) x = if p.1 = x then some p.2 else look S x := by
      unfold look
      rw [List.find?_cons]
      by_cases e : p.1 = x
      · rw [if_pos e, decide_eq_true e]
        rfl
      · rw [if_neg e, decide_eq_false e]
    rw [hl]
    by_cases e : p.1 = x
    · rw [if_pos e]
      exact valV_pos (by show (Sum.inl (p.1 : Int) : Key) = Sum.inl (x : Int); rw [e])
    · rw [if_neg e, ← ih]
      exact valV_neg fun h => e (by injection h with h; omega)
theorem put_look {S : List (Nat × Nat)} {x s : Nat} (h : look S x = none) : putK (kvS S) (Sum.inl (x : Int)) (.int (s : Int)) = kvS (S ++ [(x, s)]) := by
  have e : ((kvS S).any fun kv => decide (kv.1 = (Sum.inl (x : Int) : Key))) = false := by
    rw [valV_any, val_look, h]
    rfl
  unfold putK
  rw [e, if_neg Bool.false_ne_true]
  unfold kvS
  rw [List.map_append]
  rfl
section
variable {K : PySem.W.Frag} {H H' : Hp} {σ : L2.St} {ta tb te : TE} {tt : TT} {vs : List Nat}
theorem sqt_dK {a l : Addr} {kvs : List (Key × V)} {xs : List V} {o : HO} (hl : H l = some (.dK kvs)) (h : SqT K H a xs) : SqT K (upd H l o) a xs :=
  sqt_upd (fun ys e => by rw [hl] at e; cases e) (fun ob u e => by rw [hl] at e; cases e) h
mutual
theorem Rp.dK {l : Addr} {kvs : List (Key × V)} {o : HO} (hl : H l = some (.dK kvs)) {v : V} {d : D} : Rp K H v d → Rp K (L2.upd H l o) v d
  | .non => .non
  | .bl b => .bl b
  | .int i => .int i
  | .str x => .str x
  | .obj v => .obj v
  | .tup h r => .tup (sqt_dK hl h) (Rps.dK hl r)
  | .lst (a := a) h n r => .lst (by
      have ne : a ≠ l := fun e => by
        rw [e, hl] at h
        cases h
      rw [upd_ne ne]
      exact h) n (Rps.dK hl r)
theorem Rps.dK {l : Addr} {kvs : List (Key × V)} {o : HO} (hl : H l = some (.dK kvs)) {vs : List V} {ds : List D} : Rps K H vs ds → Rps K (L2.upd H l o) vs ds
  | .nil => .nil
  | .cons h r => .cons (Rp.dK hl h) (Rps.dK hl r)
end
theorem rps_concat : ∀ {ds : List D} {ws : List V} {d : D}, Rps K H ws (ds ++ [d]) → ∃ ws' v, ws = ws' ++ [v] ∧ Rps K H ws' ds ∧ Rp K H v d
  | [], ws, d, r => by
    obtain ⟨v, rfl, r1⟩ := rps1 r
    exact ⟨[], v, rfl, .nil, r1⟩
  | c :: ds, ws, d, r => by
    rw [List.cons_append] at r
    cases r with
    | cons r1 r =>
      obtain ⟨ws', v, rfl, r2, r3⟩ := rps_concat r
      exact ⟨_ :: ws', v, rfl, .cons r1 r2, r3⟩
/-- x in d -/
theorem ed_din {S : List (Nat × Nat)} {Dd : Addr} {x : Nat} (hd : H Dd = some (.dK (kvS S))) (h : ED K ta σ H (.int (x : Int))) (h2 : ED K tb σ H (.obj (.ref Dd))) : ED K (tOp rDin ta tb) σ H (.bl (look S x).isSome) := ed_op h h2 fun v w H2 e r1 r2 Q q => by
  rw [rp_int r1]
  refine ⟨Dd, _, rp_obj r2, DGet.k (k := Sum.inl (x : Int)) (e.dK hd), ?_⟩
  rw [val_look, Option.isSome_map]
  exact q _ _ H2 (Le.refl _) rfl (.bl _)
theorem ed_dnin {S : List (Nat × Nat)} {Dd : Addr} {x : Nat} (hd : H Dd = some (.dK (kvS S))) (h : ED K ta σ H (.int (x : Int))) (h2 : ED K tb σ H (.obj (.ref Dd))) : ED K (tOp rDnin ta tb) σ H (.bl (!(look S x).isSome)) := ed_op h h2 fun v w H2 e r1 r2 Q q => by
  rw [rp_int r1]
  refine ⟨Dd, _, rp_obj r2, DGet.k (k := Sum.inl (x : Int)) (e.dK hd), ?_⟩
  rw [val_look, Option.isSome_map]
  exact q _ _ H2 (Le.refl _) rfl (.bl _)
/-- d.get(x, s) -/
theorem ed_dget2 {S : List (Nat × Nat)} {Dd : Addr} {x s : Nat} (hd : H Dd = some (.dK (kvS S))) (h0 : ED K te σ H (.obj (.ref Dd))) (h : ED K ta σ H (.int (x : Int))) (h2 : ED K tb σ H (.int (s : Int))) : ED K (tDGet2 te ta tb) σ H (.int (((look S x).getD s : Nat) : Int)) := fun H1 e Q q =>
  h0 H1 e _ fun v d H2 e2 p r => by
    have p' : d = .obj (.ref Dd) := p
    subst p'
    refine ⟨Dd, rp_obj r, .inl ⟨_, .inl ((e.trans e2).dK hd)⟩, h H2 (e.trans e2) _ fun v1 d1 H3 e3 p1 r1 => h2 H3 ((e.trans e2).trans e3) _ fun v2 d2 H4 e4 p2 r2 => ?_⟩
    have p1' : d1 = .int (x : Int) := p1
    have p2' : d2 = .int (s : Int) := p2
    subst p1' p2'
    rw [rp_int r1, rp_int r2]
    refine ⟨_, DGet.k (k := Sum.inl (x : Int)) ((((e.trans e2).trans e3).trans e4).dK hd), ?_⟩
    rw [val_look]
    have ev : (Option.map (fun s : Nat => V.int (s : Int)) (look S x)).getD (V.int (s : Int)) = V.int (((look S x).getD s : Nat) : Int) := by
      cases look S x <;> rfl
    rw [ev]
    exact q _ (.int _) H4 ((e2.trans e3).trans e4) rfl (.int _)
/-- d[x], there -/
theorem ed_dgetI {S : List (Nat × Nat)} {Dd : Addr} {x s : Nat} (hd : H Dd = some (.dK (kvS S))) (hs : look S x = some s) (h0 : ED K te σ H (.obj (.ref Dd))) (h : ED K ta σ H (.int (x : Int))) : ED K (tDGet te ta) σ H (.int (s : Int)) := fun H1 e Q q =>
  h0 H1 e _ fun v d H2 e2 p r => h H2 (e.trans e2) _ fun v1 d1 H3 e3 p1 r1 => by
    have p' : d = .obj (.ref Dd) := p
    have p1' : d1 = .int (x : Int) := p1
    subst p' p1'
    rw [rp_int r1]
    have hg := DGet.k (k := Sum.inl (x : Int)) (((e.trans e2).trans e3).dK hd)
    rw [val_look, hs] at hg
    exact ⟨Dd, _, rp_obj r, hg, q _ (.int _) H3 (e2.trans e3) rfl (.int _)⟩
theorem ef_ifF {t : TT} {b : Bool} {PL : List D → Prop} (h : EB t σ H b) (h1 : b = true → EF K ta σ H PL) (h2 : b = false → EF K tb σ H PL) : EF K (tIf t ta tb) σ H PL := fun H1 e Q q => h H1 e _ fun x H2 e2 p => by
  subst p
  cases x with
  | true => exact h1 rfl H2 (e.trans e2) Q fun p vs ds H3 np e3 => q p vs ds H3 (e2.fresh np) (e2.trans e3)
  | false => exact h2 rfl H2 (e.trans e2) Q fun p vs ds H3 np e3 => q p vs ds H3 (e2.fresh np) (e2.trans e3)
/-- a comprehension over a list of which PL holds -/
theorem ep_lcLP {α β : Type} {enc : α → D} {encS : β → D} (E : Enc enc) (f : β → Bool) (g : β → α) {j : Nat} {PL : List β → Prop} (h : EP K ta σ H (fun d _ => ∃ xs : List β, d = .lst (xs.map encS) ∧ PL xs)) (hz : ∀ xs, PL xs → xs.length ≤ 50000) (hw : ∀ x, wipe ((wipe σ vs).set j (some x)) vs = wipe σ vs)
    (ht : ∀ b v H1, Le H H1 → Rp K H1 v (encS b) → EB tt ((wipe σ vs).set j (some v)) H1 (f b))
    (he : ∀ b v H1, Le H H1 → Rp K H1 v (encS b) → f b = true → ED K te ((wipe σ vs).set j (some v)) H1 (enc (g b))) : EP K (tLc (iList K ta) (gName j) tt te vs) σ H (fun d _ => ∃ xs, PL xs ∧ d = .lst (((xs.filter f).map g).map enc)) := fun H1 e Q q =>
  h H1 e _ fun v d H2 e2 ⟨xs, hd, pl⟩ r => by
    subst hd
    have hv : ED K (fun _ H Q => Q v H) σ H2 (.lst (xs.map encS)) := fun H3 e3 Q' q' => q' v _ H3 (Le.refl _) rfl (r.le e3)
    refine ed_lcL E xs f g (ta := fun _ H Q => Q v H) hv (hz xs pl) hw (fun b u H3 e3 _ rb => ht b u H3 ((e.trans e2).trans e3) rb) (fun b u H3 e3 _ rb hf => he b u H3 ((e.trans e2).trans e3) rb hf) H2 (Le.refl _) Q fun u d3 H3 e3 p r3 => q u d3 H3 (e2.trans e3) ⟨xs, pl, p⟩ r3
/-- xs.extend(e), e a list of which PL holds -/
theorem s_extP {D1 : Ends} {l : Addr} {vs : List V} {PL : List D → Prop} {N : Nat} (hl : H l = some (.lst vs)) (nh : NotH vs) (ha : ED K ta σ H (.obj (.ref l))) (h : ∀ H1, Le H H1 → EP K te σ H1 (fun d _ => ∃ ds, d = .lst ds ∧ PL ds)) (hp : ∀ ds, PL ds → ds.length ≤ N) (hz : vs.length + N ≤ 16000000)
    (k : ∀ ws ds H1, Le H H1 → PL ds → Rps K H1 ws ds → H1 l = some (.lst vs) → D1.nx σ (upd H1 l (.lst (vs ++ ws)))) : tDrop (tBM K "list" rExtend ta (tCons te tNil)) D1 σ H := ha H (Le.refl _) _ fun o d1 H1 e1 p1 r1 => by
  have p1' : d1 = .obj (.ref l) := p1
  subst p1'
  have eo := rp_obj r1
  subst eo
  refine ⟨.inl ⟨rfl, vs, Evl.sq_of (e1.lst hl nh)⟩, h H1 e1 H1 (Le.refl _) _ fun y d H2 e2 ⟨ds, hd, pl⟩ r => ?_⟩
  subst hd
  obtain ⟨b, ws, rfl, hb, _, rr⟩ := rp_lst r
  have l2 := (e1.trans e2).lst hl nh
  have := hp ds pl
  exact ⟨l, b, vs, ws, rfl, rfl, l2, hb, by rw [rr.len]; show _ ≤ 2 ^ 24; omega, k ws ds H2 (e1.trans e2) pl rr l2⟩
end
end W1

set_option maxRecDepth 100000
set_option maxHeartbeats 4000000
namespace W1
open PySem PyProof.Rows L2
local macro_rules | `(tactic| walk_at "rp") => `(tactic| first | assumption | exact Rp.int _ | exact Rp.bl _ | exact Rp.str _ | exact Rp.non | exact Rp.obj _ | (refine Rp.le (by assumption) ?_; walk_at "rp"))
local macro_rules | `(tactic| walk_at "ed") => `(tactic| first
  | exact ed_int | exact ed_str | exact ed_bl | exact ed_non
  | (refine ed_var rfl ?_; walk_at "rp")
  | (refine ed_ixT (ds := [_, _]) ?_ ed_int (by decide) rfl; walk_at "ed")
  | (refine ed_I0 ?_ ?_ <;> walk_at "ed")
  | (refine ed_B0 ?_ ?_ <;> walk_at "ed")
  | (refine ed_eqS ?_ ?_ rfl rfl rfl <;> walk_at "ed")
  | assumption)
local macro_rules | `(tactic| walk_at "ea") => `(tactic| first | exact ea_nil | (refine ea_cons ?_ ?_; walk_at "ed"; walk_at "ea"))

abbrev s__law_lots : Stmt := topS 33
abbrev N__law_lots : List Str := ["_law_parts_here", "_law_sides", "_law_begin", "_law_waiting", "_law_room", "_law_side", "_law_rooms", "_law_other"]
theorem sc__law_lots : FnScope N__law_lots ["_law_parts_here"] (defScope s__law_lots) := ⟨rfl, rfl, rfl, by decide +kernel, rfl, by decide +kernel, by decide +kernel⟩
abbrev eW2 (p : Nat × Nat) : D := .tup [.int (p.1 : Int), .int (p.2 : Int)]
theorem enc_W2 : Enc eW2 := enc_tup fun a d hd => by
  rcases List.mem_cons.mp hd with rfl | hd
  · exact .int _
  · rcases List.mem_cons.mp hd with rfl | hd
    · exact .int _
    · cases hd
structure LS (K : PySem.W.Frag) (ties : List (Int × Int)) (n : Nat) (dl : List (Option Nat)) (H0 H : Hp) (Dd Wd : Addr) (b : Nat) (S W : List (Nat × Nat)) : Prop where
  le : Le H0 H
  dd : H Dd = some (.dK (kvS S))
  nD : H0 Dd = none
  nW : H0 Wd = none
  ne : Wd ≠ Dd
  ws : ∃ ws, H Wd = some (.lst ws) ∧ Rps K H ws (W.map eW2)
  inv : LI ties n dl b S W
  bg : ∃ s, (b, s) ∈ S ∨ (b, s) ∈ W
theorem s_whileE {t : TT} {D1 : Ends} {tu : TS} {σ : L2.St} {H : Hp} {W : Nat → L2.St → Hp → Prop} {m0 : Nat} (h0 : W m0 σ H)
    (k : ∀ m σ H, W m σ H → ∃ b, EB t σ H b ∧ (b = true → ∀ H1, Le H H1 → ∃ N : L2.St → Hp → Prop, (∀ σ' H', N σ' H' → ∃ m', m' < m ∧ W m' σ' H') ∧ tu { D1 with nx := N, ct := N, bk := D1.nx } σ H1) ∧ (b = false → ∀ H1, Le H H1 → D1.nx σ H1)) : tWhile t tu D1 σ H := ⟨W, ⟨m0, h0⟩, fun m σ H w => by
  obtain ⟨b, h1, h2, h3⟩ := k m σ H w
  refine h1 H (Le.refl _) _ fun x H1 e p => ?_
  subst p
  cases x with
  | true => exact h2 rfl H1 e
  | false => exact h3 rfl H1 e⟩
@[irreducible] def meas (n a b : Nat) : Nat := (n - a) * 3601 + b
theorem meas_drop {n a b : Nat} : meas n a b < meas n a (b + 1) := by
  unfold meas
  omega
theorem meas_push {n a b c : Nat} (h : a + 1 ≤ n) (hc : c ≤ 3600) : meas n (a + 1) (b + c) < meas n a (b + 1) := by
  unfold meas
  rw [show n - a = (n - (a + 1)) + 1 by omega, Nat.add_mul, Nat.one_mul]
  omega
/-- a, b = xs.pop() -/
theorem q_pop2 {K : PySem.W.Frag} {D1 : Ends} {tz : TS} {σ : L2.St} {H : Hp} {i j m : Nat} {l : Addr} {ws : List V} {u : V} {d1 d2 : D} (hv : σ[i]? = some (some (.ref l))) (hl : H l = some (.lst (ws ++ [u]))) (ru : Rp K H u (.tup [d1, d2])) (n1 : NoL d1) (n2 : NoL d2)
    (k : ∀ v w H2, H2 = upd H l (.lst ws) → Rp K H2 v d1 → Rp K H2 w d2 → tz D1 ((σ.set j (some v)).set m (some w)) H2) : tSeq (tAsg (tBM0 K "list" rPop (tVar i)) (gTup K 2 (gCons (gName j) (gCons (gName m) gNil)))) tz D1 σ H := by
  obtain ⟨t, xs, rfl, st, rr⟩ := rp_tup ru
  obtain ⟨w1, w2, rfl, q1, q2⟩ := rps2 rr
  have hg : (ws ++ [V.ref t])[(ws ++ [V.ref t]).length - 1]? = some (V.ref t) := by
    rw [List.length_append, List.length_singleton, Nat.add_sub_cancel, List.getElem?_append_right (Nat.le_refl _), Nat.sub_self]
    rfl
  have st' : SqT K (upd H l (.lst ws)) t [w1, w2] := sqt_upd (fun ys e => by rw [hl] at e; cases e) (fun ob u e => by rw [hl] at e; cases e) st
  have kk := k w1 w2 _ rfl (Rp.upd hl n1 q1) (Rp.upd hl n2 q2)
  refine ⟨_, hv, .inl ⟨rfl, _, Evl.sq_of hl⟩, l, _, .ref t, rfl, rfl, hl, hg, ?_⟩
  rw [List.dropLast_concat]
  exact ⟨t, _, rfl, st', rfl, _, _, rfl, _, _, rfl, rfl, kk⟩
section
variable {P : Program} {w : World} {K : PySem.W.Frag} {mg : Str → Option Value} {base : Heap}
theorem LS.le2 {ties : List (Int × Int)} {n : Nat} {dl : List (Option Nat)} {H0 H H' : Hp} {Dd Wd : Addr} {b : Nat} {S W : List (Nat × Nat)} (s : LS K ties n dl H0 H Dd Wd b S W) (e : Le H H') : LS K ties n dl H0 H' Dd Wd b S W := by
  obtain ⟨ws, h1, h2⟩ := s.ws
  exact ⟨s.le.trans e, e.dK s.dd, s.nD, s.nW, s.ne, ⟨ws, e.lst h1 ((enc_W2.un _).notH h2), h2.le e⟩, s.inv, s.bg⟩
def R_lots : List D → Hp → Pd → Prop := fun ds H P => ∃ ms ties, ds = [eW ms ties] ∧ PartsOk ms ties ∧
  P = is (if ties.find? (sameD (searchS ties ms.length ms.length).1) = none then eLots ms.length (searchS ties ms.length ms.length).1 else .non)
theorem ok_lots (T : Txt mg) (g : GDef K mg "_law_lots" s__law_lots ["_law_parts_here"]) (G_law_near : Def P w K mg base 1 "_law_near" ["_law_parts_here", "_law_room"] (spF K R_near)) : Def P w K mg base 2 "_law_lots" ["_law_parts_here"] (spD K R_lots) := by
  refine defD g sc__law_lots (fun ds H Pd h => ?_) fun cdv A0 outer s0 f H vs ds Pd Q E hr r h q => ?_
  · obtain ⟨ms, ties, rfl, _⟩ := h
    rfl
  obtain ⟨ms, ties, rfl, ok, rfl⟩ := h
  obtain ⟨v1, rfl, r1⟩ := rps1 r
  have few := ok.few
  obtain ⟨rt, bf⟩ := search_ok ok ms.length (Nat.le_refl _)
  generalize hdl : (searchS ties ms.length ms.length).1 = dl at *
  generalize (searchS ties ms.length ms.length).2 = pl at *
  have hlen : ∀ {σ : L2.St} {H1 : Hp}, σ[0]? = some (some v1) → Le H H1 → ED K (tCB (fun xs H Q => ∃ p ys, xs = [.ref p] ∧ (SqL K H p ys ∨ SqT K H p ys) ∧ Q (.int ys.length) H) (tCons (tOp (rIxT K) (tVar 0) (tC (.int 0))) tNil)) σ H1 (.int (ms.length : Int)) := fun h e => ed_eq (ed_lenT (ed_ixT (ds := [_, _]) (ed_var h (r1.le e)) ed_int (by decide) rfl)) (by rw [List.length_map])
  refine ⟨_, (pss_cons (ps_set (i := 1) sc__law_lots.nd rfl (Or.inr rfl) pe_dnewK)
    (pss_cons (ps_for PassesOwn.never rfl (pi_range1 (by rfl) T.n_range (pa_cons (pe_callB (kc_len (K := K)) (by rfl) T.n_len boot_len (pa_cons (pe_ix (kix_tup (K := K)) (pv 0) pe_int (fun _ _ => rfl)) pa_nil)) pa_nil)) (pg_name (i := 2) sc__law_lots.nd rfl (Or.inl rfl))
      (pss_cons (ps_set (i := 3) sc__law_lots.nd rfl (Or.inl rfl) (pe_ifExp (pt_cmpR (op_dictin (u1 hr.units)) (pv 2) (pv 1) (by rfl)) (pe_lst pa_nil) (pe_lst (pa_cons (pe_tup (pa_cons (pv 2) (pa_cons pe_int pa_nil))) pa_nil))))
    (pss_one (ps_while PassesOwn.never (pt_cmpR op_gt (pe_callB (kc_len (K := K)) (by rfl) T.n_len boot_len (pa_cons (pv 3) pa_nil)) pe_int (nomark _))
      (pss_cons (ps_asg (pe_bm0 PySem.F.plainAttrs_list PySem.F.slot_list_pop PySem.F.type_list_pop mt_pop (pv 3)) (kpg_tup (K := K) (n := 2) rfl (pgs_cons (pg_name (i := 4) sc__law_lots.nd rfl (Or.inl rfl)) (pgs_cons (pg_name (i := 5) sc__law_lots.nd rfl (Or.inr rfl)) pgs_nil))))
    (pss_cons (ps_if (pt_cmpR op_ne (pe_dget2 (u1 hr.units) (pv 1) (pv 4) (pv 5) ⟨rfl, rfl, rfl, rfl⟩) (pv 5) (nomark _))
      (pss_one (ps_ret pe_non))
      pss_nil)
    (pss_one (ps_if (pt_cmpR (op_dictnin (u1 hr.units)) (pv 4) (pv 1) (by rfl))
      (pss_cons (ps_asg (pv 5) (pg_sub (pv 1) (pv 4) (set_dict (u1 hr.units))))
    (pss_one (ps_expr (pe_bm PySem.F.plainAttrs_list PySem.F.slot_list_extend PySem.F.type_list_extend mt_extend (pv 3) (pa_cons (pe_lc (own := [("_law_other", 7)]) rfl sc__law_lots.nd (kpi_list (K := K) (pe_def G_law_near (hr.mono (by decide)) (pa_cons (pv 0) (pa_cons (pv 4) pa_nil)))) (blkOk_by (N := N__law_lots) (sc := defScope s__law_lots) (by decide +kernel)) (fun _ _ _ _ _ => (pg_name (i := 7) sc__law_lots.nd rfl (Or.inl rfl))) (fun _ _ _ _ _ => pts_nil) (fun _ _ _ _ _ => (pe_tup (pa_cons (pv 7) (pa_cons (pe_op op_sub pe_int (pv 5)) pa_nil))))) pa_nil)))))
      pss_nil))))))))
    (pss_cons (ps_set (i := 6) sc__law_lots.nd rfl (Or.inl rfl) (pe_listRg rfl (by rfl) T.n_list (prg_1 (by rfl) T.n_range (pe_callB (kc_len (K := K)) (by rfl) T.n_len boot_len (pa_cons (pe_ix (kix_tup (K := K)) (pv 0) pe_int (fun _ _ => rfl)) pa_nil)))))
    (pss_one (ps_ret (pe_tup (pa_cons (pe_callTy (kc_tuple (K := K)) (by rfl) T.n_tuple boot_tuple (pa_cons (pe_lc (own := [("_law_room", 4)]) rfl sc__law_lots.nd (kpi_list (K := K) (pv 6)) (blkOk_by (N := N__law_lots) (sc := defScope s__law_lots) (by decide +kernel)) (fun _ _ _ _ _ => (pg_name (i := 4) sc__law_lots.nd rfl (Or.inl rfl))) (fun _ _ _ _ _ => (pts_one (pt_cmpR op_eq (pe_dget (u1 hr.units) (pv 1) (pv 4) (fun _ _ => rfl)) pe_int (nomark _)))) (fun _ _ _ _ _ => (pv 4))) pa_nil)) (pa_cons (pe_callTy (kc_tuple (K := K)) (by rfl) T.n_tuple boot_tuple (pa_cons (pe_lc (own := [("_law_room", 4)]) rfl sc__law_lots.nd (kpi_list (K := K) (pv 6)) (blkOk_by (N := N__law_lots) (sc := defScope s__law_lots) (by decide +kernel)) (fun _ _ _ _ _ => (pg_name (i := 4) sc__law_lots.nd rfl (Or.inl rfl))) (fun _ _ _ _ _ => (pts_one (pt_cmpR op_eq (pe_dget (u1 hr.units) (pv 1) (pv 4) (fun _ _ => rfl)) pe_int (nomark _)))) (fun _ _ _ _ _ => (pv 4))) pa_nil)) pa_nil)))))))), ?_⟩
  -- sides = {}
  show tSeq (tAsg tDNewK (gName 1)) _ _ _ _
  intro Dd nD
  refine q_forR1 (K := K) (n := (ms.length : Int)) (ea_cons (hlen rfl (Le.new nD)) ea_nil) (by omega) fun H1 e1 => ?_
  refine ⟨fun i σ H' => ∃ y2 y3 y4 y5 S, σ = [some v1, some (.ref Dd), y2, y3, y4, y5, none, none] ∧ Le H H' ∧ H' Dd = some (.dK (kvS S)) ∧ LI ties ms.length dl i S [], ⟨none, none, none, none, [], rfl, (Le.new nD).trans e1, e1.dK upd_same, LI.start dl⟩, ?_, ?_⟩
  · rintro i σ H2 hi ⟨y2, y3, y4, y5, S, rfl, e2, d2, li⟩
    have hi' : i < ms.length := by omega
    -- waiting
    refine q_asgF (K := K) (PL := fun ds => ds = (if (look S i).isSome = true then ([] : List (Nat × Nat)) else [(i, 0)]).map eW2) (ef_ifF (b := (look S i).isSome) (et_test (K := K) (ed_din d2 (ed_var rfl (.int _)) (ed_var rfl (.obj _)))) (fun h => ?_) fun h => ?_) fun Wd ws ds H3 nW e3 hW nh rr hd => ?_
    · rw [if_pos h]
      exact ef_lst ea_nil (by decide) rfl
    · rw [if_neg (by rw [h]; exact Bool.false_ne_true)]
      exact ef_lst (ea_cons (ed_tup (ea_cons (ed_var rfl (.int _)) (ea_cons ed_int ea_nil)) (by show 2 ≤ 100000; decide)) ea_nil) (by show 1 ≤ 100000; decide) rfl
    subst hd
    have ls0 : LS K ties ms.length dl H H3 Dd Wd i S (if (look S i).isSome = true then [] else [(i, 0)]) := by
      refine ⟨e2.trans e3, e3.dK d2, nD, e2.fresh nW, (fun e => by rw [e, d2] at nW; cases nW), ⟨ws, hW, rr⟩, ?_, ?_⟩
      · cases hl : look S i with
        | none => exact li.begin ok bf hi' hl
        | some s =>
          rw [Option.isSome_some, if_pos rfl]
          exact li
      · cases hl : look S i with
        | none => exact ⟨0, .inr (List.mem_cons_self ..)⟩
        | some s => exact ⟨s, .inl (look_some hl)⟩
    refine s_whileE (W := fun m σ H' => ∃ S W y4 y5, m = meas ms.length S.length W.length ∧ σ = [some v1, some (.ref Dd), some (.int (i : Int)), some (.ref Wd), y4, y5, none, none] ∧ LS K ties ms.length dl H H' Dd Wd i S W) (m0 := _) ⟨S, _, y4, y5, rfl, rfl, ls0⟩ ?_
    rintro m σ H4 ⟨S, W, y4, y5, rfl, rfl, ls⟩
    refine ⟨decide (0 < W.length), eb_eq (et_test (K := K) (ed_B0 (f := fun i j => decide (i > j)) (ed_lenL (ds := W.map eW2) (ed_var rfl (by
      obtain ⟨ws, h1, h2⟩ := ls.ws
      exact .lst h1 ((enc_W2.un _).notH h2) h2))) ed_int)) (by rw [List.length_map]; exact decide_eq_decide.mpr (by omega)), fun hb H5 e5 => ?_, fun hb H5 e5 => ?_⟩
    rotate_left
    · have hW0 : W = [] := List.length_eq_zero_iff.mp (by have := of_decide_eq_false hb; omega)
      subst hW0
      have ls5 := ls.le2 e5
      obtain ⟨s, hs⟩ := ls5.bg
      rcases hs with hs | hs
      · exact ⟨_, _, _, _, S, rfl, ls5.le, ls5.dd, ls5.inv.done hs⟩
      · cases hs
    have hW : W ≠ [] := fun e => by rw [e] at hb; exact absurd (of_decide_eq_true hb) (Nat.lt_irrefl 0)
    obtain ⟨W', p, rfl⟩ : ∃ W' p, W = W' ++ [p] := ⟨_, _, (List.dropLast_concat_getLast hW).symm⟩
    obtain ⟨x, s⟩ := p
    have ls5 := ls.le2 e5
    obtain ⟨ws, hws, rws⟩ := ls5.ws
    rw [List.map_append] at rws
    obtain ⟨ws', u, rfl, rw1, ru⟩ := rps_concat rws
    have sfew := ls5.inv.few
    refine ⟨fun σ' H' => ∃ S2 W2 y4 y5, meas ms.length S2.length W2.length < meas ms.length S.length (W' ++ [(x, s)]).length ∧ σ' = [some v1, some (.ref Dd), some (.int (i : Int)), some (.ref Wd), y4, y5, none, none] ∧ LS K ties ms.length dl H H' Dd Wd i S2 W2, fun σ' H' ⟨S2, W2, y4, y5, h1, h2, h3⟩ => ⟨_, h1, S2, W2, y4, y5, rfl, h2, h3⟩, ?_⟩
    -- room, side = waiting.pop()
    refine q_pop2 (K := K) rfl hws ru (.int _) (.int _) fun u1 u2 H6 hH6 q1 q2 => ?_
    have ew := rp_int q1
    subst ew
    have ew := rp_int q2
    subst ew
    have ed0 : Le H H6 := by
      rw [hH6]
      exact ls5.le.mut ls5.nW
    have dd6 : H6 Dd = some (.dK (kvS S)) := by rw [hH6, upd_ne ls5.ne.symm]; exact ls5.dd
    have hws6 : H6 Wd = some (.lst ws') := by rw [hH6]; exact upd_same
    have rw6 : Rps K H6 ws' (W'.map eW2) := by rw [hH6]; exact rw1.upd hws (enc_W2.nl _)
    clear hH6
    refine q_whenB (b := !decide ((look S x).getD s = s)) (eb_eq (et_test (K := K) (ed_neS (d1 := .int (((look S x).getD s : Nat) : Int)) (d2 := .int (s : Int)) (ed_dget2 dd6 (ed_var rfl (.obj _)) (ed_var rfl (.int _)) (ed_var rfl (.int _))) (ed_var rfl (.int _)) rfl rfl rfl)) ?_) (fun hb H7 e7 => ?_) fun hb H7 e7 => ?_
    · unfold vOf
      congr 1
      exact decide_eq_decide.mpr ⟨fun h => by injection h with h; omega, fun h => by rw [h]⟩
    · have hne : (look S x).getD s ≠ s := by simpa using hb
      cases hl : look S x with
      | none =>
        rw [hl] at hne
        exact absurd rfl hne
      | some s' =>
        rw [hl] at hne
        rw [if_neg (ls5.inv.clash hl hne)] at q
        exact s_retD (K := K) (d := .non) ed_non fun v H8 e8 r8 => q v _ H8 (ed0.trans (e7.trans e8)) rfl r8
    have heq : (look S x).getD s = s := by simpa using hb
    have dd7 := e7.dK dd6
    have hws7 := e7.lst hws6 ((enc_W2.un _).notH rw6)
    have rw7 := rw6.le e7
    have le7 := ed0.trans e7
    refine s_ifB (b := !(look S x).isSome) (et_test (K := K) (ed_dnin dd7 (ed_var rfl (.int _)) (ed_var rfl (.obj _)))) (fun hn H8 e8 => ?_) fun hn H8 e8 => ?_
    · have hl : look S x = none := by
        cases hl : look S x with
        | none => rfl
        | some s' =>
          rw [hl] at hn
          cases hn
      have dd8 := e8.dK dd7
      have hws8 := e8.lst hws7 ((enc_W2.un _).notH rw7)
      have rw8 := rw7.le e8
      have le8 := le7.trans e8
      have hz : (kvS S).length < sizeLine := by
        rw [List.length_map]
        show S.length < 2 ^ 24
        omega
      -- sides[room] = side
      refine ⟨_, rfl, _, rfl, _, rfl, Dd, _, rfl, DPut.k (k := Sum.inl (x : Int)) dd8 hz, ?_⟩
      rw [put_look hl]
      have dd9 : (upd H8 Dd (.dK (kvS (S ++ [(x, s)])))) Dd = some (.dK (kvS (S ++ [(x, s)]))) := upd_same
      have hws9 : (upd H8 Dd (.dK (kvS (S ++ [(x, s)])))) Wd = some (.lst ws') := by rw [upd_ne ls5.ne]; exact hws8
      have rw9 : Rps K (upd H8 Dd (.dK (kvS (S ++ [(x, s)])))) ws' (W'.map eW2) := Rps.dK dd8 rw8
      have le9 : Le H (upd H8 Dd (.dK (kvS (S ++ [(x, s)])))) := le8.mut nD
      generalize upd H8 Dd (.dK (kvS (S ++ [(x, s)]))) = H9 at *
      have wl : ws'.length = W'.length := by rw [rw9.len, List.length_map]
      have sm := ls5.inv.sm
      rw [List.length_append, List.length_singleton] at sm
      have hxr := (ls5.inv.wn (x, s) (List.mem_append_right _ (List.mem_cons_self ..)))
      have hx1 : s ≤ 1 := hxr.2
      have key : ∀ ns : List Int, Near ties (x : Int) ns → (∀ y : Nat, y ∈ ns.map Int.toNat ↔ adj ties x y) ∧ ns.length ≤ 3600 ∧ ∀ z ∈ ns, 0 ≤ z := fun ns hn => by
        have hm : ∀ z, z ∈ ns ↔ z ∈ rawNear ties (x : Int) := fun z => hn.perm.mem_iff
        refine ⟨fun y => ?_, ?_, fun z hz => (near_nat ok hxr.1 z ((hm z).mp hz)).1⟩
        · rw [← nbrs_adj ok hxr.1]
          unfold nbrs
          constructor
          · intro h
            obtain ⟨z, hz, rfl⟩ := List.mem_map.mp h
            exact List.mem_map.mpr ⟨z, (hm z).mp hz, rfl⟩
          · intro h
            obtain ⟨z, hz, rfl⟩ := List.mem_map.mp h
            exact List.mem_map.mpr ⟨z, (hm z).mpr hz, rfl⟩
        · rw [hn.perm.length_eq]
          unfold rawNear
          rw [List.length_map]
          exact Nat.le_trans (List.length_filter_le _ _) ok.len
      -- waiting.extend(..)
      refine s_extP (K := K) (N := 3600) (PL := fun ds => ∃ ns : List Int, Near ties (x : Int) ns ∧ ds = ((ns.map Int.toNat).map fun y => (y, 1 - s)).map eW2) hws9 ((enc_W2.un _).notH rw9) (ed_var rfl (.obj _)) (fun H10 e10 => ?_) (fun ds ⟨ns, hn, hd⟩ => by rw [hd, List.length_map, List.length_map, List.length_map]; exact (key ns hn).2.1) (by
        rw [wl]
        have : S.length * 3600 ≤ 60 * 3600 := Nat.mul_le_mul_right _ (by omega)
        omega) fun wsn ds H10 e10 ⟨ns, hn, hd⟩ r10 l10 => ?_
      · refine EP.weak (ep_lcLP (K := K) (PL := fun ns => Near ties (x : Int) ns) enc_P (encS := .int) (fun _ => true) (fun z => (z, 1 - (s : Int))) (EP.weak (EF.ep (ef_call (ea_cons (ed_var rfl (r1.le (le9.trans e10))) (ea_cons (ed_var rfl (.int _)) ea_nil)) fun H11 e11 => ⟨ms, ties, (x : Int), rfl, ok.len, rfl⟩)) fun d _ _ ⟨ds, hd, ns, hns, hn⟩ => ⟨ns, by rw [hd, hns], hn⟩) (fun ns hn => by have := (key ns hn).2.1; omega) (fun _ => rfl) (fun b v H11 e11 rb => et_yes) fun b v H11 e11 rb _ => ?_) fun d _ _ ⟨ns, hn, hd⟩ => ⟨_, hd, ns, hn, ?_⟩
        · exact ed_tup (ea_cons (ed_var rfl rb) (ea_cons (ed_I0 (f := fun i j => i - j) ed_int (ed_var rfl (.int _))) ea_nil)) (by show 2 ≤ 100000; decide)
        · rw [List.filter_eq_self.mpr (fun _ _ => rfl), List.map_map, List.map_map, List.map_map]
          apply List.map_congr_left
          intro z hz
          have := (key ns hn).2.2 z hz
          show D.tup [.int z, .int (1 - (s : Int))] = D.tup [.int ((z.toNat : Nat) : Int), .int ((1 - s : Nat) : Int)]
          rw [show ((z.toNat : Nat) : Int) = z by omega, show ((1 - s : Nat) : Int) = 1 - (s : Int) by omega]
      · subst hd
        have hI := ls5.inv.push ok bf hl (key ns hn).1 (by rw [List.length_map]; exact (key ns hn).2.1)
        refine ⟨S ++ [(x, s)], W' ++ (ns.map Int.toNat).map (fun y => (y, 1 - s)), _, _, ?_, rfl, ⟨(le9.trans e10).mut ls5.nW, by rw [upd_ne ls5.ne.symm]; exact e10.dK dd9, nD, ls5.nW, ls5.ne, ⟨ws' ++ wsn, upd_same, ?_⟩, hI, ?_⟩⟩
        · have h2 := hI.few
          rw [List.length_append, List.length_singleton] at h2 ⊢
          rw [List.length_append, List.length_append, List.length_map, List.length_map, List.length_singleton]
          exact meas_push h2 (key ns hn).2.1
        · rw [List.map_append]
          exact ((rw9.le e10).app r10).upd l10 (fun d hd => by
            rcases List.mem_append.mp hd with hd | hd
            · exact enc_W2.nl _ d hd
            · exact enc_W2.nl _ d hd)
        · obtain ⟨s', hs⟩ := ls5.bg
          rcases hs with hs | hs
          · exact ⟨s', .inl (List.mem_append_left _ hs)⟩
          · rcases List.mem_append.mp hs with hs | hs
            · exact ⟨s', .inr (List.mem_append_left _ hs)⟩
            · exact ⟨s', .inl (List.mem_append_right _ hs)⟩
    · have hl : look S x = some s := by
        cases hl : look S x with
        | none =>
          rw [hl] at hn
          cases hn
        | some s' =>
          rw [hl] at heq
          have e : s' = s := heq
          rw [e]
      have hI := ls5.inv.drop hl
      refine ⟨S, W', _, _, by rw [List.length_append, List.length_singleton]; exact meas_drop, rfl, ⟨le7.trans e8, e8.dK dd7, nD, ls5.nW, ls5.ne, ⟨ws', e8.lst hws7 ((enc_W2.un _).notH rw7), rw7.le e8⟩, hI, ?_⟩⟩
      obtain ⟨s', hs⟩ := ls5.bg
      rcases hs with hs | hs
      · exact ⟨s', .inl hs⟩
      · rcases List.mem_append.mp hs with hs | hs
        · exact ⟨s', .inr hs⟩
        · have eb := List.mem_singleton.mp hs
          injection eb with eb1 eb2
          exact ⟨s, .inl (by rw [eb1]; exact look_some hl)⟩
  · rintro σ H2 ⟨y2, y3, y4, y5, S, rfl, e2, d2, li⟩
    rw [Int.toNat_natCast] at li
    obtain ⟨no, sides⟩ := li.end ok bf
    rw [if_pos no] at q
    refine q_asgF (K := K) (ef_listRg (n := ms.length) (hlen rfl e2) (by omega)) fun L ws ds H3 nL e3 hL nh rr hd => ?_
    subst hd
    have d3 := e3.dK d2
    have rL : Rp K H3 (.ref L) (.lst (((List.range ms.length).map fun i : Nat => (i : Int)).map .int)) := .lst hL nh rr
    have room : ∀ {z : Int}, z ∈ ((List.range ms.length).map fun i : Nat => (i : Int)) → ∃ x : Nat, z = (x : Int) ∧ x < ms.length := fun {z} hz => by
      obtain ⟨i, hi, rfl⟩ := List.mem_map.mp hz
      exact ⟨i, rfl, List.mem_range.mp hi⟩
    refine s_retD (K := K) (d := eLots ms.length dl) (ed_tup (ea_cons (ed_tupOf (ed_eq (ed_lcL enc_int (encS := .int) ((List.range ms.length).map fun i : Nat => (i : Int)) (fun i => decide (dv dl i.toNat % 2 = 0)) (fun i => i) (ed_var rfl rL) (by rw [List.length_map, List.length_range]; omega) (fun _ => rfl) (fun b v H4 e4 hb r => ?_) fun b v H4 e4 hb r _ => ed_var rfl r) ?_)) (ea_cons (ed_tupOf (ed_eq (ed_lcL enc_int (encS := .int) ((List.range ms.length).map fun i : Nat => (i : Int)) (fun i => decide (dv dl i.toNat % 2 = 1)) (fun i => i) (ed_var rfl rL) (by rw [List.length_map, List.length_range]; omega) (fun _ => rfl) (fun b v H4 e4 hb r => ?_) fun b v H4 e4 hb r _ => ed_var rfl r) ?_)) ea_nil)) (by show 2 ≤ 100000; decide)) fun v H5 e5 r5 => q v _ H5 (e2.trans (e3.trans e5)) rfl r5
    · obtain ⟨x, rfl, hx⟩ := room hb
      have ev := rp_int r
      subst ev
      refine eb_eq (et_test (K := K) (ed_eqS (ed_dgetI (e4.dK d3) (sides x hx) (ed_var rfl (.obj _)) (ed_var rfl (.int _))) ed_int rfl rfl rfl)) ?_
      unfold vOf
      exact decide_eq_decide.mpr ⟨fun h => by injection h with h; rw [Int.toNat_natCast]; omega, fun h => by rw [Int.toNat_natCast] at h; rw [h]; rfl⟩
    · rw [List.map_id']
      rfl
    · obtain ⟨x, rfl, hx⟩ := room hb
      have ev := rp_int r
      subst ev
      refine eb_eq (et_test (K := K) (ed_eqS (ed_dgetI (e4.dK d3) (sides x hx) (ed_var rfl (.obj _)) (ed_var rfl (.int _))) ed_int rfl rfl rfl)) ?_
      unfold vOf
      exact decide_eq_decide.mpr ⟨fun h => by injection h with h; rw [Int.toNat_natCast]; omega, fun h => by rw [Int.toNat_natCast] at h; rw [h]; rfl⟩
    · rw [List.map_id']
      rfl
end
end W1

set_option maxRecDepth 100000
set_option maxHeartbeats 4000000
namespace W1
open PySem PyProof.Rows L2
local macro_rules | `(tactic| walk_at "rp") => `(tactic| first | assumption | exact Rp.int _ | exact Rp.bl _ | exact Rp.str _ | exact Rp.non | exact Rp.obj _ | (refine Rp.le (by assumption) ?_; walk_at "rp"))
local macro_rules | `(tactic| walk_at "ed") => `(tactic| first
  | exact ed_int | exact ed_str | exact ed_bl | exact ed_non
  | (refine ed_var rfl ?_; walk_at "rp")
  | (refine ed_ixT (ds := [_, _]) ?_ ed_int (by decide) rfl; walk_at "ed")
  | (refine ed_I0 ?_ ?_ <;> walk_at "ed")
  | (refine ed_B0 ?_ ?_ <;> walk_at "ed")
  | (refine ed_eqS ?_ ?_ rfl rfl rfl <;> walk_at "ed")
  | assumption)
local macro_rules | `(tactic| walk_at "ea") => `(tactic| first | exact ea_nil | (refine ea_cons ?_ ?_; walk_at "ed"; walk_at "ea"))

abbrev s__law_bent_ring : Stmt := topS 35
abbrev N__law_bent_ring : List Str := ["_law_hand_here", "_law_parts_here", "_law_ring", "_law_at", "_law_room", "_law_some", "_law_turn"]
theorem sc__law_bent_ring : FnScope N__law_bent_ring ["_law_hand_here", "_law_parts_here", "_law_ring"] (defScope s__law_bent_ring) := ⟨rfl, rfl, rfl, by decide +kernel, rfl, by decide +kernel, by decide +kernel⟩
theorem Ob.updL {H : Hp} {l : Addr} {ys zs : List V} {v : V} (hl : H l = some (.lst ys)) (h : Ob H v) : Ob (upd H l (.lst zs)) v := by
  obtain ⟨a, rfl, h⟩ := h
  refine ⟨a, rfl, ?_⟩
  by_cases e : a = l
  · subst e
    exact .inl ⟨zs, upd_same⟩
  · rw [upd_ne e]
    exact h
theorem Th.updL {H : Hp} {l : Addr} {ys zs : List V} {d : D} (hl : H l = some (.lst ys)) (h : Th H d) : Th (upd H l (.lst zs)) d := by
  induction h with
  | sc h => exact .sc h
  | tup h1 _ ih => exact .tup h1 ih
  | ob h => exact .ob (h.updL hl)
abbrev TT : Pd := fun d H => Th H d
theorem monoT : Mono TT := fun d H H' e h => h.le e
abbrev Bent : Pd := fun d H => Th H d ∧ ∀ xs, d = .tup xs → xs.length ≤ 4000
theorem monoB : Mono Bent := fun d H H' e h => ⟨h.1.le e, h.2⟩
theorem bent_all {n : Nat} {d : D} {H : Hp} (hn : n ≤ 4000) (h : AllT TT n d H) : Bent d H := by
  obtain ⟨xs, rfl, h1, h2⟩ := h
  exact ⟨.tup (by omega) h2, fun ys e => by injection e with e; rw [← e]; omega⟩
section
variable {K : PySem.W.Frag} {σ : L2.St} {H : Hp} {te ta tb : TE} {tz : TS} {D1 : Ends} {A : TA} {Pc : Pd} {n m : Nat}
theorem ep_bent (hn : n ≤ 4000) (h : EP K te σ H (AllT TT n)) : EP K te σ H Bent := h.weak fun d H2 _ p => bent_all hn p
theorem ep_sca {d : D} (hs : sca d = true) (h : ED K te σ H d) : EP K te σ H TT := ep_of monoT h (.sc hs)
theorem ep_scaB {d : D} (hs : sca d = true) (h : ED K te σ H d) : EP K te σ H Bent := ep_of monoB h ⟨.sc hs, fun xs e => by rw [e] at hs; cases hs⟩
theorem ints_all (zs : List Int) {N : Nat} (h : zs.length ≤ N) (H : Hp) : AllT TT N (.tup (zs.map .int)) H := ⟨_, rfl, by rw [List.length_map]; exact h, fun d hd => by
  obtain ⟨z, _, rfl⟩ := List.mem_map.mp hd
  exact .sc rfl⟩
theorem monoA {Pc : Pd} {n : Nat} (M : Mono Pc) : Mono (AllT Pc n) := fun d H H' e ⟨xs, h1, h2, h3⟩ => ⟨xs, h1, h2, fun d hd => M _ _ _ e (h3 d hd)⟩
/-- x = xs + ys, a new list -/
theorem q_catN {i : Nat} (M : Mono Pc) (h : EP K ta σ H (AllL Pc n)) (h2 : EP K tb σ H (AllL Pc m)) (hn : n + m ≠ 5) (hz : n + m ≤ 100000)
    (k : ∀ p vs ds H1, H p = none → Le H H1 → H1 p = some (.lst vs) → NotH vs → Rps K H1 vs ds → AllA Pc (n + m) ds H1 → tz D1 (σ.set i (some (.ref p))) H1) : tSeq (tAsg (tOp rCat ta tb) (gName i)) tz D1 σ H := by
  refine h H (Le.refl _) _ fun x d1 H1 e1 p1 r1 => h2 H1 e1 _ fun y d2 H2 e2 p2 r2 => ?_
  obtain ⟨ds, rfl, q1⟩ := p1
  obtain ⟨es, rfl, q2⟩ := p2
  obtain ⟨a, xs, rfl, s, nh, rr⟩ := rp_lst (r1.le e2)
  obtain ⟨b, ys, rfl, s2, nh2, rr2⟩ := rp_lst r2
  refine ⟨a, b, xs, ys, rfl, rfl, s, s2, by rw [rr.len, rr2.len, q1.1, q2.1]; exact Evl.sz_of hz, fun p np => ?_⟩
  have rf := (rr.app rr2).le (Le.new (o := .lst (xs ++ ys)) np)
  refine k p _ _ _ ((e1.trans e2).fresh np) ((e1.trans e2).trans (Le.new np)) upd_same (notH_len (by rw [List.length_append, rr.len, rr2.len, q1.1, q2.1]; exact hn)) rf ⟨by rw [List.length_append, q1.1, q2.1], fun d hd => ?_⟩
  rcases List.mem_append.mp hd with hd | hd
  · exact M _ _ _ (e2.trans (Le.new np)) (q1.2 d hd)
  · exact M _ _ _ (Le.new np) (q2.2 d hd)
/-- tuple([ints drawn for _ in range(k)]) -/
theorem ep_drawn {ra : TA} {te : TE} {vs : List Nat} {j : Nat} {N : Nat} (h : EA K ra σ H (fun ds _ => ∃ k : Nat, ds = [.int (k : Int)] ∧ 1 ≤ k ∧ k ≤ N)) (hN : N ≤ 50000) (hw : ∀ x, wipe ((wipe σ vs).set j (some x)) vs = wipe σ vs)
    (he : ∀ (v : V) H1, Le H H1 → EP K te ((wipe σ vs).set j (some v)) H1 (fun d _ => ∃ z : Int, d = .int z)) : EP K (tCB (rTupOf K) (tCons (tLc (iRng1 ra) (gName j) tYes te vs) tNil)) σ H (fun d _ => ∃ zs : List Int, d = .tup (zs.map .int) ∧ zs ≠ [] ∧ zs.length ≤ N) := by
  refine EP.weak (ep_tupOf (PL := fun ds => ∃ zs : List Int, ds = zs.map .int ∧ zs ≠ [] ∧ zs.length ≤ N) ?_) fun d _ _ ⟨ds, hd, zs, hz, h1, h2⟩ => ⟨zs, by rw [hd, hz], h1, h2⟩
  intro H1 e Q q
  refine h H1 e _ fun us ds H2 e2 ⟨k, hd, k1, k2⟩ rr => ?_
  subst hd
  have hc : EDA K (fun _ H Q => Q us H) σ H2 [.int (k : Int)] := fun H3 e3 Q' q' => q' us _ H3 (Le.refl _) rfl (rr.le e3)
  exact ep_lcR enc_int (n := k) (ra := fun _ H Q => Q us H) (fun _ => True) hc (by omega) hw (fun i H3 e3 _ => (he _ H3 ((e.trans e2).trans e3)).weak fun d _ _ ⟨z, hz⟩ => ⟨z, hz, trivial⟩) H2 (Le.refl _) Q fun v d H3 e3 ⟨zs, hd, hl, _⟩ r => q v d H3 (e2.trans e3) ⟨_, hd, zs, rfl, (fun e => by rw [e] at hl; simp at hl; omega), by omega⟩ r
end
section
variable {P : Program} {w : World} {K : PySem.W.Frag} {mg : Str → Option Value} {base : Heap}
def R_bent : List D → Hp → Pd → Prop := fun ds H P => ∃ h : Addr, ∃ ms ties dr, ds = [.obj (.ref h), eW ms ties, dr] ∧ Hand H h ∧ PartsOk ms ties ∧ (dr = .non ∨ ∃ zs : List Int, dr = .tup (zs.map .int) ∧ zs ≠ [] ∧ zs.length ≤ 200) ∧ P = Bent
theorem ok_bent (T : Txt mg) (g : GDef K mg "_law_bent_ring" s__law_bent_ring ["_law_hand_here", "_law_parts_here", "_law_ring"]) (G_law_draw : Def P w K mg base 1 "_law_draw" ["_law_hand_here", "_law_many"] (spD K R_draw))
    (G_law_any : Def P w K mg base 2 "_law_any" ["_law_hand_here", "_law_items"] (spD K R_any)) (G_law_nested : Def P w K mg base 3 "_law_nested" ["_law_hand_here"] (spD K R_nested)) : Def P w K mg base 4 "_law_bent_ring" ["_law_hand_here", "_law_parts_here", "_law_ring"] (spD K R_bent) := by
  refine defD g sc__law_bent_ring (fun ds H Pd h => ?_) fun cdv A0 outer s0 f H vs ds Pd Q E hr r h q => ?_
  · obtain ⟨h, ms, ties, dr, rfl, _⟩ := h
    rfl
  obtain ⟨h, ms, ties, dr, rfl, hh, ok, hdr, rfl⟩ := h
  obtain ⟨v1, v2, v3, rfl, r1, r2, r3⟩ := rps3 r
  have ev := rp_obj r1
  subst ev
  have few := ok.few
  have some1 := ok.some
  refine ⟨_, (Evl.pss_cut (ps_if (pt_cmpR op_isN (pv 2) pe_non (nomark _))
      (pss_one (ps_set (i := 2) sc__law_bent_ring.nd rfl (Or.inl rfl) (pe_callTy (kc_tuple (K := K)) (by rfl) T.n_tuple boot_tuple (pa_cons (pe_lc (own := [("_law_turn", 6)]) rfl sc__law_bent_ring.nd (pi_range1 (by rfl) T.n_range (pa_cons (pe_op op_add pe_int (pe_op op_mul pe_int (pe_def G_law_draw (hr.mono (by decide)) (pa_cons (pv 0) (pa_cons pe_int pa_nil))))) pa_nil)) (blkOk_by (N := N__law_bent_ring) (sc := defScope s__law_bent_ring) (by decide +kernel)) (fun _ _ _ _ _ => (pg_name (i := 6) sc__law_bent_ring.nd rfl (Or.inl rfl))) (fun _ _ _ _ _ => pts_nil) (fun _ _ _ _ _ => (pe_def G_law_draw (hr.mono (by decide)) (pa_cons (pv 0) (pa_cons (pe_callB (kc_len (K := K)) (by rfl) T.n_len boot_len (pa_cons (pe_ix (kix_tup (K := K)) (pv 1) pe_int (fun _ _ => rfl)) pa_nil)) pa_nil))))) pa_nil))))
      pss_nil)
    (pss_cons (ps_par (i := 3) (j := 4) (by rfl) sc__law_bent_ring.nd rfl rfl (by decide) rfl rfl (pa_cons (pe_def G_law_draw (hr.mono (by decide)) (pa_cons (pv 0) (pa_cons (pe_callB (kc_len (K := K)) (by rfl) T.n_len boot_len (pa_cons (pv 2) pa_nil)) pa_nil))) (pa_cons (pe_def G_law_draw (hr.mono (by decide)) (pa_cons (pv 0) (pa_cons (pe_callB (kc_len (K := K)) (by rfl) T.n_len boot_len (pa_cons (pe_ix (kix_tup (K := K)) (pv 1) pe_int (fun _ _ => rfl)) pa_nil)) pa_nil))) pa_nil)) (by rfl))
    (pss_cons (ps_set (i := 5) sc__law_bent_ring.nd rfl (Or.inl rfl) (pe_lst (pa_cons (pe_op (kop_catA (K := K)) (pe_slice (ksl_tup (K := K)) (pv 2) (po_some (pv 3)) po_none) (pe_slice (ksl_tup (K := K)) (pv 2) po_none (po_some (pv 3)))) (pa_cons (kpe_revT (K := K) (pv 2)) (pa_cons (pe_op (kop_catA (K := K)) (pv 2) (pv 2)) (pa_cons (pe_op (kop_rep1 (K := K)) (pv 2) pe_int) (pa_cons (pe_op (kop_catA (K := K)) (pe_slice (ksl_tup (K := K)) (pv 2) po_none (po_some (pv 3))) (pe_slice (ksl_tup (K := K)) (pv 2) (po_some (pe_op op_add (pv 3) pe_int)) po_none)) (pa_cons (pe_callTy (kc_list (K := K)) (by rfl) T.n_list boot_list (pa_cons (pv 2) pa_nil)) (pa_cons (pe_slice (ksl_tup (K := K)) (pv 2) po_none (po_some pe_int)) pa_nil)))))))))
    (pss_cons (ps_set (i := 5) sc__law_bent_ring.nd rfl (Or.inl rfl) (pe_op op_cat (pv 5) (pe_lst (pa_cons (pe_op (kop_catA (K := K)) (pe_op (kop_catA (K := K)) (pe_slice (ksl_tup (K := K)) (pv 2) po_none (po_some (pv 3))) (pe_tup (pa_cons (pv 4) pa_nil))) (pe_slice (ksl_tup (K := K)) (pv 2) (po_some (pv 3)) po_none)) (pa_cons (pe_op (kop_catA (K := K)) (pe_op (kop_catA (K := K)) (pe_slice (ksl_tup (K := K)) (pv 2) po_none (po_some (pv 3))) (pe_tup (pa_cons (pv 4) pa_nil))) (pe_slice (ksl_tup (K := K)) (pv 2) (po_some (pe_op op_add (pv 3) pe_int)) po_none)) (pa_cons (pe_slice (ksl_tup (K := K)) (pv 2) po_none (po_some pe_int)) pa_nil))))))
    (pss_cons (ps_expr (pe_bm PySem.F.plainAttrs_list PySem.F.slot_list_append PySem.F.type_list_append mt_append (pv 5) (pa_cons (pe_op (kop_catA (K := K)) (pe_op (kop_catA (K := K)) (pe_slice (ksl_tup (K := K)) (pv 2) po_none (po_some (pv 3))) (pe_tup (pa_cons pe_bl pa_nil))) (pe_slice (ksl_tup (K := K)) (pv 2) (po_some (pe_op op_add (pv 3) pe_int)) po_none)) pa_nil)))
    (pss_cons (ps_set (i := 5) sc__law_bent_ring.nd rfl (Or.inl rfl) (pe_op op_cat (pv 5) (pe_lst (pa_cons (pe_op (kop_catA (K := K)) (pe_op (kop_catA (K := K)) (pe_slice (ksl_tup (K := K)) (pv 2) po_none (po_some (pv 3))) (pe_tup (pa_cons (pe_callB (kc_len (K := K)) (by rfl) T.n_len boot_len (pa_cons (pe_ix (kix_tup (K := K)) (pv 1) pe_int (fun _ _ => rfl)) pa_nil)) pa_nil))) (pe_slice (ksl_tup (K := K)) (pv 2) (po_some (pe_op op_add (pv 3) pe_int)) po_none)) (pa_cons (pe_op (kop_catA (K := K)) (pe_op (kop_catA (K := K)) (pe_slice (ksl_tup (K := K)) (pv 2) po_none (po_some (pv 3))) (pe_tup (pa_cons (pe_un un_neg pe_int) pa_nil))) (pe_slice (ksl_tup (K := K)) (pv 2) (po_some (pe_op op_add (pv 3) pe_int)) po_none)) (pa_cons pe_non (pa_cons (pe_tup pa_nil) (pa_cons pe_int (pa_cons pe_str pa_nil)))))))))
    (pss_one (ps_ret (pe_def G_law_any (hr.mono (by decide)) (pa_cons (pv 0) (pa_cons (pe_op op_cat (pv 5) (pe_lst (pa_cons (pe_op (kop_rep1 (K := K)) (pe_slice (ksl_tup (K := K)) (pv 2) po_none (po_some pe_int)) pe_int) (pa_cons (pe_op (kop_catA (K := K)) (pe_op (kop_catA (K := K)) (pe_slice (ksl_tup (K := K)) (pv 2) po_none (po_some (pv 3))) (pe_tup (pa_cons pe_non pa_nil))) (pe_slice (ksl_tup (K := K)) (pv 2) (po_some (pe_op op_add (pv 3) pe_int)) po_none)) (pa_cons (pe_def G_law_nested (hr.mono (by decide)) (pa_cons (pv 0) pa_nil)) (pa_cons (pv 2) pa_nil)))))) pa_nil))))))))))), ?_⟩
  have hlen : ∀ {σ : L2.St} {H1 : Hp}, σ[1]? = some (some v2) → Le H H1 → ED K (tCB (fun xs H Q => ∃ p ys, xs = [.ref p] ∧ (SqL K H p ys ∨ SqT K H p ys) ∧ Q (.int ys.length) H) (tCons (tOp (rIxT K) (tVar 1) (tC (.int 0))) tNil)) σ H1 (.int (ms.length : Int)) := fun h e => ed_eq (ed_lenT (ed_ixT (ds := [_, _]) (ed_var h (r2.le e)) ed_int (by decide) rfl)) (by rw [List.length_map])
  refine q_cut (M := fun σ' H' => ∃ v zs, σ' = [some (.ref h), some v2, some v, none, none, none, none] ∧ Le H H' ∧ Rp K H' v (.tup ((zs : List Int).map .int)) ∧ zs ≠ [] ∧ zs.length ≤ 200) ?_ ?_
  · rcases hdr with rfl | ⟨zs, rfl, hz, hl⟩
    · refine s_ifB (b := true) (et_test (K := K) (ed_isN (d1 := .non) (ed_var rfl r3) fun v e => nomatch e)) (fun _ H1 e1 => ?_) fun h => nomatch h
      have hcount : ∀ {σ : L2.St} {H' : Hp}, σ[0]? = some (some (.ref h)) → Le H H' → EP K (tOp (rI0 fun i j => .int (i + j)) (tC (.int 3)) (tOp (rI CMul fun i j => .int (i * j)) (tC (.int 2)) (tCall (spD K R_draw) [] E0 (tCons (tVar 0) (tCons (tC (.int 2)) tNil))))) σ H' (fun d _ => ∃ k : Nat, d = .int (k : Int) ∧ 1 ≤ k ∧ k ≤ 200) := fun hs e => by
        refine ep_I0 (P2 := fun d _ => ∃ y : Int, d = .int y ∧ 0 ≤ y ∧ y ≤ 2) (ed_int (i := 3)) (ep_I (ed_int (i := 2)) (ep_draw (m := 2) (hh.le e) (ea_cons (ed_var hs (.obj _)) (ea_cons ed_int ea_nil)) (by decide)) fun d1 d2 H2 H3 _ _ p1 p2 => ?_) fun d1 d2 H2 H3 _ _ p1 p2 => ?_
        · obtain ⟨z, p2, h1, h2⟩ := p2
          exact ⟨2, z, p1, p2, .inl ⟨by decide, by decide⟩, .int (2 * z), ⟨2 * z, rfl, by omega, by omega⟩, .int _⟩
        · obtain ⟨y, p2, h1, h2⟩ := p2
          exact ⟨3, y, p1, p2, .int (3 + y), ⟨(3 + y).toNat, by rw [show (((3 + y).toNat : Nat) : Int) = 3 + y by omega], by omega, by omega⟩, .int _⟩
      refine s_asg (K := K) (P := fun d _ => ∃ zs : List Int, d = .tup (zs.map .int) ∧ zs ≠ [] ∧ zs.length ≤ 200) (ep_drawn (EA_weak (ep_cons (hcount rfl e1) ea_nil) fun ds H2 p => ?_) (by decide) (fun _ => rfl) fun v H2 e2 => EP.weak (ep_draw (hh.le (e1.trans e2)) (ea_cons (ed_var rfl (.obj _)) (ea_cons (hlen rfl (e1.trans e2)) ea_nil)) (by omega)) fun d _ _ ⟨z, hz, _⟩ => ⟨z, hz⟩) fun v d H2 e2 p r => ?_
      · obtain ⟨d, r', H3, rfl, _, ⟨k, hk, k1, k2⟩, hr'⟩ := p
        have hr'' : r' = [] := hr'
        subst hr'' hk
        exact ⟨k, rfl, k1, k2⟩
      · obtain ⟨zs, rfl, hz, hl⟩ := p
        exact ⟨v, zs, rfl, e1.trans e2, r, hz, hl⟩
    · refine s_ifB (b := false) (et_test (K := K) (ed_isN (d1 := .tup (zs.map .int)) (ed_var rfl r3) fun v e => nomatch e)) (fun h => nomatch h) fun _ H1 e1 => ?_
      exact ⟨v3, zs, rfl, e1, r3.le e1, hz, hl⟩
  rintro σ1 H1 ⟨v, zs, rfl, e1, rv, hz, hl⟩
  have hz1 : 1 ≤ zs.length := by
    cases zs with
    | nil => exact absurd rfl hz
    | cons _ _ => simp
  -- at, room
  refine q_par2 (K := K) (ep_cons (ep_draw (hh.le e1) (ea_cons (ed_var rfl (.obj _)) (ea_cons (ed_lenT (ed_var rfl rv)) ea_nil)) (by rw [List.length_map]; omega)) (ep_cons (ep_draw (hh.le e1) (ea_cons (ed_var rfl (.obj _)) (ea_cons (hlen rfl e1) ea_nil)) (by omega)) ea_nil)) (fun ds H2 ⟨d, r, H3, h1, _, _, d2, r2, H4, h2, _, _, h3⟩ => by
    have h3' : r2 = [] := h3
    rw [h1, h2, h3']
    rfl) fun va vr d1 d2 H2 e2 p q1 q2 => ?_
  obtain ⟨d, r', H3, er, _, ⟨at_, hat, a0, a1⟩, d', r'', H4, er2, _, ⟨room, hroom, b0, b1⟩, er3⟩ := p
  injection er with ea eb
  subst ea eb
  injection er2 with ea eb
  subst ea hat hroom
  have ev := rp_int q1
  subst ev
  have ev := rp_int q2
  subst ev
  have e12 := e1.trans e2
  have rv2 := rv.le e2
  have hh2 := hh.le e12
  have hR : ∀ {σ : L2.St} {H' : Hp}, σ[2]? = some (some v) → Le H2 H' → EP K (tVar 2) σ H' (AllT TT 200) := fun h e => ep_var (monoA monoT) h (rv2.le e) (ints_all zs hl _)
  have hA : ∀ {σ : L2.St} {H' : Hp}, σ[3]? = some (some (.int at_)) → EO (tPart (tVar 3)) σ H' (some at_) := fun h => eo_some (K := K) (ed_var h (.int _))
  have hA1 : ∀ {σ : L2.St} {H' : Hp}, σ[3]? = some (some (.int at_)) → EO (tPart (tOp (rI0 fun i j => .int (i + j)) (tVar 3) (tC (.int 1)))) σ H' (some (at_ + 1)) := fun h => eo_some (K := K) (ed_I0 (f := fun i j => i + j) (ed_var h (.int _)) ed_int)
  have hK : ∀ {σ : L2.St} {H' : Hp} (k : Int), EO (tPart (tC (.int k))) σ H' (some k) := fun k => eo_some (K := K) ed_int
  -- ring[:at] + (x,) + ring[at + 1:]
  have mid : ∀ {σ : L2.St} {H' : Hp} {te : TE}, σ[2]? = some (some v) → σ[3]? = some (some (.int at_)) → Le H2 H' → EP K te σ H' TT → EP K (tOp (rCatA K) (tOp (rCatA K) (tSl (rSlA K) (tVar 2) tNoPart (tPart (tVar 3))) (tTup (tCons te tNil))) (tSl (rSlA K) (tVar 2) (tPart (tOp (rI0 fun i j => .int (i + j)) (tVar 3) (tC (.int 1)))) tNoPart)) σ H' Bent := fun h2 h3 e ht =>
    ep_bent (by decide) (ep_catP monoT (ep_catP monoT (ep_slP monoT (hR h2 e) eo_none (hA h3)) (ep_tup1 monoT ht) (by decide)) (ep_slP monoT (hR h2 e) (hA1 h3) eo_none) (by decide))
  refine q_asg (K := K) (P := AllL Bent 7) (ep_allL monoB (ea_allC monoB (ep_bent (n := 400) (by decide) (ep_catP monoT (ep_slP monoT (hR rfl (Le.refl _)) (hA rfl) eo_none) (ep_slP monoT (hR rfl (Le.refl _)) eo_none (hA rfl)) (by decide)))
    (ea_allC monoB (ep_bent (by decide) (ep_revP monoT (hR rfl (Le.refl _))))
    (ea_allC monoB (ep_bent (n := 400) (by decide) (ep_catP monoT (hR rfl (Le.refl _)) (hR rfl (Le.refl _)) (by decide)))
    (ea_allC monoB (ep_of monoB (ed_rep1 (ed_var rfl rv2) ed_int (by intro h; exact hz (List.map_eq_nil_iff.mp h)) (by decide) (by rw [List.length_map]; omega)) (bent_all (n := 600) (by decide) ⟨_, rfl, ?_, ?_⟩))
    (ea_allC monoB (ep_bent (n := 400) (by decide) (ep_catP monoT (ep_slP monoT (hR rfl (Le.refl _)) eo_none (hA rfl)) (ep_slP monoT (hR rfl (Le.refl _)) (hA1 rfl) eo_none) (by decide)))
    (ea_allC monoB (EP.weak (ep_lstOfO ((hR rfl (Le.refl _)).weak fun d _ _ ⟨xs, h, _⟩ => ⟨xs, h⟩)) fun d H3 _ ⟨u, h, ob⟩ => ⟨by rw [h]; exact .ob ob, fun xs e => by rw [h] at e; cases e⟩)
    (ea_allC monoB (ep_bent (by decide) (ep_slP monoT (hR rfl (Le.refl _)) eo_none (hK 2))) ea_all0))))))) (by decide) (by decide)) fun v5 d5 H5 e5 p5 r5 => ?_
  · show (List.replicate 3 (zs.map D.int)).flatten.length ≤ 600
    simp
    omega
  · intro d hd
    obtain ⟨l, hl1, hl2⟩ := List.mem_flatten.mp hd
    rw [List.eq_of_mem_replicate hl1] at hl2
    obtain ⟨z, _, rfl⟩ := List.mem_map.mp hl2
    exact .sc rfl
  -- + three more
  refine q_catN (K := K) (n := 7) (m := 3) monoB (ep_var (fun d H H' e ⟨xs, h1, h2⟩ => ⟨xs, h1, h2.mono monoB e⟩) rfl r5 p5) (ep_allL monoB (ea_allC monoB (ep_bent (n := 401) (by decide) (ep_catP monoT (ep_catP monoT (ep_slP monoT (hR rfl e5) eo_none (hA rfl)) (ep_tup1 monoT (ep_sca rfl (ed_var rfl (.int room)))) (by decide)) (ep_slP monoT (hR rfl e5) (hA rfl) eo_none) (by decide)))
    (ea_allC monoB (mid rfl rfl e5 (ep_sca rfl (ed_var rfl (.int room))))
    (ea_allC monoB (ep_bent (by decide) (ep_slP monoT (hR rfl e5) eo_none (hK 1))) ea_all0))) (by decide) (by decide)) (by decide) (by decide) fun p6 vs6 ds6 H6 n6 e6 hp6 nh6 r6 al6 => ?_
  -- append
  refine q_app (K := K) (P := Bent) hp6 nh6 (ed_var rfl (.obj _)) (fun H7 e7 => mid rfl rfl (e5.trans (e6.trans e7)) (ep_sca rfl ed_bl)) (by rw [r6.len, al6.1]; decide) fun y d7 H7 e7 p7 r7 l7 => ?_
  have e57 : Le H5 (upd H7 p6 (.lst (vs6 ++ [y]))) := (e6.trans e7).mut n6
  have r8 : Rps K (upd H7 p6 (.lst (vs6 ++ [y]))) (vs6 ++ [y]) (ds6 ++ [d7]) := ((r6.le e7).app (.cons r7 .nil)).upd l7 fun d hd => by
    rcases List.mem_append.mp hd with hd | hd
    · exact (al6.2 d hd).1.noL
    · rw [List.mem_singleton.mp hd]
      exact p7.1.noL
  have a8 : AllA Bent 11 (ds6 ++ [d7]) (upd H7 p6 (.lst (vs6 ++ [y]))) := ⟨by rw [List.length_append, al6.1]; rfl, fun d hd => by
    rcases List.mem_append.mp hd with hd | hd
    · exact ⟨(((al6.2 d hd).1).le e7).updL l7, (al6.2 d hd).2⟩
    · rw [List.mem_singleton.mp hd]
      exact ⟨p7.1.updL l7, p7.2⟩⟩
  have r8' : Rp K (upd H7 p6 (.lst (vs6 ++ [y]))) (.ref p6) (.lst (ds6 ++ [d7])) := .lst upd_same (notH_len (by rw [List.length_append, r6.len, al6.1]; show 7 + 3 + 1 ≠ 5; decide)) r8
  generalize upd H7 p6 (.lst (vs6 ++ [y])) = H8 at *
  have e8 := e5.trans e57
  -- + six more
  refine q_asg (K := K) (P := AllL Bent 17) (ep_allCat (n := 11) (m := 6) monoB (ep_var (fun d H H' e ⟨xs, h1, h2⟩ => ⟨xs, h1, h2.mono monoB e⟩) rfl r8' ⟨_, rfl, a8⟩) (ep_allL monoB (ea_allC monoB (mid rfl rfl e8 (ep_sca rfl (hlen rfl (e12.trans e8))))
    (ea_allC monoB (mid rfl rfl e8 (ep_sca rfl (ed_neg ed_int)))
    (ea_allC monoB (ep_scaB rfl ed_non) (ea_allC monoB (ep_of monoB (ed_tup ea_nil (by decide)) ⟨.tup (Nat.zero_le _) fun d hd => (nomatch hd), fun xs e => by injection e with e; rw [← e]; exact Nat.zero_le _⟩) (ea_allC monoB (ep_scaB rfl ed_int) (ea_allC monoB (ep_scaB rfl ed_str) ea_all0)))))) (by decide) (by decide)) (by decide) (by decide)) fun v9 d9 H9 e9 p9 r9 => ?_
  have e09 := e8.trans e9
  -- one of them
  refine s_ret (K := K) (P := Bent) (ep_anyH (n := 21) monoB (hh2.le e09) (ed_var rfl (.obj _)) (ep_allCat (n := 17) (m := 4) monoB (ep_var (fun d H H' e ⟨xs, h1, h2⟩ => ⟨xs, h1, h2.mono monoB e⟩) rfl r9 p9) (ep_allL monoB (ea_allC monoB (ep_of monoB (ed_rep1 (ed_slT (lo := none) (hi := some 1) (ed_var rfl (rv2.le e09)) eo_none (hK 1)) ed_int ?_ (by decide) ?_) (bent_all (n := 600) (by decide) ⟨_, rfl, ?_, ?_⟩))
    (ea_allC monoB (mid rfl rfl e09 (ep_sca rfl ed_non))
    (ea_allC monoB (EP.weak (ep_call (P := fun d H2 => Th H2 d ∧ Ns d) (ea_cons (ed_var rfl (.obj _)) ea_nil) fun ds H10 e10 p => ⟨_, ⟨h, p, hh2.le (e09.trans e10), rfl⟩, fun d H11 e11 p => p⟩) fun d H10 _ ⟨h1, h2⟩ => ⟨h1, fun xs e => by have := (h2.it xs e).1; omega⟩)
    (ea_allC monoB (ep_bent (by decide) (hR rfl e09)) ea_all0)))) (by decide) (by decide)) (by decide) (by decide)) (by decide) (by decide)) fun v d H10 e10 p r => q v d H10 (e12.trans (e09.trans e10)) p r
  all_goals rw [cutG_hi _ _ (by decide)]
  · intro h
    cases zs with
    | nil => exact hz rfl
    | cons z zs => cases h
  · rw [List.length_take]
    omega
  · show (List.replicate 3 ((zs.map D.int).take 1)).flatten.length ≤ 600
    simp
    omega
  · intro d hd
    obtain ⟨l, hl1, hl2⟩ := List.mem_flatten.mp hd
    rw [List.eq_of_mem_replicate hl1] at hl2
    obtain ⟨z, _, rfl⟩ := List.mem_map.mp (List.mem_of_mem_take hl2)
    exact .sc rfl
end
end W1

set_option maxRecDepth 100000
set_option maxHeartbeats 4000000
namespace W1
open PySem PyProof.Rows L2
local macro_rules | `(tactic| walk_at "rp") => `(tactic| first | assumption | exact Rp.int _ | exact Rp.bl _ | exact Rp.str _ | exact Rp.non | exact Rp.obj _ | (refine Rp.le (by assumption) ?_; walk_at "rp"))
local macro_rules | `(tactic| walk_at "ed") => `(tactic| first
  | exact ed_int | exact ed_str | exact ed_bl | exact ed_non
  | (refine ed_var rfl ?_; walk_at "rp")
  | (refine ed_ixT (ds := [_, _]) ?_ ed_int (by decide) rfl; walk_at "ed")
  | (refine ed_I0 ?_ ?_ <;> walk_at "ed")
  | (refine ed_B0 ?_ ?_ <;> walk_at "ed")
  | (refine ed_eqS ?_ ?_ rfl rfl rfl <;> walk_at "ed")
  | assumption)
local macro_rules | `(tactic| walk_at "ea") => `(tactic| first | exact ea_nil | (refine ea_cons ?_ ?_; walk_at "ed"; walk_at "ea"))

abbrev s_law : Stmt := topS 36
abbrev N_law : List Str := ["_law_script", "_law_hand_here", "_law_turn", "_law_parts_here", "_law_many", "_law_web", "_law_due", "_law_lots_here", "_law_ring", "_law_again", "_law_thing", "_law_pair"]
theorem sc_law : FnScope N_law ["_law_script"] (defScope s_law) := ⟨rfl, rfl, rfl, by decide +kernel, rfl, by decide +kernel, by decide +kernel⟩
theorem sqL_le {K : PySem.W.Frag} {H H' : Hp} {a : Addr} {ns : List Int} (e : Le H H') (h : SqL K H a (ns.map V.int)) : SqL K H' a (ns.map V.int) := by
  rcases h with (h | ⟨o, h⟩) | h
  · exact .inl (.inl (e.lst h (notH_ints _)))
  · exact .inl (.inr ⟨o, e.frz h⟩)
  · exact .inr h
def isNonD : D → Bool
  | .non => true
  | _ => false
section
variable {K : PySem.W.Frag} {σ : L2.St} {H : Hp} {ta tb : TE} {d : D}
theorem ed_isN2 (ha : ED K ta σ H d) (n : ∀ v, d ≠ .obj v) : ED K (tOp (fun x y H Q => y = .non ∧ Q (.bl (decide (x = .non))) H) ta (tC .non)) σ H (.bl (isNonD d)) := ed_eq (ed_isN ha n) (by cases d <;> rfl)
theorem ed_notN2 (ha : ED K ta σ H d) (n : ∀ v, d ≠ .obj v) : ED K (tOp (fun x y H Q => y = .non ∧ Q (.bl (!decide (x = .non))) H) ta (tC .non)) σ H (.bl (!isNonD d)) := ed_eq (ed_notN ha n) (by cases d <;> rfl)
theorem ed_isnB {a b : Bool} (ha : ED K ta σ H (.bl a)) (hb : ED K tb σ H (.bl b)) : ED K (tOp (fun x y H Q => ∃ a b, x = .bl a ∧ y = .bl b ∧ Q (.bl (!decide (a = b))) H) ta tb) σ H (.bl (!decide (a = b))) := ed_op ha hb fun x y H2 _ r1 r2 Q q =>
  ⟨a, b, rp_bl r1, rp_bl r2, q _ _ H2 (Le.refl _) rfl (.bl _)⟩
/-! equal tuples of ints -/
def pdI (zs : List Int) : PyData := .tuple (zs.map .int)
theorem pdI_lay : ∀ zs : List Int, PyData.canLayAll0 (zs.map PyData.int) = true
  | [] => rfl
  | z :: zs => by
    have ih := pdI_lay zs
    simp [PyData.canLayAll0, PyData.canLay0, ih]
theorem pdI_dep : ∀ zs : List Int, PyData.depthAll (zs.map PyData.int) ≤ 5
  | [] => by simp [PyData.depthAll]
  | z :: zs => by
    have ih := pdI_dep zs
    simp [PyData.depthAll, PyData.depth, ih]
theorem pdI_eqv : ∀ zs : List Int, PyData.eqvAll (zs.map PyData.int) (zs.map PyData.int) = true
  | [] => rfl
  | z :: zs => by
    have ih := pdI_eqv zs
    simp [PyData.eqvAll, PyData.eqv, ih]
theorem pdI_shaped (zs : List Int) : SeqAt.shaped (pdI zs) = true := by
  have h1 := pdI_lay zs
  have h2 := pdI_dep zs
  have h3 : (pdI zs).depth ≤ 64 := by
    simp [pdI, PyData.depth]
    omega
  have h4 : (pdI zs).canLay0 = true := by
    simp [pdI, PyData.canLay0, h1]
  unfold SeqAt.shaped
  rw [h4, decide_eq_true h3]
  rfl
theorem dpAll_ints : ∀ zs : List Int, DpAll K H (zs.map V.int) (zs.map PyData.int)
  | [] => .nil
  | z :: zs => .cons (.int z) (dpAll_ints zs)
theorem dpI {v : V} {zs : List Int} (r : Rp K H v (.tup (zs.map .int))) : L2.Dp K H v (pdI zs) := by
  obtain ⟨a, xs, rfl, s, rr⟩ := rp_tup r
  have ex := ints_rps rr
  subst ex
  exact .tup s (dpAll_ints zs)
theorem ed_neI {zs : List Int} (ha : ED K ta σ H (.tup (zs.map .int))) (hb : ED K tb σ H (.tup (zs.map .int))) : ED K (tOp (rNeD K) ta tb) σ H (.bl false) := ed_op ha hb fun x y H2 _ r1 r2 Q q => by
  refine ⟨_, _, dpI r1, dpI r2, pdI_shaped zs, pdI_shaped zs, ?_⟩
  have e : PyData.eqv (pdI zs) (pdI zs) = true := pdI_eqv zs
  rw [e]
  exact q _ _ H2 (Le.refl _) rfl (.bl _)
end
def spLaw (K : PySem.W.Frag) : Sp := fun vs H Q _ => ∃ (a : Addr) (ns : List Int), vs = [.ref a] ∧ SqL K H a (ns.map V.int) ∧ ns.length ≤ 63 ∧ ∀ H', Q (.bl true) H'
theorem dp_lots (n : Nat) (dl : List (Option Nat)) (hn : n ≤ 60) : W1.Dp 3 (eLots n dl) := by
  have h : ∀ k, W1.Dp 2 (.tup ((lotI n dl k).map .int)) := fun k => ⟨by
    rw [List.length_map]
    unfold lotI
    refine Nat.le_trans (List.length_filter_le _ _) ?_
    rw [List.length_map, List.length_range]
    omega, fun x hx => by
    obtain ⟨z, _, rfl⟩ := List.mem_map.mp hx
    exact trivial⟩
  refine ⟨by show 2 ≤ 50000; decide, fun x hx => ?_⟩
  rcases List.mem_cons.mp hx with rfl | hx
  · exact h 0
  · rcases List.mem_cons.mp hx with rfl | hx
    · exact h 1
    · cases hx
/-- what two_lots and odd_ring tell of a web -/
structure Told (ms : List Int) (ties : List (Int × Int)) (dd dr : D) : Prop where
  some_ : isNonD dd = true → ringB ms.length ties dr = true
  none_ : isNonD dd = false → isNonD dr = true
  lots : W1.Dp 3 dd
  th : ∀ H, Th H dr
  kind : dr = .non ∨ ∃ zs : List Int, dr = .tup (zs.map .int) ∧ zs ≠ [] ∧ zs.length ≤ 200
  noD : ∀ v, dd ≠ .obj v
theorem Told.noR {ms : List Int} {ties : List (Int × Int)} {dd dr : D} (t : Told ms ties dd dr) (v : V) : dr ≠ .obj v := by
  rcases t.kind with rfl | ⟨zs, rfl, _⟩ <;> exact fun e => nomatch e
theorem Told.len {ms : List Int} {ties : List (Int × Int)} {dd dr : D} (t : Told ms ties dd dr) : ∀ xs, dr = .tup xs → xs.length ≤ 4000 := fun xs e => by
  rcases t.kind with h | ⟨zs, h, _, hl⟩
  · rw [h] at e
    cases e
  · rw [h] at e
    injection e with e
    rw [← e, List.length_map]
    omega
abbrev dueD (ms : List Int) (ties : List (Int × Int)) : D := if ties.find? (sameD (searchS ties ms.length ms.length).1) = none then eLots ms.length (searchS ties ms.length ms.length).1 else .non
abbrev ringP (ms : List Int) (ties : List (Int × Int)) : Pd := fun d _ => match ties.find? (sameD (searchS ties ms.length ms.length).1) with
    | none => d = .non
    | some p => ∃ m, Meet (searchS ties ms.length ms.length).2 p.1.toNat p.2.toNat m ∧ m ≤ 60 ∧ d = .tup (dN (ringL (searchS ties ms.length ms.length).2 p.1.toNat p.2.toNat m))
theorem told {ms : List Int} {ties : List (Int × Int)} (ok : PartsOk ms ties) {dr : D} {H : Hp} (h : ringP ms ties dr H) : Told ms ties (dueD ms ties) dr ∧ ∀ d' H', ringP ms ties d' H' → d' = dr := by
  obtain ⟨rt, bf⟩ := search_ok ok ms.length (Nat.le_refl _)
  unfold ringP at h
  unfold dueD ringP
  generalize searchS ties ms.length ms.length = st at *
  obtain ⟨dl, pl⟩ := st
  dsimp only at *
  cases hf : ties.find? (sameD dl) with
  | none =>
    rw [hf] at h
    have h' : dr = .non := h
    subst h'
    rw [if_pos rfl]
    exact ⟨⟨fun e => (nomatch e), fun _ => rfl, dp_lots _ _ ok.few, fun H => .sc rfl, .inl rfl, fun v e => nomatch e⟩, fun d' H' h => h⟩
  | some p =>
    rw [hf] at h
    obtain ⟨m, hm, m60, rfl⟩ := h
    have h1 : sameD dl p = true := List.find?_some hf
    have h2 := List.mem_of_find?_eq_some hf
    have h3 := ok.tie h2
    have h4 : dv dl p.1.toNat = dv dl p.2.toNat := of_decide_eq_true h1
    have ha : adj ties p.1.toNat p.2.toNat := adj_iff.mpr (.inl (by
      rw [show ((p.1.toNat : Nat) : Int) = p.1 by omega, show ((p.2.toNat : Nat) : Int) = p.2 by omega]
      exact h2))
    have ra := bf.all _ (adj_ok ok ha).1 (adj_ok ok ha).1
    have hr := ring_ok ok bf ra ha h4 hm
    have ln : (ringL pl p.1.toNat p.2.toNat m).length = 2 * m + 1 := by
      unfold ringL
      rw [List.length_append, List.length_reverse, List.length_map, List.length_map, List.length_range, List.length_range]
      omega
    rw [if_neg (fun e => nomatch e)]
    refine ⟨⟨fun _ => ?_, fun e => (nomatch e), trivial, fun H => ?_, .inr ⟨(ringL pl p.1.toNat p.2.toNat m).map fun x : Nat => (x : Int), by rw [dN_ints], fun e => ?_, by rw [List.length_map, ln]; omega⟩, fun v e => nomatch e⟩, fun d' H' ⟨m', hm', _, e⟩ => by rw [e, hm'.one hm]⟩
    · unfold ringB
      exact @decide_eq_true _ (Classical.propDecidable _) (ringD_iff.mpr hr)
    · refine .tup (by rw [List.length_map, ln]; omega) fun d hd => ?_
      obtain ⟨x, _, rfl⟩ := List.mem_map.mp hd
      exact .sc rfl
    · have := congrArg List.length e
      rw [List.length_map, ln] at this
      simp at this
section
variable {P : Program} {w : World} {K : PySem.W.Frag} {mg : Str → Option Value} {base : Heap} {C : Addr}
theorem ok_law {f : Addr} {fd : FuncData} (T : Txt mg) (F : Fun K "law" "law" s_law f fd) (G_law_hand : Def P w K mg base 1 "_law_hand" ["_law_script"] (spD K (R_hand K))) (G_law_draw : Def P w K mg base 1 "_law_draw" ["_law_hand_here", "_law_many"] (spD K R_draw))
    (G_law_parts : Def P w K mg base 2 "_law_parts" ["_law_hand_here", "_law_most", "_law_memory"] (spD K R_parts)) (G_law_pairs : Def P w K mg base 1 "_law_pairs" ["_law_many"] (spD K R_pairs)) (G_law_made : Def P w K mg base 7 "_law_made" ["_law_parts_here"] (spD K (R_made K C)))
    (G_law_lots : Def P w K mg base 2 "_law_lots" ["_law_parts_here"] (spD K R_lots)) (Gtwo_lots : Def P w K mg base 3 "two_lots" ["web"] (spD K (R_two K C))) (Godd_ring : Def P w K mg base 3 "odd_ring" ["web"] (spD K (R_ring K C)))
    (G_law_is : Def P w K mg base 4 "_law_is" ["_law_told", "_law_due"] (spD K (R_is 3))) (G_law_is_ring : Def P w K mg base 2 "_law_is_ring" ["_law_parts_here", "_law_thing"] (spD K R_lring)) (Gis_odd_ring : Def P w K mg base 4 "is_odd_ring" ["web", "thing"] (spD K (R_isring K C)))
    (G_law_bent_ring : Def P w K mg base 4 "_law_bent_ring" ["_law_hand_here", "_law_parts_here", "_law_ring"] (spD K R_bent)) :
    FnOk P w K mg base CX0 9 f fd ["_law_script"] (spLaw K) := by
  refine F.ok sc_law (fun vs H Q E h => ?_) (fun cdv A outer s H vs Q E hr h => ?_)
  · obtain ⟨a, ns, rfl, _⟩ := h
    rfl
  obtain ⟨a, ns, rfl, hS, hl, q⟩ := h
  refine ⟨_, (pss_cons (ps_set (i := 1) sc_law.nd rfl (Or.inl rfl) (pe_def G_law_hand (hr.mono (by decide)) (pa_cons (pv 0) pa_nil)))
    (pss_cons (ps_for PassesOwn.never rfl (pi_range1 (by rfl) T.n_range (pa_cons pe_int pa_nil)) (pg_name (i := 2) sc_law.nd rfl (Or.inl rfl))
      (pss_cons (ps_set (i := 3) sc_law.nd rfl (Or.inl rfl) (pe_def G_law_parts (hr.mono (by decide)) (pa_cons (pv 1) (pa_cons pe_int (pa_cons pe_int pa_nil)))))
    (Evl.pss_cut (ps_if (pt_cmpR op_eq (pe_def G_law_draw (hr.mono (by decide)) (pa_cons (pv 1) (pa_cons pe_int pa_nil))) pe_int (nomark _))
      (pss_cons (ps_set (i := 4) sc_law.nd rfl (Or.inr rfl) (pe_op op_add pe_int (pe_def G_law_draw (hr.mono (by decide)) (pa_cons (pv 1) (pa_cons pe_int pa_nil)))))
    (pss_one (ps_set (i := 3) sc_law.nd rfl (Or.inl rfl) (pe_tup (pa_cons (pe_op (kop_rep1 (K := K)) (pe_tup (pa_cons pe_int pa_nil)) (pv 4)) (pa_cons (pe_callTy (kc_tuple (K := K)) (by rfl) T.n_tuple boot_tuple (pa_cons (pe_lc (own := [("_law_pair", 11)]) rfl sc_law.nd (kpi_list (K := K) (pe_def G_law_pairs (hr.mono (by decide)) (pa_cons (pv 4) pa_nil))) (blkOk_by (N := N_law) (sc := defScope s_law) (by decide +kernel)) (fun _ _ _ _ _ => (pg_name (i := 11) sc_law.nd rfl (Or.inl rfl))) (fun _ _ _ _ _ => (pts_one (pt_cmpR (kop_in (K := K)) (pe_op op_sub (pe_ix (kix_tup (K := K)) (pv 11) pe_int (fun _ _ => rfl)) (pe_ix (kix_tup (K := K)) (pv 11) pe_int (fun _ _ => rfl))) (pe_tup (pa_cons pe_int (pa_cons (pe_op op_sub (pv 4) pe_int) pa_nil))) (by rfl)))) (fun _ _ _ _ _ => (pv 11))) pa_nil)) pa_nil))))))
      pss_nil)
    (pss_cons (ps_par (i := 5) (j := 6) (by rfl) sc_law.nd rfl rfl (by decide) rfl rfl (pa_cons (pe_def G_law_made (hr.mono (by decide)) (pa_cons (pv 3) pa_nil)) (pa_cons (pe_def G_law_lots (hr.mono (by decide)) (pa_cons (pv 3) pa_nil)) pa_nil)) (by rfl))
    (pss_cons (ps_par (i := 7) (j := 8) (by rfl) sc_law.nd rfl rfl (by decide) rfl rfl (pa_cons (pe_def Gtwo_lots (hr.mono (by decide)) (pa_cons (pv 5) pa_nil)) (pa_cons (pe_def Godd_ring (hr.mono (by decide)) (pa_cons (pv 5) pa_nil)) pa_nil)) (by rfl))
    (pss_cons (ps_if (PW.pt (pw_or (PW.pt (pw_and (pt_cmpR op_isN (pv 7) pe_non (nomark _)) (pw_and1 (pt_cmpR op_notN (pv 6) pe_non (nomark _))))) (pw_or1 (PW.pt (pw_and (pt_cmpR op_notN (pv 6) pe_non (nomark _)) (pw_and1 (pt_not (pt_val (pe_def G_law_is (hr.mono (by decide)) (pa_cons (pv 7) (pa_cons (pv 6) pa_nil)))))))))))
      (pss_one (ps_ret pe_bl))
      pss_nil)
    (pss_cons (ps_if (PW.pt (pw_or (PW.pt (pw_and (pt_cmpR op_isN (pv 6) pe_non (nomark _)) (pw_and1 (PW.pt (pw_or (pt_cmpR op_notN (pv 7) pe_non (nomark _)) (pw_or1 (pt_not (pt_val (pe_def G_law_is_ring (hr.mono (by decide)) (pa_cons (pv 3) (pa_cons (pv 8) pa_nil))))))))))) (pw_or1 (PW.pt (pw_and (pt_cmpR op_notN (pv 6) pe_non (nomark _)) (pw_and1 (pt_cmpR op_notN (pv 8) pe_non (nomark _))))))))
      (pss_one (ps_ret pe_bl))
      pss_nil)
    (pss_cons (ps_if (PW.pt (pw_and (pt_cmpR op_notN (pv 8) pe_non (nomark _)) (pw_and1 (PW.pt (pw_or (pt_cmpR (kop_neD (K := K) hr.units) (pe_def Godd_ring (hr.mono (by decide)) (pa_cons (pv 5) pa_nil)) (pv 8) (nomark _)) (pw_or1 (pt_cmpR op_isnot_bl (pe_def Gis_odd_ring (hr.mono (by decide)) (pa_cons (pv 5) (pa_cons (pv 8) pa_nil))) pe_bl (nomark _))))))))
      (pss_one (ps_ret pe_bl))
      pss_nil)
    (pss_one (ps_for PassesOwn.never rfl (pi_range1 (by rfl) T.n_range (pa_cons pe_int pa_nil)) (pg_name (i := 9) sc_law.nd rfl (Or.inl rfl))
      (pss_cons (ps_set (i := 10) sc_law.nd rfl (Or.inl rfl) (pe_def G_law_bent_ring (hr.mono (by decide)) (pa_cons (pv 1) (pa_cons (pv 3) (pa_cons (pv 8) pa_nil)))))
    (pss_one (ps_if (pt_not (pt_val (pe_def G_law_is (hr.mono (by decide)) (pa_cons (pe_lst (pa_cons (pe_def Gis_odd_ring (hr.mono (by decide)) (pa_cons (pv 5) (pa_cons (pv 10) pa_nil))) pa_nil)) (pa_cons (pe_lst (pa_cons (pe_def G_law_is_ring (hr.mono (by decide)) (pa_cons (pv 3) (pa_cons (pv 10) pa_nil))) pa_nil)) pa_nil)))))
      (pss_one (ps_ret pe_bl))
      pss_nil)))))))))))))
    (pss_one (ps_ret pe_bl)))), ?_⟩
  -- hand
  refine q_asg (K := K) (P := fun d H2 => ∃ h, d = .obj (.ref h) ∧ Hand H2 h) (ed_call (ea_cons (ed_var rfl (.obj (.ref a))) ea_nil) fun H1 e1 => ⟨a, ns, rfl, sqL_le e1 hS, hl, rfl⟩) fun v1 d H1 e1 p1 r1 => ?_
  obtain ⟨h, rfl, hh⟩ := p1
  have ev := rp_obj r1
  subst ev
  refine q_forR1 (K := K) (n := 4) (ea_cons ed_int ea_nil) (by omega) fun H2 e2 => ?_
  refine ⟨fun i σ H' => ∃ y2 y3 y4 y5 y6 y7 y8 y9 y10, σ = [some (.ref a), some (.ref h), y2, y3, y4, y5, y6, y7, y8, y9, y10, none] ∧ Hand H' h,
    ⟨none, none, none, none, none, none, none, none, none, rfl, hh.le e2⟩, ?_, fun σ' H' _ => s_retD (K := K) ed_bl fun v H3 _ r => by rw [rp_bl r]; exact q H3⟩
  rintro i σ' H3 hi ⟨y2, y3, y4, y5, y6, y7, y8, y9, y10, rfl, hh3⟩
  -- parts
  refine q_asg (K := K) (P := fun d _ => ∃ ms ties, d = eW ms ties ∧ PartsOk ms ties) (EP.weak (ed_call (P := fun d _ => ∃ ms ties, d = eW ms ties ∧ PartsOk ms ties ∧ (ms.length : Int) ≤ 14 ∧ ∀ z ∈ ms, z ≤ 3) (ea_cons (ed_var rfl (.obj (.ref h))) (ea_cons ed_int (ea_cons ed_int ea_nil))) fun H4 e4 => ⟨h, 14, 3, rfl, hh3.le e4, by decide, by decide, by decide, by decide, rfl⟩) fun d _ _ ⟨ms, ties, h1, h2, _⟩ => ⟨ms, ties, h1, h2⟩) fun v3 d3 H4 e4 p3 r3 => ?_
  obtain ⟨ms, ties, rfl, ok⟩ := p3
  have hh4 := hh3.le e4
  -- a long ring, perhaps
  refine q_cut (M := fun σ' H' => ∃ v3 y4 ms ties, σ' = [some (.ref a), some (.ref h), some (.int (i : Int)), some v3, y4, y5, y6, y7, y8, y9, y10, none] ∧ Le H4 H' ∧ Rp K H' v3 (eW ms ties) ∧ PartsOk ms ties) ?_ ?_
  · refine s_if (et_eq0 (K := K) (EP.anyI (ep_draw hh4 (ea_cons (ed_var rfl (.obj _)) (ea_cons ed_int ea_nil)) (by omega)))) (fun _ H5 e5 => ?_) (fun _ H5 e5 => ?_)
    · refine q_asg (K := K) (ep_plus (ep_draw (hh4.le e5) (ea_cons (ed_var rfl (.obj _)) (ea_cons ed_int ea_nil)) (by omega))) fun v4 d4 H6 e6 p4 r4 => ?_
      obtain ⟨z, rfl, z0, z1⟩ := p4
      have ev := rp_int r4
      subst ev
      obtain ⟨n, rfl⟩ : ∃ n : Nat, z = (n : Int) := ⟨z.toNat, by omega⟩
      have pl : (pairsL n).length ≤ 50000 := Nat.le_trans (pairs_len (n := n) (i := n) (Nat.le_refl _) (by omega)) (by decide)
      have eq : (List.replicate ((n : Int)).toNat [D.int 0]).flatten = (List.replicate n (0 : Int)).map D.int := by
        rw [rep_flat, Int.toNat_natCast, List.map_replicate]
      refine s_asgD (K := K) (d := eW (List.replicate n 0) ((pairsL n).filter fun p => decide (p.2 - p.1 ∈ [1, (n : Int) - 1]))) (ed_tup (ea_cons (ed_eq (ed_rep1 (ds := [.int 0]) (k := (n : Int)) (ed_tup (ea_cons ed_int ea_nil) (by show 1 ≤ 100000; decide)) (ed_var rfl (.int _)) (fun e => nomatch e) (by omega) (by show 1 ≤ 1000; decide)) (congrArg D.tup eq)) (ea_cons (ed_tupOf (ed_eq (ed_lcL enc_P (encS := eP) (pairsL n) (fun p => decide (p.2 - p.1 ∈ [1, (n : Int) - 1])) (fun p => p) (ed_call (P := is (.lst ((pairsL n).map eP))) (ea_cons (ed_var rfl (.int (n : Int))) ea_nil) fun H8 _ => ⟨n, rfl, by omega, rfl⟩) pl (fun _ => rfl) (fun b v H8 e8 hb rb => ?_) fun b v H8 e8 hb rb _ => ed_var rfl rb) (by rw [List.map_id']))) ea_nil)) (by show 2 ≤ 100000; decide)) fun v7 H7 e7 r7 => ?_
      · exact et_test (ed_inT (ns := [1, (n : Int) - 1]) (ed_I0 (f := fun i j => i - j) (ed_ixT (ds := [_, _]) (ed_var rfl rb) ed_int (by decide) rfl) (ed_ixT (ds := [_, _]) (ed_var rfl rb) ed_int (by decide) rfl)) (ed_tup (ea_cons ed_int (ea_cons (ed_I0 (f := fun i j => i - j) (ed_var rfl (.int _)) ed_int) ea_nil)) (by show 2 ≤ 100000; decide)))
      · refine ⟨v7, _, _, _, rfl, e5.trans (e6.trans e7), r7, ⟨by rw [List.length_replicate]; omega, by rw [List.length_replicate]; omega, fun y hy => ?_, by rw [List.length_replicate]; exact List.filter_sublist⟩⟩
        rw [List.eq_of_mem_replicate hy]
        omega
    · exact ⟨v3, _, ms, ties, rfl, e5, r3.le e5, ok⟩
  clear r3 ok v3 y4
  rintro σ H5 ⟨v3, y4, ms, ties, rfl, e5, r3, ok⟩
  have hh5 := hh4.le e5
  -- web, due
  refine q_par2 (K := K) (ep_cons (ed_call (P := fun d H => ∃ a, d = .obj (.ref a) ∧ WebAt K C H a ms ties) (ea_cons (ed_var rfl r3) ea_nil) fun H6 e6 => ⟨ms, ties, rfl, ok, rfl⟩) (ep_cons (ed_call (P := is (dueD ms ties)) (ea_cons (ed_var rfl r3) ea_nil) fun H6 e6 => ⟨ms, ties, rfl, ok, rfl⟩) ea_nil)) (fun ds H6 ⟨d, r, H7, h1, _, _, d2, r2, H8, h2, _, _, h3⟩ => by
    have h3' : r2 = [] := h3
    rw [h1, h2, h3']
    rfl) fun v5 v6 d5 d6 H6 e6 p r5 r6 => ?_
  obtain ⟨d, r', H7, er, e7, ⟨wa, hwa, xw⟩, d', r'', H8, er2, e8, hd6, er3⟩ := p
  injection er with ea eb
  subst ea eb
  injection er2 with ea eb
  have hd6' : d' = dueD ms ties := hd6
  subst ea hwa
  subst hd6'
  have xw6 := xw.le e7
  clear xw er3 e7 e8
  have ev := rp_obj r5
  subst ev
  have r36 := r3.le e6
  -- lots, ring
  refine q_par2 (K := K) (ep_cons (ed_call (P := is (dueD ms ties)) (ea_cons (ed_var rfl r5) ea_nil) fun H7 e7 => ⟨wa, ms, ties, rfl, xw6.le e7, ok, rfl⟩) (ep_cons (ed_call (P := ringP ms ties) (ea_cons (ed_var rfl r5) ea_nil) fun H7 e7 => ⟨wa, ms, ties, rfl, xw6.le e7, ok, rfl⟩) ea_nil)) (fun ds H7 ⟨d, r, H7, h1, _, _, d2, r2, H8, h2, _, _, h3⟩ => by
    have h3' : r2 = [] := h3
    rw [h1, h2, h3']
    rfl) fun v7 v8 d7 d8 H7 e7 p r7 r8 => ?_
  obtain ⟨d, r', H9, er, e9, hd7, d', r'', H8, er2, e8, hd8, er3⟩ := p
  injection er with ea eb
  subst ea eb
  injection er2 with ea eb
  have hd7' : d7 = dueD ms ties := hd7
  subst ea
  subst hd7'
  obtain ⟨td, one⟩ := told ok hd8
  generalize dueD ms ties = dd at *
  have e67 := e6.trans e7
  have hh7 := hh5.le e67
  have r37 := r36.le e7
  have r67 := r6.le e7
  have x7 := xw6.le e7
  have hLR : ∀ {σ : L2.St} {H' : Hp} {te : TE} {d : D}, σ[3]? = some (some v3) → Le H7 H' → ED K te σ H' d → Th H' d → (∀ xs, d = .tup xs → xs.length ≤ 4000) → ED K (tCall (spD K R_lring) [] E0 (tCons (tVar 3) (tCons te tNil))) σ H' (.bl (ringB ms.length ties d)) := fun h3 e hd ht hl => ed_call (ea_cons (ed_var h3 (r37.le e)) (ea_cons hd ea_nil)) fun H8 e8 => ⟨ms, ties, _, rfl, ok, ht.le e8, hl, rfl⟩
  have hIR : ∀ {σ : L2.St} {H' : Hp} {te : TE} {d : D}, σ[5]? = some (some (.ref wa)) → Le H7 H' → ED K te σ H' d → Th H' d → (∀ xs, d = .tup xs → xs.length ≤ 4000) → ED K (tCall (spD K (R_isring K C)) [] E0 (tCons (tVar 5) (tCons te tNil))) σ H' (.bl (ringB ms.length ties d)) := fun h5 e hd ht hl => ed_call (ea_cons (ed_var h5 (.obj _)) (ea_cons hd ea_nil)) fun H8 e8 => ⟨wa, ms, ties, _, rfl, x7.le (e.trans e8), ok, ht.le e8, hl, rfl⟩
  have hIs : ∀ {σ : L2.St} {H' : Hp} {ta tb : TE} {d : D}, ED K ta σ H' d → ED K tb σ H' d → W1.Dp 3 d → ED K (tCall (spD K (R_is 3)) [] E0 (tCons ta (tCons tb tNil))) σ H' (.bl true) := fun ha hb hd => ed_call (ea_cons ha (ea_cons hb ea_nil)) fun H8 e8 => ⟨rfl, .inl ⟨_, rfl, hd⟩⟩
  -- the lots
  refine q_no (b := (isNonD dd && !isNonD dd) || (!isNonD dd && !true)) (eb_or (eb_and (et_test (K := K) (ed_isN2 (ed_var rfl r7) td.noD)) fun _ => et_test (K := K) (ed_notN2 (ed_var rfl r67) td.noD)) fun _ => eb_and (et_test (K := K) (ed_notN2 (ed_var rfl r67) td.noD)) fun _ => eb_not (et_B (hIs (ed_var rfl r7) (ed_var rfl r67) td.lots))) (by cases isNonD dd <;> rfl) fun H10 e10 => ?_
  -- the ring, or none
  refine q_no (b := (isNonD dd && (!isNonD dd || !ringB ms.length ties d8)) || (!isNonD dd && !isNonD d8)) (eb_or (eb_and (et_test (K := K) (ed_isN2 (ed_var rfl (r67.le e10)) td.noD)) fun _ => eb_or (et_test (K := K) (ed_notN2 (ed_var rfl (r7.le e10)) td.noD)) fun _ => eb_not (et_B (hLR rfl e10 (ed_var rfl (r8.le e10)) (td.th _) td.len))) fun _ => eb_and (et_test (K := K) (ed_notN2 (ed_var rfl (r67.le e10)) td.noD)) fun _ => et_test (K := K) (ed_notN2 (ed_var rfl (r8.le e10)) td.noR)) (by
    cases hA : isNonD dd with
    | true => rw [td.some_ hA]; rfl
    | false => rw [td.none_ hA]; rfl) fun H11 e11 => ?_
  have e711 := e10.trans e11
  -- the same again
  refine q_no (b := !isNonD d8 && (false || !decide (ringB ms.length ties d8 = true))) (eb_and (et_test (K := K) (ed_notN2 (ed_var rfl (r8.le e711)) td.noR)) fun hB => eb_or ?_ fun _ => et_test (K := K) (ed_isnB (hIR rfl e711 (ed_var rfl (r8.le e711)) (td.th _) td.len) ed_bl)) ?_ fun H12 e12 => ?_
  · rcases td.kind with h | ⟨zs, h, _⟩
    · rw [h] at hB
      cases hB
    · refine et_test (K := K) (ed_neI (zs := zs) ?_ (ed_var rfl (by rw [← h]; exact r8.le e711)))
      refine EP.weak (ed_call (P := ringP ms ties) (ea_cons (ed_var rfl (.obj (.ref wa))) ea_nil) fun H12 e12 => ⟨wa, ms, ties, rfl, x7.le (e711.trans e12), ok, rfl⟩) fun d H12 _ p => ?_
      have e := one d H12 p
      show d = _
      rw [e, h]
  · cases hA : isNonD dd with
    | true => rw [td.some_ hA, decide_eq_true rfl]; cases isNonD d8 <;> rfl
    | false => rw [td.none_ hA]; rfl
  have e712 := e711.trans e12
  -- bent rings
  refine s_forR1 (K := K) (n := 6) (ea_cons ed_int ea_nil) (by omega) fun H13 e13 => ?_
  have e713 := e712.trans e13
  refine ⟨fun j σ H' => ∃ y9 y10, σ = [some (.ref a), some (.ref h), some (.int (i : Int)), some v3, y4, some (.ref wa), some v6, some v7, some v8, y9, y10, none] ∧ Le H7 H', ⟨_, _, rfl, e713⟩, ?_, fun σ' H' ⟨y9, y10, hs, e⟩ => ⟨_, _, _, _, _, _, _, _, _, hs, hh7.le e⟩⟩
  rintro j σ' H14 hj ⟨y9, y10, rfl, e14⟩
  refine q_asg (K := K) (P := Bent) (ed_call (ea_cons (ed_var rfl (.obj (.ref h))) (ea_cons (ed_var rfl (r37.le e14)) (ea_cons (ed_var rfl (r8.le e14)) ea_nil))) fun H15 e15 => ⟨h, ms, ties, d8, rfl, hh7.le (e14.trans e15), ok, td.kind, rfl⟩) fun v10 d10 H15 e15 p10 r10 => ?_
  have e715 := e14.trans e15
  refine s_no (eb_not (et_B (hIs (d := .lst [.bl (ringB ms.length ties d10)]) (ed_lst (ea_cons (hIR rfl e715 (ed_var rfl r10) p10.1 p10.2) ea_nil) (by show 1 ≤ 100000; decide) rfl) (ed_lst (ea_cons (hLR rfl e715 (ed_var rfl r10) p10.1 p10.2) ea_nil) (by show 1 ≤ 100000; decide) rfl) ⟨by show 1 ≤ 50000; decide, fun x hx => by rw [List.mem_singleton.mp hx]; exact trivial⟩))) rfl fun H16 e16 => ?_
  exact ⟨_, _, rfl, e715.trans e16⟩
end
end W1

set_option maxRecDepth 100000
set_option maxHeartbeats 4000000
namespace W1
open PySem PySem.Spec PyProof.Rows L2
/-- what of the text a def must have -/
def Fact (K : PySem.W.Frag) (x : Str) (st : Stmt) : Prop := ∃ (f : Addr) (od an : Option Addr) (sl : Array (Option Value)) (oc kV dc pm cd ct : Value), PySem.W.nsIn K mainGlobals x = some (some (.ref f)) ∧
  K.lookup f = some ⟨oc, od, .func (PySem.W.fnOf x x (defArgs st) (defBody st) (defScope st) .none kV dc pm an cd ct), sl⟩ ∧ PySem.W.codeIn K cd x = true ∧ PySem.W.keepIn K (.ref f) = true
theorem fact_mk {K : PySem.W.Frag} {x : Str} {st : Stmt} {f : Addr} {od an : Option Addr} {sl : Array (Option Value)} {oc kV dc pm cd ct : Value} (a : PySem.W.nsIn K mainGlobals x = some (some (.ref f)))
    (l : K.lookup f = some ⟨oc, od, .func (PySem.W.fnOf x x (defArgs st) (defBody st) (defScope st) .none kV dc pm an cd ct), sl⟩) (c : PySem.W.codeIn K cd x = true) (k : PySem.W.keepIn K (.ref f) = true) : Fact K x st := ⟨f, od, an, sl, oc, kV, dc, pm, cd, ct, a, l, c, k⟩
theorem Fact.g {K : PySem.W.Frag} {h : Heap} {mg : Str → Option Value} {x : Str} {st : Stmt} {ps : List Str} (F : Fact K x st) (X : K.In h) (G : h.Ns mainGlobals mg)
    (hb : ∀ (kV doc pm : Value) (an : Option Addr) (cdv ct : Value) (us : List Value), us.length = ps.length → bindArgs (PySem.W.fnOf x x (defArgs st) (defBody st) (defScope st) .none kV doc pm an cdv ct) ⟨us, []⟩ = pure (ps.zip us)) : GDef K mg x st ps := by
  obtain ⟨f, od, an, sl, oc, kV, dc, pm, cd, ct, a, l, c, k⟩ := F
  have F := fun_mk (st := st) l c k
  exact ⟨f, _, PySem.W.mg_of X G a, F, F.binds hb⟩
def WebFact (K : PySem.W.Frag) : Prop := ∃ (C f : Addr) (od an : Option Addr) (sl : Array (Option Value)) (oc kV dc pm cd ct : Value), PySem.W.nsIn K mainGlobals "Web" = some (some (.ref C)) ∧ PySem.W.findIn K (.ref C) "__init__" = some (some (.ref f)) ∧ PySem.W.isFn K (.ref f) = true ∧
  K.lookup f = some ⟨oc, od, .func (PySem.W.fnOf "__init__" "Web.__init__" (defArgs s_Web___init__) (defBody s_Web___init__) (defScope s_Web___init__) .none kV dc pm an cd ct), sl⟩ ∧ PySem.W.codeIn K cd "Web.__init__" = true ∧ PySem.W.keepIn K (.ref f) = true ∧
  PySem.W.plainGet K C Str.empty = true ∧ PySem.W.hasDictIn K C = true ∧ PySem.W.plainOver K C = true ∧ PySem.W.findIn K (.ref C) "__setattr__" = some (some (.builtin "object.__setattr__")) ∧ PySem.W.makesIn K C = true ∧ PySem.W.keepIn K (.ref C) = true ∧
  PySem.W.findIn K (.ref C) "memories" = some none ∧ PySem.W.findIn K (.ref C) "ties" = some none ∧ PySem.W.findIn K (.ref C) "near" = some none
theorem web_mk {K : PySem.W.Frag} {C f : Addr} {od an : Option Addr} {sl : Array (Option Value)} {oc kV dc pm cd ct : Value} (aC : PySem.W.nsIn K mainGlobals "Web" = some (some (.ref C))) (ai : PySem.W.findIn K (.ref C) "__init__" = some (some (.ref f))) (ii : PySem.W.isFn K (.ref f) = true)
    (li : K.lookup f = some ⟨oc, od, .func (PySem.W.fnOf "__init__" "Web.__init__" (defArgs s_Web___init__) (defBody s_Web___init__) (defScope s_Web___init__) .none kV dc pm an cd ct), sl⟩) (ci : PySem.W.codeIn K cd "Web.__init__" = true) (ki : PySem.W.keepIn K (.ref f) = true)
    (pg : PySem.W.plainGet K C Str.empty = true) (hd : PySem.W.hasDictIn K C = true) (po : PySem.W.plainOver K C = true) (sa : PySem.W.findIn K (.ref C) "__setattr__" = some (some (.builtin "object.__setattr__"))) (mk : PySem.W.makesIn K C = true) (kc : PySem.W.keepIn K (.ref C) = true)
    (nM : PySem.W.findIn K (.ref C) "memories" = some none) (nT : PySem.W.findIn K (.ref C) "ties" = some none) (nN : PySem.W.findIn K (.ref C) "near" = some none) : WebFact K := ⟨C, f, od, an, sl, oc, kV, dc, pm, cd, ct, aC, ai, ii, li, ci, ki, pg, hd, po, sa, mk, kc, nM, nT, nN⟩
def NumFact (K : PySem.W.Frag) (x : Str) (n : Int) : Prop := ∃ u, PySem.W.nsIn K mainGlobals x = some (some u) ∧ RelV (.int n) u
theorem num_mk {K : PySem.W.Frag} {x : Str} {n : Int} {u : Value} (a : PySem.W.nsIn K mainGlobals x = some (some u)) (r : RelV (.int n) u) : NumFact K x n := ⟨u, a, r⟩
theorem NumFact.g {K : PySem.W.Frag} {h : Heap} {mg : Str → Option Value} {x : Str} {n : Int} (F : NumFact K x n) (X : K.In h) (G : h.Ns mainGlobals mg) : ∃ u, mg x = some u ∧ RelV (.int n) u := by
  obtain ⟨u, a, r⟩ := F
  exact ⟨u, PySem.W.mg_of X G a, r⟩

theorem all_ok {P : Program} {w : World} {K : PySem.W.Frag} {h : Heap} {mg : Str → Option Value} {fa : Addr} (X : K.In h) (G : h.Ns mainGlobals mg) (hfa : mg "law" = some (.ref fa))
    (z_len : PySem.W.nsIn K mainGlobals "len" = some none)
    (z_abs : PySem.W.nsIn K mainGlobals "abs" = some none)
    (z_int : PySem.W.nsIn K mainGlobals "int" = some none)
    (z_range : PySem.W.nsIn K mainGlobals "range" = some none)
    (z_tuple : PySem.W.nsIn K mainGlobals "tuple" = some none)
    (z_list : PySem.W.nsIn K mainGlobals "list" = some none)
    (z_sorted : PySem.W.nsIn K mainGlobals "sorted" = some none)
    (z_set : PySem.W.nsIn K mainGlobals "set" = some none)
    (z_enumerate : PySem.W.nsIn K mainGlobals "enumerate" = some none)
    (z_isinstance : PySem.W.nsIn K mainGlobals "isinstance" = some none)
    (z_all : PySem.W.nsIn K mainGlobals "all" = some none)
    (z_max : PySem.W.nsIn K mainGlobals "max" = some none)
    (z_min : PySem.W.nsIn K mainGlobals "min" = some none)
    (z_bool : PySem.W.nsIn K mainGlobals "bool" = some none)
    (z_zip : PySem.W.nsIn K mainGlobals "zip" = some none)
    (v_r : NumFact K "MOST_ROOMS" 60) (v_m : NumFact K "MOST_MEMORY" 30) (wf : WebFact K)
    (h_is_integer : Fact K "is_integer" s_is_integer)
    (h_is_between : Fact K "is_between" s_is_between)
    (h_check_memories : Fact K "check_memories" s_check_memories)
    (h_check_ties : Fact K "check_ties" s_check_ties)
    (h_is_tie : Fact K "is_tie" s_is_tie)
    (h_near_lots : Fact K "near_lots" s_near_lots)
    (h_is_room : Fact K "is_room" s_is_room)
    (h_two_lots : Fact K "two_lots" s_two_lots)
    (h_lots_by_depth : Fact K "lots_by_depth" s_lots_by_depth)
    (h_odd_ring : Fact K "odd_ring" s_odd_ring)
    (h_is_odd_ring : Fact K "is_odd_ring" s_is_odd_ring)
    (h_search_trees : Fact K "search_trees" s_search_trees)
    (h_grow_tree : Fact K "grow_tree" s_grow_tree)
    (h_tie_within_depth : Fact K "tie_within_depth" s_tie_within_depth)
    (h__law_hand : Fact K "_law_hand" s__law_hand)
    (h__law_draw : Fact K "_law_draw" s__law_draw)
    (h__law_any : Fact K "_law_any" s__law_any)
    (h__law_is : Fact K "_law_is" s__law_is)
    (h__law_nested : Fact K "_law_nested" s__law_nested)
    (h__law_pairs : Fact K "_law_pairs" s__law_pairs)
    (h__law_parts : Fact K "_law_parts" s__law_parts)
    (h__law_made : Fact K "_law_made" s__law_made)
    (h__law_near : Fact K "_law_near" s__law_near)
    (h__law_int : Fact K "_law_int" s__law_int)
    (h__law_lots : Fact K "_law_lots" s__law_lots)
    (h__law_is_ring : Fact K "_law_is_ring" s__law_is_ring)
    (h__law_bent_ring : Fact K "_law_bent_ring" s__law_bent_ring)
    (h_law : Fact K "law" s_law) :
    ∃ fd : FuncData, (∀ (s : Shared) (v : Value), BindsTo s fd ⟨[v], []⟩ [("_law_script", v)]) ∧ ∀ base : Heap, K.In base → base.Ns mainGlobals mg → FnOk P w K mg base CX0 9 fa fd ["_law_script"] (spLaw K) := by
  have T : GTxt mg := ⟨⟨PySem.W.mg_none_of X G z_len, PySem.W.mg_none_of X G z_abs, PySem.W.mg_none_of X G z_int, PySem.W.mg_none_of X G z_range, PySem.W.mg_none_of X G z_tuple, PySem.W.mg_none_of X G z_list, PySem.W.mg_none_of X G z_sorted, PySem.W.mg_none_of X G z_set, PySem.W.mg_none_of X G z_enumerate, PySem.W.mg_none_of X G z_isinstance, PySem.W.mg_none_of X G z_all, PySem.W.mg_none_of X G z_max, PySem.W.mg_none_of X G z_min, PySem.W.mg_none_of X G z_bool⟩, v_r.g X G, v_m.g X G⟩
  have TS : STxt mg := ⟨T.toTxt, PySem.W.mg_none_of X G z_zip⟩
  obtain ⟨C, fi, odi, ani, sli, oci, kVi, dci, pmi, cdi, cti, aC, ai, ii, li, ci, ki, pg, hd, po, sa, mk, kc, nM, nT, nN⟩ := wf
  have W : WTxt K C := ⟨⟨pg, hd, po, sa⟩, nM, nT, nN⟩
  have FI := fun_mk (st := s_Web___init__) li ci ki
  have bI : Binds K _ ["self", "memories", "ties"] [] := FI.binds fun _ _ _ _ _ _ us hl => match us, hl with | [_, _, _], _ => rfl
  have g_is_integer := h_is_integer.g (ps := ["thing"]) X G fun _ _ _ _ _ _ us hl => match us, hl with | [_], _ => rfl
  have g_is_between := h_is_between.g (ps := ["least", "most", "thing"]) X G fun _ _ _ _ _ _ us hl => match us, hl with | [_, _, _], _ => rfl
  have g_check_memories := h_check_memories.g (ps := ["memories"]) X G fun _ _ _ _ _ _ us hl => match us, hl with | [_], _ => rfl
  have g_check_ties := h_check_ties.g (ps := ["many", "ties"]) X G fun _ _ _ _ _ _ us hl => match us, hl with | [_, _], _ => rfl
  have g_is_tie := h_is_tie.g (ps := ["many", "thing"]) X G fun _ _ _ _ _ _ us hl => match us, hl with | [_, _], _ => rfl
  have g_near_lots := h_near_lots.g (ps := ["many", "ties"]) X G fun _ _ _ _ _ _ us hl => match us, hl with | [_, _], _ => rfl
  have g_is_room := h_is_room.g (ps := ["web", "thing"]) X G fun _ _ _ _ _ _ us hl => match us, hl with | [_, _], _ => rfl
  have g_two_lots := h_two_lots.g (ps := ["web"]) X G fun _ _ _ _ _ _ us hl => match us, hl with | [_], _ => rfl
  have g_lots_by_depth := h_lots_by_depth.g (ps := ["rooms", "depths"]) X G fun _ _ _ _ _ _ us hl => match us, hl with | [_, _], _ => rfl
  have g_odd_ring := h_odd_ring.g (ps := ["web"]) X G fun _ _ _ _ _ _ us hl => match us, hl with | [_], _ => rfl
  have g_is_odd_ring := h_is_odd_ring.g (ps := ["web", "thing"]) X G fun _ _ _ _ _ _ us hl => match us, hl with | [_, _], _ => rfl
  have g_search_trees := h_search_trees.g (ps := ["web"]) X G fun _ _ _ _ _ _ us hl => match us, hl with | [_], _ => rfl
  have g_grow_tree := h_grow_tree.g (ps := ["web", "root", "depths", "parents"]) X G fun _ _ _ _ _ _ us hl => match us, hl with | [_, _, _, _], _ => rfl
  have g_tie_within_depth := h_tie_within_depth.g (ps := ["web", "depths"]) X G fun _ _ _ _ _ _ us hl => match us, hl with | [_, _], _ => rfl
  have g__law_hand := h__law_hand.g (ps := ["_law_script"]) X G fun _ _ _ _ _ _ us hl => match us, hl with | [_], _ => rfl
  have g__law_draw := h__law_draw.g (ps := ["_law_hand_here", "_law_many"]) X G fun _ _ _ _ _ _ us hl => match us, hl with | [_, _], _ => rfl
  have g__law_any := h__law_any.g (ps := ["_law_hand_here", "_law_items"]) X G fun _ _ _ _ _ _ us hl => match us, hl with | [_, _], _ => rfl
  have g__law_is := h__law_is.g (ps := ["_law_told", "_law_due"]) X G fun _ _ _ _ _ _ us hl => match us, hl with | [_, _], _ => rfl
  have g__law_nested := h__law_nested.g (ps := ["_law_hand_here"]) X G fun _ _ _ _ _ _ us hl => match us, hl with | [_], _ => rfl
  have g__law_pairs := h__law_pairs.g (ps := ["_law_many"]) X G fun _ _ _ _ _ _ us hl => match us, hl with | [_], _ => rfl
  have g__law_parts := h__law_parts.g (ps := ["_law_hand_here", "_law_most", "_law_memory"]) X G fun _ _ _ _ _ _ us hl => match us, hl with | [_, _, _], _ => rfl
  have g__law_made := h__law_made.g (ps := ["_law_parts_here"]) X G fun _ _ _ _ _ _ us hl => match us, hl with | [_], _ => rfl
  have g__law_near := h__law_near.g (ps := ["_law_parts_here", "_law_room"]) X G fun _ _ _ _ _ _ us hl => match us, hl with | [_, _], _ => rfl
  have g__law_int := h__law_int.g (ps := ["_law_thing", "_law_least", "_law_most"]) X G fun _ _ _ _ _ _ us hl => match us, hl with | [_, _, _], _ => rfl
  have g__law_lots := h__law_lots.g (ps := ["_law_parts_here"]) X G fun _ _ _ _ _ _ us hl => match us, hl with | [_], _ => rfl
  have g__law_is_ring := h__law_is_ring.g (ps := ["_law_parts_here", "_law_thing"]) X G fun _ _ _ _ _ _ us hl => match us, hl with | [_, _], _ => rfl
  have g__law_bent_ring := h__law_bent_ring.g (ps := ["_law_hand_here", "_law_parts_here", "_law_ring"]) X G fun _ _ _ _ _ _ us hl => match us, hl with | [_, _, _], _ => rfl
  obtain ⟨f, od, an, sl, oc, kV, dc, pm, cd, ct, a, l, c, k⟩ := h_law
  have e := hfa.symm.trans (PySem.W.mg_of X G a)
  cases e
  have F := fun_mk (st := s_law) l c k
  refine ⟨PySem.W.fnOf "law" "law" (defArgs s_law) (defBody s_law) (defScope s_law) .none kV dc pm an cd ct, fun s v => .of_eq rfl, fun base _ _ => ?_⟩
  have G1 := ok_isint (P := P) (w := w) (base := base) T.toTxt g_is_integer
  have G2 := ok_btw T.toTxt g_is_between G1
  have G3 := ok_cmem T g_check_memories G2
  have G4 := ok_istie T.toTxt g_is_tie G2
  have G5 := ok_cties T g_check_ties G4
  have G6 := ok_nlots (P := P) (w := w) (base := base) T g_near_lots
  have M : WMk P w K mg base C := ⟨PySem.W.mg_of X G aC, fi, _, ⟨mk, ai, ii, kc⟩, ok_web T W FI G3 G5 G6, bI⟩
  have G7 := ok_isroom T W g_is_room G2
  have A1 := ok_grow (P := P) (w := w) (base := base) T.toTxt W g_grow_tree
  have A2 := ok_search T W g_search_trees A1
  have A3 := ok_twd (P := P) (w := w) (base := base) T W g_tie_within_depth
  have A4 := ok_lbd (P := P) (w := w) (base := base) T g_lots_by_depth
  have A5 := ok_two T W g_two_lots A2 A3 A4
  have A6 := ok_ring T W g_odd_ring A2 A3
  have A7 := ok_isring T W g_is_odd_ring G7
  have L1 := ok_hand (P := P) (w := w) (base := base) T.toTxt g__law_hand
  have L2' := ok_draw (P := P) (w := w) (base := base) T.toTxt g__law_draw
  have L3 := ok_any T.toTxt g__law_any L2'
  have L4 := ok_pairs (P := P) (w := w) (base := base) T.toTxt g__law_pairs
  have L5 := ok_parts T.toTxt g__law_parts L2' L4
  have L6 := ok_made M g__law_made
  have L7 := ok_near (P := P) (w := w) (base := base) T.toTxt g__law_near
  have L8 := ok_is (P := P) (w := w) (base := base) TS g__law_is 3
  have L9 := ok_nested TS g__law_nested L3
  have L10 := ok_lint (P := P) (w := w) (base := base) T.toTxt g__law_int
  have L11 := ok_lots T.toTxt g__law_lots L7
  have L12 := ok_lring TS g__law_is_ring L10
  have L13 := ok_bent T.toTxt g__law_bent_ring L2' L3 L9
  exact ok_law T.toTxt F L1 L2' L5 L4 L6 L11 A5 A6 L8 L12 A7 L13
theorem walk {l : PySem.W.OpenLaw} {q : Program} {loose : List Str} {XP : (Str → Option Value) → Heap → Prop} {YP : World → Heap → Prop} {d : DefRec} {K : Params → PySem.W.Frag} (hn : l.most = some 63) (hdf : d.params.defaults = [])
    (hY : ∀ (w : World) (h : Heap), YP w h → (K w.params).In h)
    (F : ∀ (w : World) (mg : Str → Option Value) (fa : Addr) (h : Heap), (K w.params).In h → h.Ns mainGlobals mg → mg d.name = some (.ref fa) →
      ∃ fd : FuncData, (∀ (s : Shared) (u : Value), BindsTo s fd ⟨[u], []⟩ [("_law_script", u)]) ∧ ∀ base : Heap, (K w.params).In base → base.Ns mainGlobals mg → FnOk l.prog w (K w.params) mg base CX0 9 fa fd ["_law_script"] (spLaw (K w.params))) :
    PySem.W.WalkO q loose XP YP l.row.toRowW d [] (fun f vs => PySem.call f vs) :=
  L2.walk_of (n := 63) (k := 9) (x := "_law_script") (CX := fun _ => CX0) (sp := fun w => spLaw (K w.params)) hn (by decide) hdf ⟨rfl, by decide, by decide⟩ hY F (fun _ _ a ns hl _ hS => ⟨a, ns, rfl, hS, hl, fun _ => rfl⟩) fun _ _ _ _ _ z => z
end W1

set_option maxRecDepth 100000
open PySem PySem.W PyProof.Rows
local macro_rules | `(tactic| walk_at "fact") => `(tactic| (refine' W1.fact_mk ?a ?l ?c ?k; (case a => k_is); (case l => k_is); (case c => k_is); (case k => k_is)))
set_option maxHeartbeats 0 in
theorem PySem.Challenge.cw_staletags_k02_whole_two_lots_or_an_odd_r_holds : PySem.Challenge.rw_staletags_k02_whole_two_lots_or_an_odd_r.Holds := by
  w_on; o_law; k_head; (case hw => w_witness2)
  k_fill
  refine W1.walk (l := PySem.Challenge.rw_staletags_k02_whole_two_lots_or_an_odd_r) rfl rfl (fun w h Y => PySem.W.kIn_of Y) ?F
  case F =>
    intro w mg fa h KX G hmg
    refine' W1.all_ok KX G hmg ?z_len ?z_abs ?z_int ?z_range ?z_tuple ?z_list ?z_sorted ?z_set ?z_enumerate ?z_isinstance ?z_all ?z_max ?z_min ?z_bool ?z_zip ?vr ?vm ?wf ?h_is_integer ?h_is_between ?h_check_memories ?h_check_ties ?h_is_tie ?h_near_lots ?h_is_room ?h_two_lots ?h_lots_by_depth ?h_odd_ring ?h_is_odd_ring ?h_search_trees ?h_grow_tree ?h_tie_within_depth ?h__law_hand ?h__law_draw ?h__law_any ?h__law_is ?h__law_nested ?h__law_pairs ?h__law_parts ?h__law_made ?h__law_near ?h__law_int ?h__law_lots ?h__law_is_ring ?h__law_bent_ring ?h_law
    (case z_len => k_is)
    (case z_abs => k_is)
    (case z_int => k_is)
    (case z_range => k_is)
    (case z_tuple => k_is)
    (case z_list => k_is)
    (case z_sorted => k_is)
    (case z_set => k_is)
    (case z_enumerate => k_is)
    (case z_isinstance => k_is)
    (case z_all => k_is)
    (case z_max => k_is)
    (case z_min => k_is)
    (case z_bool => k_is)
    (case z_zip => k_is)
    (case vr => refine' W1.num_mk ?a ?r; (case a => k_is); (case r => exact ⟨_, rfl⟩))
    (case vm => refine' W1.num_mk ?a ?r; (case a => k_is); (case r => exact ⟨_, rfl⟩))
    (case wf => refine' W1.web_mk ?aC ?ai ?ii ?li ?ci ?ki ?pg ?hd ?po ?sa ?mk ?kc ?nM ?nT ?nN; (case aC => k_is); (case ai => k_is); (case ii => k_is); (case li => k_is); (case ci => k_is); (case ki => k_is); (case pg => k_is); (case hd => k_is); (case po => k_is); (case sa => k_is); (case mk => k_is); (case kc => k_is); (case nM => k_is); (case nT => k_is); (case nN => k_is))
    (case h_is_integer => walk_at "fact")
    (case h_is_between => walk_at "fact")
    (case h_check_memories => walk_at "fact")
    (case h_check_ties => walk_at "fact")
    (case h_is_tie => walk_at "fact")
    (case h_near_lots => walk_at "fact")
    (case h_is_room => walk_at "fact")
    (case h_two_lots => walk_at "fact")
    (case h_lots_by_depth => walk_at "fact")
    (case h_odd_ring => walk_at "fact")
    (case h_is_odd_ring => walk_at "fact")
    (case h_search_trees => walk_at "fact")
    (case h_grow_tree => walk_at "fact")
    (case h_tie_within_depth => walk_at "fact")
    (case h__law_hand => walk_at "fact")
    (case h__law_draw => walk_at "fact")
    (case h__law_any => walk_at "fact")
    (case h__law_is => walk_at "fact")
    (case h__law_nested => walk_at "fact")
    (case h__law_pairs => walk_at "fact")
    (case h__law_parts => walk_at "fact")
    (case h__law_made => walk_at "fact")
    (case h__law_near => walk_at "fact")
    (case h__law_int => walk_at "fact")
    (case h__law_lots => walk_at "fact")
    (case h__law_is_ring => walk_at "fact")
    (case h__law_bent_ring => walk_at "fact")
    (case h_law => walk_at "fact")

