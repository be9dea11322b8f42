import PyProof.Rows.All
import Wide.All
import OpenK.AllK
import Wide.FinOn
import HandS.ForMost
import HandS.Walk
import HandS.SetFor
import HandS.Strs
import HandS.TupMul
import HandS.TupAny
import HandS.TupLe
import HandS.Style
import HandS.SortInts
import HandS.IsInst
import HandS.Conv
import KE.GoesEnum
import HandS.Evl
import PySem.Challenge.RW_staletags_k03_whole_pasts_bars_and_stand
import HandS.Zip
import KE.GoesZip
import HandS.Base
import HandS.Call
import HandS.Words
import HandS.ExcInit
import KE.KExcSuper
import HandS.ExcValue
import HandS.ExcIs
import HandS.ExcField
import KE.KExcIs
import HandS.WordsExc
import HandS.ExcOwn
import HandS.ExcBuiltin
set_option Elab.async false
set_option linter.all false
set_option maxRecDepth 100000
set_option maxHeartbeats 4000000
/-! own rules: enumerate over a tuple, set of a list of ints, a tuple times one -/
namespace PySem
section
open Builtin
theorem en1_new {v : Value} {o : Obj} {G : Heap → Prop} (B : Begins v o G) :
    Meets (Builtin.«enumerate.__new__» ⟨[.type "enumerate", v], []⟩) (fun _ R s => G s.heap ∧
      R (.ok (.ret (.ref (s.heap.push o).objs.size)))
        { s with heap := (s.heap.push o).push { cls := .type "enumerate", data := .fields #[.none, .bool false, .ref s.heap.objs.size, rawInt 0, .none, .none] } }) := by
  refine .of_wp fun prog w A R s h => ?_
  obtain ⟨hp, g, d, tk, os⟩ := s
  obtain ⟨h1, h⟩ := h
  have hsb := sub_enumerate
  have qi : ∀ {A' : Around} {E : Value → Shared → Prop} {Q : Value → Shared → Prop},
      Q (.ref hp.objs.size) ⟨hp.push o, g, d, tk, os⟩ → wpAny (model prog w) A' (pyIter v) Q E ⟨hp, g, d, tk, os⟩ := fun {A'} {E} {Q} q =>
    B.iter prog w _ _ ⟨hp, g, d, tk, os⟩ _ h1 q
  wp_walk using qi
  refine wpAny_stack_any fun st => ?_
  refine wpAny_pure ?_
  split
  · rename_i c _ _ _ _ _
    cases (c == Value.type "enumerate") <;> (wp_walk using qi; exact ⟨_, rfl, h⟩)
  · wp_walk using qi
    exact ⟨_, rfl, h⟩
end
theorem en1_call {prog : Program} {w : World} {A : Around} {E : Value → Shared → Prop} {s : Shared} {v : Value} {o : Obj} {G : Heap → Prop} {Q : Value → Shared → Prop} (B : Begins v o G) (hG : G s.heap)
    (hq : ∀ h', IsEnum h' (s.heap.objs.size + 1) s.heap.objs.size 0 .none → h'.get? s.heap.objs.size = some o → (∀ b u, s.heap.get? b = some u → h'.get? b = some u) →
      Q (.ref (s.heap.objs.size + 1)) { s with heap := h' }) :
    wpAny (model prog w) A (call (.type "enumerate") [v]) Q E s := by
  have hz : (s.heap.push o).objs.size = s.heap.objs.size + 1 := Heap.size_push ..
  refine callType_new F.called_enumerate (by decide) (F.typeCall_enumerate_1 v) (F.newCall_enumerate_1 v)
    (fun obj => F.args_object_init_2 obj v) F.entry_enumerate_new (en1_new B) ⟨hG, ?_⟩
  show _ ∧ _
  rw [hz]
  have e0 := Heap.get?_push_size (s.heap.push o)
    (o := { cls := .type "enumerate", data := .fields #[.none, .bool false, .ref s.heap.objs.size, rawInt 0, .none, .none] }) rfl
  rw [hz] at e0
  have he : IsEnum ((s.heap.push o).push { cls := .type "enumerate", data := .fields #[.none, .bool false, .ref s.heap.objs.size, rawInt 0, .none, .none] })
    (s.heap.objs.size + 1) s.heap.objs.size 0 .none := e0
  refine ⟨⟨_, he, rfl⟩, hq _ he ?_ ?_⟩
  · exact Heap.get?_push_of_some _ (Heap.get?_push_size _ B.free)
  · intro b u x
    exact Heap.get?_push_of_some _ (Heap.get?_push_of_some _ x)
end PySem
namespace L2
open PySem PySem.Spec PyProof.Rows
/-- the tuple at a, each item in a new pair with its place -/
def IteT (K : PySem.W.Frag) (a : Addr) : It where
  go := fun i H => ∃ (xs : List V) (x : V), SqT K H a xs ∧ xs[i]? = some x
  yld := fun i H v H' => ∃ T x, v = .ref T ∧ H T = none ∧ H' = upd H T (.tup [.int (i : Nat), x]) ∧ ∀ xs, SqT K H a xs → xs[i]? = some x
  stop := fun i H => ∃ xs : List V, SqT K H a xs ∧ xs.length ≤ i
theorem isTup_isTuple {h : Heap} {a : Addr} {its : Array Value} (x : IsTup h a its) : h.IsTuple a its := by
  obtain ⟨o, ho, hc, n, hd⟩ := x
  exact ⟨o, ho, hc, n, hd⟩

theorem turn_enT {P : Program} {w : World} {K : PySem.W.Frag} {elts : List Expr} {kk : Nat} {tp : Pos} (a e it : Addr) (hai : a ≠ it) (hea : e ≠ a) :
    Turn P w K (.Tuple elts kk tp) (IteT K a) [e, it] e (fun i h => (∃ old, IsEnum h e it ((i : Nat) : Int) old) ∧ h.IsTupleIter it a i ∧ e ≠ it) := by
  refine ⟨by simp, ?_, ?_, ?_, ?_, ?_⟩
  · rintro i h ⟨⟨old, he⟩, hit, _⟩ b hb
    have hb2 : b = e ∨ b = it := by simpa using hb
    rcases hb2 with rfl | rfl
    · exact ⟨_, he, fun v q => nomatch q⟩
    · obtain ⟨o, ho, _, hd⟩ := hit
      exact ⟨o, ho, fun v q => by rw [hd] at q; cases q⟩
  · rintro i h h' ⟨⟨old, he⟩, hit, hne⟩ k
    refine ⟨⟨old, k e (by simp) _ he⟩, ?_, hne⟩
    obtain ⟨o, ho, r⟩ := hit
    exact ⟨o, k it (by simp) o ho, r⟩
  · intro X hP hw hK hc i pins s σ H E I hf st hg
    subst hP hw hK
    obtain ⟨⟨old, he⟩, hit, hne⟩ := st
    obtain ⟨xs, x, hq, hx⟩ := hg
    obtain ⟨its, rv, pt, hz⟩ := I.tuple hq
    obtain ⟨u, hu, ru⟩ := rv.get hx
    have hel : e < s.heap.objs.size := Heap.lt_size he
    have hil : it < s.heap.objs.size := by
      obtain ⟨_, q, _⟩ := hit
      exact Heap.lt_size q
    have hin : i < its.toArray.size := by
      have h2 := (List.getElem?_eq_some_iff.mp hu).1
      simpa using h2
    have hh1 : X.A.in1.handled = none := by
      have h0 := I.ok.hd hc
      simpa using h0
    refine wpAny_pyNext_enum_itemD (Draws.tuple hh1 it a hai its.toArray) he ⟨hit, isTup_isTuple pt⟩ hin hne (by simp [hne, hea]) fun y h1 tk hy hout hst hT hsz hk => ?_
    have ey : y = u := by
      have h3 : its.toArray[i]? = some u := by simpa using hu
      exact Option.some.inj (hy.symm.trans h3)
    subst ey
    refine ⟨_, rfl, wpAny_letOwnedTupleGo_enum (s := { s with heap := h1, toks := tk + 1 }) hout fun h2 he2 sb => ?_⟩
    have hT2 : h2.get? s.heap.objs.size = some { cls := .type "tuple", data := .seq #[.int i tk, y] } := (sb.2 _ (Nat.ne_of_gt hel)).trans hT
    have new : ObjOk X.prog X.w (upd H s.heap.objs.size (.tup [.int (i : Nat), x])) h2 s.heap.objs.size (.tup [.int (i : Nat), x]) := by
      refine ⟨?_, [.int i tk, y], ?_, ?_⟩
      · show 2 ≤ sizeLine
        decide
      · exact .cons ⟨_, rfl⟩ (.cons ru .nil)
      · exact ⟨_, hT2, rfl, _, rfl⟩
    have I1 : Inv X pins σ (upd H s.heap.objs.size (.tup [.int (i : Nat), x])) { s with heap := h2, toks := tk + 1 } := by
      refine I.turnedNew (ch := [e, it]) (fun b ob hb q => ?_) hf (Nat.le_refl _) new
      have nbe : b ≠ e := fun z => hb (by simp [z])
      have nbi : b ≠ it := fun z => hb (by simp [z])
      exact (sb.2 b nbe).trans (hk b ob nbe nbi q)
    refine ⟨.ref s.heap.objs.size, _, I1, rfl, ⟨_, x, rfl, I.hok.fresh (Nat.le_refl _), rfl, fun ys hy2 => ?_⟩, ⟨⟨y, ?_⟩, ?_, hne⟩, fun b hb => ?_⟩
    · rw [I.tuple_inj hy2 hq]
      exact hx
    · have e1 : ((i + 1 : Nat) : Int) = (i : Int) + 1 := by omega
      rw [e1]
      exact he2
    · obtain ⟨o, ho, r⟩ := hst.1
      exact ⟨o, (sb.2 it (Ne.symm hne)).trans ho, r⟩
    · have hlt : b < s.heap.objs.size := by
        have hb2 : b = e ∨ b = it := by simpa using hb
        rcases hb2 with rfl | rfl
        · exact hel
        · exact hil
      rw [upd_ne (Nat.ne_of_lt hlt)]
      exact (hf b hb).1
  · intro X hP hw hK hc i pins s σ H E I hf st hg
    subst hP hw hK
    obtain ⟨⟨old, he⟩, hit, hne⟩ := st
    obtain ⟨xs, hq, hx⟩ := hg
    obtain ⟨its, rv, pt, hz⟩ := I.tuple hq
    obtain ⟨f0, f1, f2, f3, f4, f5⟩ := hf it (by simp)
    have hh1 : X.A.in1.handled = none := by
      have h0 := I.ok.hd hc
      simpa using h0
    have hl := rv.length
    have hend : ∀ h', Heap.ExtBut it s.heap h' → (fun (r : Option Value) (s1 : Shared) => r = none ∧ Inv X pins σ H s1) none { s with heap := h' } := fun h' eb =>
      ⟨rfl, I.turned (t' := s.toks) (fun b o hb q => eb b o hb q) f0 f1 f3 f4 f5⟩
    have hT : s.TypeIs (.ref e) "enumerate" := ⟨_, he, rfl⟩
    unfold pyNext
    refine wpAny_bind (wpAny_attempt (wpAny_callSpecial?_slot (name := Str.ofString "__next__") hT F.slot_enumerate_next
      (wpAny_call_entry F.slot_enumerate_next hT F.entry_enumerate_next ?_ (F.args_enumerate_next_1 _))))
    show wpAny _ _ (field (.ref e) 2 >>= _) _ _ _
    refine wpAny_bind (wpAny_field he rfl (x := .ref it) rfl ?_)
    refine wpAny_bind (wpAny_nextOf_tuple_end hh1 hit (isTup_isTuple pt) (by simp; omega) fun h' y he' hy => ?_)
    obtain ⟨o, ho, hcl⟩ := hy
    refine wpAny_bind (wpAny_isInstance (T := "StopIteration") (b := true) ⟨o, ho, hcl⟩ isSubtype_stop ?_)
    exact wpAny_pure (hend _ he')
  · rintro A i s Q E ⟨⟨old, he⟩, _⟩ h
    exact wpAny_pyIter_enum he h
def iEnumT (K : PySem.W.Frag) (ta : TA) : TI := fun σ H R => ta σ H fun vs H1 => ∃ a xs, vs = [.ref a] ∧ SqT K H1 a xs ∧ R (IteT K a) H1
theorem pi_enumT {X : Cx} {e : Expr} {ta : TA} {p pos tp : Pos} {elts : List Expr} {kk : Nat} (hg : Gl X "enumerate") (hm : X.mg "enumerate" = none) (ha : PA X [e] ta)
    (hs : starEach [e] X.env = [(false, eval e X.env)] := by rfl) : PI X (.Tuple elts kk tp) (.Call (.Name "enumerate" p) [e] [] pos) (iEnumT X.K ta) := by
  constructor
  intro pins s σ H R I h
  refine Call_ (ld_blt I hg hm boot_enumerate ?_)
  refine PyProof.Rows.callWith_type1 (thn (ha.run pos pins s σ H _ I h) fun us s1 hh => ?_) hs rfl
  obtain ⟨vs, H1, I1, r1, a, xs, rfl, hq, q⟩ := hh
  cases r1 with
  | cons r rr =>
    cases rr
    cases r
    obtain ⟨its, rv, pt, hz⟩ := I1.tuple hq
    have ht := isTup_isTuple pt
    have hlt : a < s1.heap.objs.size := by
      obtain ⟨o, ho, _⟩ := pt
      exact Heap.lt_size ho
    refine en1_call (begins_tuple a its.toArray) ht fun h' he hit hk => ?_
    refine wpAny_pyIter_enum he ?_
    have I2 : Inv X pins σ H1 { s1 with heap := h' } := I1.kept (t' := s1.toks) hk
    have T := turn_enT (P := X.prog) (w := X.w) (K := X.K) (elts := elts) (kk := kk) (tp := tp) a (s1.heap.objs.size + 1) s1.heap.objs.size (Nat.ne_of_lt hlt) (by
      intro z
      rw [← z] at hlt
      exact absurd hlt (Nat.not_lt.mpr (Nat.le_succ _)))
    refine ⟨s1.heap.objs.size + 1, [s1.heap.objs.size + 1, s1.heap.objs.size], _, _, H1, rfl, I2, T, ⟨⟨.none, he⟩, ⟨_, hit, rfl, rfl⟩, Nat.succ_ne_self _⟩, fun b hb => ?_, q⟩
    have hb2 : b = s1.heap.objs.size + 1 ∨ b = s1.heap.objs.size := by simpa using hb
    have hle : s1.heap.objs.size ≤ b := by
      rcases hb2 with z | z <;> rw [z]
      · exact Nat.le_succ _
      · exact Nat.le_refl _
    exact I1.fpOk hle (I1.hok.fresh hle)
theorem walk_enT {K : PySem.W.Frag} {a : Addr} {xs : List V} : Walk (IteT K a) xs.length (fun H => SqT K H a xs) (YPair (fun i => some (.int (i : Nat))) (fun i => xs[i]?)) := by
  constructor
  · intro i H hi q
    exact ⟨xs, xs[i], q, by simp [hi]⟩
  · intro H q
    exact ⟨xs, q, Nat.le_refl _⟩
  · rintro i H v H' _ q ⟨T, x, h1, h2, h3, h4⟩
    exact ⟨T, .int (i : Nat), x, h1, h2, h3, rfl, h4 xs q⟩

/-! ### set(a list of ints) -/
section
variable {P : Program} {w : World} {A : Around} {E : Value → Shared → Prop} {s : Shared}
abbrev set0 (w : World) : Obj := { cls := .type "set", dict := none, data := .set #[] 0 (.fresh 0 0 (!w.params.followText "set-order")) }
theorem setL_call {l : Addr} {items : Array Value} (ns : List Int) {Q : Value → Shared → Prop} (hh : A.handled = none) (hl : s.heap.IsList l items) (hit : IntsAre items.toList ns) (hb : ns.length + 1 < scanBound)
    (hq : ∀ (h' : Heap) (tk c : Nat), SetR w h' s.heap.objs.size (fun j => decide (j ∈ ns)) c → c ≤ ns.length → (∀ b o, s.heap.get? b = some o → h'.get? b = some o) →
      Q (.ref s.heap.objs.size) { s with heap := h', toks := tk }) :
    wpAny (model P w) A (call (.type "set") [.ref l]) Q E s := by
  have hisz : items.size = ns.length := by simpa using IntsAre.length hit
  obtain ⟨cm, tl, hmro⟩ := F.called_set.mro
  have hmade := F.called_set.made
  have hsb := F.called_set.sub
  refine wpAny_call (codeAny_of_tree ?_)
  show wpAny _ _ (callAny (.type "set") _) _ _ _
  refine wpAny_pure ⟨Code.quiet_builtin _ (by decide +kernel), ?_⟩
  refine codeAny_builtin F.entry_type_call ?_
  rw [Around.under_plain (weight_type_call_type "set" [.ref l] []) rfl]
  have f1 := F.called_set.notType
  have f2 := F.called_set.canCreate
  have f3 := F.typeCall_set_1 (.ref l)
  repeat (any_goals (first | assumption | wp_step))
  refine codeAny_mono (code_set_led1 (.ref l) (E := E) (Q₁ := fun obj s₁ => obj = .ref s.heap.objs.size ∧ s₁ = { s with heap := s.heap.push (set0 w) }) ⟨rfl, rfl⟩) fun r s₁ hr => ?_
  cases r with
  | error e => exact hr
  | ok fl =>
    cases fl with
    | next => exact hr.elim
    | brk => exact hr.elim
    | cont => exact hr.elim
    | ret obj =>
      obtain ⟨rfl, rfl⟩ := hr
      have hS : (s.heap.push (set0 w)).get? s.heap.objs.size = some (set0 w) := Heap.get?_push_size _ rfl
      have hT : Shared.TypeIs { s with heap := s.heap.push (set0 w) } (.ref s.heap.objs.size) "set" := ⟨_, hS, rfl⟩
      have f4 := F.called_set.init.lookup
      have f5 := F.called_set.init.bind (.ref s.heap.objs.size)
      repeat (any_goals (first | assumption | wp_step))
      refine codeAny_mono (codeAny_call_builtin (R := wants (fun r s₂ => r = .none ∧ ∃ h' tk c, s₂ = { s with heap := h', toks := tk } ∧ SetR w h' s.heap.objs.size (fun j => decide (j ∈ ns)) c ∧
          c ≤ ns.length ∧ ∀ b o, s.heap.get? b = some o → h'.get? b = some o) E) F.called_set.init.plain F.entry_set_init (check_set_init_1 hT ?_)) fun r₂ s₂ hr₂ => ?_
      · obtain ⟨⟨oc, od, odt, osl⟩, hol, hcl, nl, hdl⟩ := hl
        replace hcl : oc = .type "list" := hcl
        replace hdl : odt = .seq items nl := hdl
        subst hcl hdl
        have hol1 : (s.heap.push (set0 w)).get? l = some { cls := .type "list", dict := od, data := .seq items nl, slots := osl } := Heap.get?_push_of_some _ hol
        have f6 := F.sub_list_set
        have f7 := F.sub_list_frozenset
        have hne : (Value.type "list" == Value.type "dict") = false := by decide
        have hl1 : (s.heap.push (set0 w)).IsList l items := ⟨_, hol1, rfl, nl, rfl⟩
        unfold Builtin.«set.__init__» noKeywords Builtin.Frozenset.updateFrom
        generalize hPI : pyIter = PI
        wp_walk
        subst hPI
        refine wpAny_pyIter_list hl1 ?_
        refine wpAny_bind (wpAny_runValue ?_)
        have hlS : l < s.heap.objs.size := Heap.lt_size hol
        have hh3 : A.in1.in1.in1.handled = none := by simp [hh]
        have hsz1 : (s.heap.push (set0 w)).objs.size = s.heap.objs.size + 1 := Heap.size_push ..
        have hneI : l ≠ (s.heap.push (set0 w)).objs.size := by
          rw [hsz1]
          exact Nat.ne_of_lt (Nat.lt_succ_of_lt hlS)
        have hSf : s.heap.objs.size ∉ [(s.heap.push (set0 w)).objs.size, l] := by
          rw [hsz1]
          intro hm
          rcases List.mem_cons.mp hm with z | z
          · exact absurd z (Nat.ne_of_lt (Nat.lt_succ_self _))
          · exact absurd (List.mem_singleton.mp z) (Nat.ne_of_gt hlS)
        have hval : ∀ (i : Nat) (v : Value), items[i]? = some v → ∃ k t, ns[i]? = some k ∧ v = .int k t := fun i v hv => by
          have hi : i < ns.length := by
            rw [← hisz]
            exact (Array.getElem?_eq_some_iff.mp hv).1
          obtain ⟨t, e⟩ := IntsAre.int_at hit i v (by simpa using hv)
          exact ⟨ns[i], t, List.getElem?_eq_getElem hi, by rw [e]; simp [hi]⟩
        refine set_update_ints ((Walks.list hh3 _ l hneI items).toS) s.heap.objs.size hSf ns hisz hb hval (items.size - 0) 0 _ (by omega) (Nat.zero_le _)
          ⟨⟨_, Heap.get?_push_size _ rfl, rfl, rfl⟩, (hl1.push _)⟩ ?hA ?hB
        case hA =>
          have hget := Heap.get?_push_of_some { cls := .type "list_iterator", data := .fields #[.ref l, .int 0 0] } hS
          exact ⟨0, Nat.le_refl 0, setR_new_at hget⟩
        case hB =>
          intro s' c' hm hc' hS'
          obtain ⟨h', g2, d', tk', os'⟩ := s'
          have eg : g2 = s.gens := hm.gens
          have ed : d' = s.drawn := hm.drawn
          have eo : os' = s.os := hm.os
          subst eg ed eo
          show wpAny _ _ _ _ _ _
          refine wpAny_pure ?_
          show wpAny _ _ (ret Value.none) _ _ _
          rw [hisz] at hc'
          refine wpAny_pure ⟨rfl, h', tk', c', rfl, hS', hc', fun b o e => ?_⟩
          have hb0 : b < s.heap.objs.size := Heap.lt_size e
          have hb3 : b ∉ [s.heap.objs.size, (s.heap.push (set0 w)).objs.size] := by
            rw [hsz1]
            intro hm
            rcases List.mem_cons.mp hm with z | z
            · exact absurd z (Nat.ne_of_lt hb0)
            · exact absurd (List.mem_singleton.mp z) (Nat.ne_of_lt (Nat.lt_succ_of_lt hb0))
          exact hm.heap b o hb3 (Heap.get?_push_of_some _ (Heap.get?_push_of_some _ e))
      · cases r₂ with
        | error e => exact hr₂
        | ok fl₂ =>
          cases fl₂ with
          | next => exact hr₂.elim
          | brk => exact hr₂.elim
          | cont => exact hr₂.elim
          | ret r =>
            obtain ⟨rfl, h', tk, c', rfl, hS', hc', hk'⟩ := hr₂
            repeat (any_goals (first | assumption | wp_step))
            exact hq _ _ _ hS' hc' hk'
end
/-- set(xs), xs a list of ints: its members, at most as many as the list is long -/
def rSetOfL (K : PySem.W.Frag) (w : World) : List V → Hp → VK → Prop := fun vs H Q => ∃ (l : Addr) (ns : List Int), vs = [.ref l] ∧ SqL K H l (ns.map V.int) ∧ ns.length ≤ 4000 ∧
  ∀ p n, H p = none → n ≤ ns.length → Q (.ref p) (upd H p (SetO w p (fun j => decide (j ∈ ns)) n))
theorem cr_setL {X : Cx} (hc : X.calm = true) : CallR X (.type "set") (rSetOfL X.K X.w) := by
  intro pins s σ H vs us Q I r h
  obtain ⟨l, ns, rfl, hq, hl, q⟩ := h
  rw [Vals.ref1 r]
  obtain ⟨its, rv, pl, hz⟩ := I.list hq
  have hi := ints_of_vals rv
  refine setL_call ns (I.ok.hd hc) pl.isList (by simpa using hi) (by unfold scanBound; omega) fun h' tk c hS hcn hk => ?_
  have hn : H s.heap.objs.size = none := I.hok.fresh (Nat.le_refl _)
  exact ⟨.ref _, upd H s.heap.objs.size (SetO X.w s.heap.objs.size (fun j => decide (j ∈ ns)) c), I.laid (t' := tk) hk (Nat.le_refl _) (setO_new hS), rfl, q _ _ hn hcn⟩
end L2

set_option maxRecDepth 100000
set_option maxHeartbeats 4000000
/-! data, and what an expression evaluates to in data -/
namespace W1
open PySem L2

inductive D where
  | non | bl (b : Bool) | int (i : Int) | str (s : Str) | tup (xs : List D) | lst (xs : List D) | obj (v : V)

/-- the shape of the law's own hand: it alone changes while others look on -/
def Handy (xs : List V) : Prop := ∃ c p x s n, xs = [.ref c, .int p, .int x, .int s, .int n] ∧ 0 ≤ p ∧ 0 ≤ x
def Le (H H' : Hp) : Prop := ∀ a o, H a = some o → H' a = some o ∨
  ∃ c p x s n p' x' s' n', o = .lst [.ref c, .int p, .int x, .int s, .int n] ∧ H' a = some (.lst [.ref c, .int p', .int x', .int s', .int n']) ∧ 0 ≤ p' ∧ 0 ≤ x'
theorem Le.refl (H : Hp) : Le H H := fun _ _ h => .inl h
theorem Le.trans {H H1 H2 : Hp} (a : Le H H1) (b : Le H1 H2) : Le H H2 := fun x o h => by
  rcases a x o h with h1 | ⟨c, p, q, s, n, p', q', s', n', rfl, h1, u, v⟩
  · exact b x o h1
  · rcases b x _ h1 with h2 | ⟨c2, p2, q2, s2, n2, p3, q3, s3, n3, e, h2, u2, v2⟩
    · exact .inr ⟨c, p, q, s, n, p', q', s', n', rfl, h2, u, v⟩
    · injection e with e
      injection e with e1 e
      injection e1 with e1
      subst e1
      exact .inr ⟨c, p, q, s, n, p3, q3, s3, n3, rfl, h2, u2, v2⟩
theorem Le.ex {H H' : Hp} (e : Evl.Ex H H') : Le H H' := fun a o h => .inl (e a o h)
theorem Le.new {H : Hp} {p : Addr} {o : HO} (h : H p = none) : Le H (upd H p o) := Le.ex (Evl.Ex.new h)
/-- what H does not know may change -/
theorem Le.mut {H H' : Hp} {p : Addr} {o : HO} (e : Le H H') (h : H p = none) : Le H (upd H' p o) := fun a u ha => by
  rw [upd_ne (ne_of_none ha h)]
  exact e a u ha
theorem Le.tup {H H' : Hp} {a : Addr} {xs : List V} (e : Le H H') (h : H a = some (.tup xs)) : H' a = some (.tup xs) := by
  rcases e a _ h with h1 | ⟨_, _, _, _, _, _, _, _, _, z, _⟩
  · exact h1
  · cases z
theorem Le.ins {H H' : Hp} {a C dx : Addr} {fs : List (Str × V)} (e : Le H H') (h : H a = some (.ins C dx fs)) : H' a = some (.ins C dx fs) := by
  rcases e a _ h with h1 | ⟨_, _, _, _, _, _, _, _, _, z, _⟩
  · exact h1
  · cases z
theorem Le.frz {H H' : Hp} {a : Addr} {o : Obj} {u : HO} (e : Le H H') (h : H a = some (.frz o u)) : H' a = some (.frz o u) := by
  rcases e a _ h with h1 | ⟨_, _, _, _, _, _, _, _, _, z, _⟩
  · exact h1
  · cases z
def NotH (xs : List V) : Prop := ∀ c p x s n, xs ≠ [.ref c, .int p, .int x, .int s, .int n]
theorem Le.lst {H H' : Hp} {a : Addr} {xs : List V} (e : Le H H') (h : H a = some (.lst xs)) (n : NotH xs) : H' a = some (.lst xs) := by
  rcases e a _ h with h1 | ⟨c, p, x, s, m, _, _, _, _, z, _⟩
  · exact h1
  · injection z with z
    exact absurd z (n c p x s m)
theorem Le.sqt {K : PySem.W.Frag} {H H' : Hp} {a : Addr} {xs : List V} (e : Le H H') (h : SqT K H a xs) : SqT K H' a xs := by
  rcases h with (h | ⟨o, h⟩) | h
  · exact .inl (.inl (e.tup h))
  · exact .inl (.inr ⟨o, e.frz h⟩)
  · exact .inr h
theorem Le.fresh {H H' : Hp} {p : Addr} (e : Le H H') (h : H' p = none) : H p = none := by
  cases h1 : H p with
  | none => rfl
  | some o =>
    rcases e p o h1 with h2 | ⟨_, _, _, _, _, _, _, _, _, _, h2, _⟩
    · rw [h] at h2
      cases h2
    · rw [h] at h2
      cases h2

/-! ### what stands for data -/
mutual
inductive Rp (K : PySem.W.Frag) (H : Hp) : V → D → Prop
  | non : Rp K H .non .non
  | bl (b : Bool) : Rp K H (.bl b) (.bl b)
  | int (i : Int) : Rp K H (.int i) (.int i)
  | str (x : Str) : Rp K H (.str x) (.str x)
  | obj (v : V) : Rp K H v (.obj v)
  | tup {a : Addr} {xs : List V} {ds : List D} : SqT K H a xs → Rps K H xs ds → Rp K H (.ref a) (.tup ds)
  | lst {a : Addr} {xs : List V} {ds : List D} : H a = some (.lst xs) → NotH xs → Rps K H xs ds → Rp K H (.ref a) (.lst ds)
inductive Rps (K : PySem.W.Frag) (H : Hp) : List V → List D → Prop
  | nil : Rps K H [] []
  | cons {v : V} {vs : List V} {d : D} {ds : List D} : Rp K H v d → Rps K H vs ds → Rps K H (v :: vs) (d :: ds)
end
section
variable {K : PySem.W.Frag} {H H' : Hp}
mutual
theorem Rp.le (e : Le H H') {v : V} {d : D} : Rp K H v d → Rp K H' v d
  | .non => .non
  | .bl b => .bl b
  | .int i => .int i
  | .str x => .str x
  | .obj v => .obj v
  | .tup h r => .tup (e.sqt h) (Rps.le e r)
  | .lst h n r => .lst (e.lst h n) n (Rps.le e r)
theorem Rps.le (e : Le H H') {vs : List V} {ds : List D} : Rps K H vs ds → Rps K H' vs ds
  | .nil => .nil
  | .cons h r => .cons (Rp.le e h) (Rps.le e r)
end
theorem Rps.len : ∀ {vs : List V} {ds : List D}, Rps K H vs ds → vs.length = ds.length
  | _, _, .nil => rfl
  | _, _, .cons _ r => by rw [List.length_cons, List.length_cons, Rps.len r]
theorem Rps.at : ∀ {vs : List V} {ds : List D} {i : Nat} {d : D}, Rps K H vs ds → ds[i]? = some d → ∃ v, vs[i]? = some v ∧ Rp K H v d
  | _, _, _, _, .nil, h => by simp at h
  | _, _, 0, _, .cons h _, e => by
    simp at e
    subst e
    exact ⟨_, rfl, h⟩
  | _, _, i + 1, d, .cons _ r, e => by
    obtain ⟨v, h1, h2⟩ := Rps.at (i := i) (d := d) r (by simpa using e)
    exact ⟨v, by simpa using h1, h2⟩
theorem Rps.at' : ∀ {vs : List V} {ds : List D} {i : Nat} {v : V}, Rps K H vs ds → vs[i]? = some v → ∃ d, ds[i]? = some d ∧ Rp K H v d
  | _, _, _, _, .nil, h => by simp at h
  | _, _, 0, _, .cons h _, e => by
    simp at e
    subst e
    exact ⟨_, rfl, h⟩
  | _, _, i + 1, d, .cons _ r, e => by
    obtain ⟨v, h1, h2⟩ := Rps.at' (i := i) (v := d) r (by simpa using e)
    exact ⟨v, by simpa using h1, h2⟩
theorem Rps.app : ∀ {vs ws : List V} {ds es : List D}, Rps K H vs ds → Rps K H ws es → Rps K H (vs ++ ws) (ds ++ es)
  | _, _, _, _, .nil, s => s
  | _, _, _, _, .cons h r, s => .cons h (Rps.app r s)
theorem Rps.take : ∀ {vs : List V} {ds : List D} (n : Nat), Rps K H vs ds → Rps K H (vs.take n) (ds.take n)
  | _, _, 0, _ => .nil
  | _, _, _ + 1, .nil => .nil
  | _, _, n + 1, .cons h r => .cons h (Rps.take n r)
theorem Rps.drop : ∀ {vs : List V} {ds : List D} (n : Nat), Rps K H vs ds → Rps K H (vs.drop n) (ds.drop n)
  | _, _, 0, r => r
  | _, _, _ + 1, .nil => .nil
  | _, _, n + 1, .cons _ r => Rps.drop n r
theorem Rps.rep {v : V} {d : D} (h : Rp K H v d) : ∀ n : Nat, Rps K H (List.replicate n v) (List.replicate n d)
  | 0 => .nil
  | n + 1 => .cons h (Rps.rep h n)
theorem Rps.flat {vs : List V} {ds : List D} (h : Rps K H vs ds) : ∀ n : Nat, Rps K H (List.replicate n vs).flatten (List.replicate n ds).flatten
  | 0 => .nil
  | n + 1 => by
    rw [List.replicate_succ, List.replicate_succ, List.flatten_cons, List.flatten_cons]
    exact h.app (Rps.flat h n)
theorem Rps.set : ∀ {vs : List V} {ds : List D} {v : V} {d : D} (i : Nat), Rps K H vs ds → Rp K H v d → Rps K H (vs.set i v) (ds.set i d)
  | _, _, _, _, _, .nil, _ => .nil
  | _, _, _, _, 0, .cons _ r, h => .cons h r
  | _, _, _, _, i + 1, .cons g r, h => .cons g (Rps.set i r h)
theorem rps_ints : ∀ ns : List Int, Rps K H (ns.map V.int) (ns.map D.int)
  | [] => .nil
  | n :: ns => .cons (.int n) (rps_ints ns)
theorem ints_rps : ∀ {ns : List Int} {vs : List V}, Rps K H vs (ns.map D.int) → vs = ns.map V.int
  | [], _, h => by
    cases h
    rfl
  | n :: ns, _, h => by
    cases h with
    | cons a r =>
      cases a
      rw [ints_rps r]
      rfl
theorem rps_bls : ∀ bs : List Bool, Rps K H (bs.map V.bl) (bs.map D.bl)
  | [] => .nil
  | b :: bs => .cons (.bl b) (rps_bls bs)
theorem bls_rps : ∀ {bs : List Bool} {vs : List V}, Rps K H vs (bs.map D.bl) → vs = bs.map V.bl
  | [], _, h => by
    cases h
    rfl
  | b :: bs, _, h => by
    cases h with
    | cons a r =>
      cases a
      rw [bls_rps r]
      rfl
end
theorem notH_len {xs : List V} (h : xs.length ≠ 5) : NotH xs := fun c p x s n e => h (by rw [e]; rfl)
theorem notH_int {x : Int} {xs : List V} : NotH (.int x :: xs) := fun _ _ _ _ _ e => by injection e with e _; cases e
theorem notH_ints (ns : List Int) : NotH (ns.map V.int) := by
  cases ns with
  | nil => exact notH_len (by decide)
  | cons n ns => exact notH_int
theorem notH_bls (bs : List Bool) : NotH (bs.map V.bl) := fun c p x s n e => by
  cases bs with
  | nil => cases e
  | cons b bs =>
    injection e with e _
    cases e
/-- items that are all references, or none an int behind the first -/
theorem notH_of {xs : List V} (h : ∀ v, xs[1]? = some v → ∀ i, v ≠ .int i) : NotH xs := fun c p x s n e => by
  subst e
  exact h (.int p) rfl p rfl

/-! ### evaluation -/
abbrev Pd := D → Hp → Prop
/-- e evaluates to something that stands for data of which P holds -/
def EP (K : PySem.W.Frag) (te : TE) (σ : L2.St) (H : Hp) (P : Pd) : Prop := ∀ H1, Le H H1 → ∀ Q : VK, (∀ v d H2, Le H1 H2 → P d H2 → Rp K H2 v d → Q v H2) → te σ H1 Q
abbrev is (d : D) : Pd := fun x _ => x = d
abbrev ED (K : PySem.W.Frag) (te : TE) (σ : L2.St) (H : Hp) (d : D) : Prop := EP K te σ H (is d)
def EA (K : PySem.W.Frag) (ta : TA) (σ : L2.St) (H : Hp) (P : List D → Hp → Prop) : Prop := ∀ H1, Le H H1 → ∀ Q : List V → Hp → Prop, (∀ vs ds H2, Le H1 H2 → P ds H2 → Rps K H2 vs ds → Q vs H2) → ta σ H1 Q
abbrev EDA (K : PySem.W.Frag) (ta : TA) (σ : L2.St) (H : Hp) (ds : List D) : Prop := EA K ta σ H fun x _ => x = ds
def ET (tt : TT) (σ : L2.St) (H : Hp) (P : Bool → Prop) : Prop := ∀ H1, Le H H1 → ∀ Q : Bool → Hp → Prop, (∀ b H2, Le H1 H2 → P b → Q b H2) → tt σ H1 Q
abbrev EB (tt : TT) (σ : L2.St) (H : Hp) (b : Bool) : Prop := ET tt σ H fun x => x = b
def EO (to : TO) (σ : L2.St) (H : Hp) (o : Option Int) : Prop := ∀ H1, Le H H1 → ∀ Q : Option Int → Hp → Prop, (∀ H2, Le H1 H2 → Q o H2) → to σ H1 Q

section
variable {K : PySem.W.Frag} {σ : L2.St} {H H' : Hp} {ta tb tc te : TE} {t u : TT} {x y z v : V} {d d1 d2 d3 : D} {P P1 P2 P3 : Pd}
theorem EP.le (e : Le H H') (h : EP K te σ H P) : EP K te σ H' P := fun H1 a Q q => h H1 (e.trans a) Q q
theorem EA.le {ta : TA} {P : List D → Hp → Prop} (e : Le H H') (h : EA K ta σ H P) : EA K ta σ H' P := fun H1 a Q q => h H1 (e.trans a) Q q
theorem ET.le {P : Bool → Prop} (e : Le H H') (h : ET t σ H P) : ET t σ H' P := fun H1 a Q q => h H1 (e.trans a) Q q
theorem EP.weak (h : EP K te σ H P) (w : ∀ d H2, Le H H2 → P d H2 → P1 d H2) : EP K te σ H P1 := fun H1 a Q q => h H1 a Q fun v d H2 b p r => q v d H2 b (w d H2 (a.trans b) p) r
theorem ed_eq (h : ED K te σ H d) (e : d = d1) : ED K te σ H d1 := e ▸ h
theorem eb_eq {a b : Bool} (h : EB t σ H a) (e : a = b) : EB t σ H b := e ▸ h
/-- then: what comes behind may lean on what was found -/
theorem ed_var {i : Nat} (h : σ[i]? = some (some v)) (r : Rp K H v d) : ED K (tVar i) σ H d := fun H1 e Q q => ⟨v, h, q v d H1 (Le.refl _) rfl (r.le e)⟩
theorem ed_int {i : Int} : ED K (tC (.int i)) σ H (.int i) := fun H1 _ Q q => q _ _ H1 (Le.refl _) rfl (.int i)
theorem ed_bl {b : Bool} : ED K (tC (.bl b)) σ H (.bl b) := fun H1 _ Q q => q _ _ H1 (Le.refl _) rfl (.bl b)
theorem ed_str {s : Str} : ED K (tC (.str s)) σ H (.str s) := fun H1 _ Q q => q _ _ H1 (Le.refl _) rfl (.str s)
theorem ed_non : ED K (tC .non) σ H .non := fun H1 _ Q q => q _ _ H1 (Le.refl _) rfl .non
theorem ed_obj : ED K (tC v) σ H (.obj v) := fun H1 _ Q q => q _ _ H1 (Le.refl _) rfl (.obj v)
/-- two operands -/
theorem ep_op {r : R2} (ha : EP K ta σ H P1) (hb : EP K tb σ H P2)
    (hr : ∀ x y d1 d2 H1 H2, Le H H1 → Le H1 H2 → P1 d1 H1 → P2 d2 H2 → Rp K H2 x d1 → Rp K H2 y d2 → ∀ Q : VK, (∀ v d H3, Le H2 H3 → P d H3 → Rp K H3 v d → Q v H3) → r x y H2 Q) : EP K (tOp r ta tb) σ H P := fun H1 e Q q =>
  ha H1 e _ fun x d1 H2 e2 p1 r1 => hb H2 (e.trans e2) _ fun y d2 H3 e3 p2 r2 =>
    hr x y d1 d2 H2 H3 (e.trans e2) e3 p1 p2 (r1.le e3) r2 Q fun v d H4 e4 p r => q v d H4 ((e2.trans e3).trans e4) p r
theorem ed_op {r : R2} (ha : ED K ta σ H d1) (hb : ED K tb σ H d2)
    (hr : ∀ x y H2, Le H H2 → Rp K H2 x d1 → Rp K H2 y d2 → ∀ Q : VK, (∀ v d H3, Le H2 H3 → P d H3 → Rp K H3 v d → Q v H3) → r x y H2 Q) : EP K (tOp r ta tb) σ H P :=
  ep_op ha hb fun x y e1 e2 H1 H2 a b p1 p2 r1 r2 => by
    subst p1 p2
    exact hr x y H2 (a.trans b) r1 r2
theorem ed_un {r : V → Hp → VK → Prop} (ha : ED K ta σ H d1)
    (hr : ∀ x H2, Le H H2 → Rp K H2 x d1 → ∀ Q : VK, (∀ v d H3, Le H2 H3 → P d H3 → Rp K H3 v d → Q v H3) → r x H2 Q) : EP K (tUn r ta) σ H P := fun H1 e Q q =>
  ha H1 e _ fun x e1 H2 e2 p1 r1 => by
    have p2 : e1 = d1 := p1
    subst p2
    exact hr x H2 (e.trans e2) r1 Q fun v d H4 e4 p r => q v d H4 (e2.trans e4) p r
theorem rp_int {i : Int} (r : Rp K H v (.int i)) : v = .int i := by
  cases r
  rfl
theorem rp_bl {b : Bool} (r : Rp K H v (.bl b)) : v = .bl b := by
  cases r
  rfl
theorem rp_str {s : Str} (r : Rp K H v (.str s)) : v = .str s := by
  cases r
  rfl
theorem rp_non (r : Rp K H v .non) : v = .non := by
  cases r
  rfl
theorem rp_obj {w : V} (r : Rp K H v (.obj w)) : v = w := by
  cases r
  rfl
/-- two ints -/
theorem ep_I0 {g : Int → Int → V} (ha : EP K ta σ H P1) (hb : EP K tb σ H P2)
    (h : ∀ d1 d2 H1 H2, Le H H1 → Le H1 H2 → P1 d1 H1 → P2 d2 H2 → ∃ i j, d1 = .int i ∧ d2 = .int j ∧ ∃ d, P d H2 ∧ Rp K H2 (g i j) d) : EP K (tOp (rI0 g) ta tb) σ H P :=
  ep_op ha hb fun x y d1 d2 H1 H2 a b p1 p2 r1 r2 Q q => by
    obtain ⟨i, j, rfl, rfl, d, p, r⟩ := h d1 d2 H1 H2 a b p1 p2
    exact ⟨i, j, rp_int r1, rp_int r2, q _ d H2 (Le.refl _) p r⟩
theorem ep_I {C : Int → Int → Prop} {g : Int → Int → V} (ha : EP K ta σ H P1) (hb : EP K tb σ H P2)
    (h : ∀ d1 d2 H1 H2, Le H H1 → Le H1 H2 → P1 d1 H1 → P2 d2 H2 → ∃ i j, d1 = .int i ∧ d2 = .int j ∧ C i j ∧ ∃ d, P d H2 ∧ Rp K H2 (g i j) d) : EP K (tOp (rI C g) ta tb) σ H P :=
  ep_op ha hb fun x y d1 d2 H1 H2 a b p1 p2 r1 r2 Q q => by
    obtain ⟨i, j, rfl, rfl, c, d, p, r⟩ := h d1 d2 H1 H2 a b p1 p2
    exact ⟨i, j, rp_int r1, rp_int r2, c, q _ d H2 (Le.refl _) p r⟩
theorem ed_I0 {f : Int → Int → Int} {i j : Int} (ha : ED K ta σ H (.int i)) (hb : ED K tb σ H (.int j)) : ED K (tOp (rI0 fun i j => .int (f i j)) ta tb) σ H (.int (f i j)) :=
  ep_I0 ha hb fun d1 d2 H1 H2 _ _ p1 p2 => ⟨i, j, p1, p2, _, rfl, .int _⟩
theorem ed_B0 {f : Int → Int → Bool} {i j : Int} (ha : ED K ta σ H (.int i)) (hb : ED K tb σ H (.int j)) : ED K (tOp (rI0 fun i j => .bl (f i j)) ta tb) σ H (.bl (f i j)) :=
  ep_I0 ha hb fun d1 d2 H1 H2 _ _ p1 p2 => ⟨i, j, p1, p2, _, rfl, .bl _⟩
theorem ed_I {C : Int → Int → Prop} {f : Int → Int → Int} {i j : Int} (ha : ED K ta σ H (.int i)) (hb : ED K tb σ H (.int j)) (c : C i j) : ED K (tOp (rI C fun i j => .int (f i j)) ta tb) σ H (.int (f i j)) :=
  ep_I ha hb fun d1 d2 H1 H2 _ _ p1 p2 => ⟨i, j, p1, p2, c, _, rfl, .int _⟩
theorem ed_neg {i : Int} (ha : ED K ta σ H (.int i)) : ED K (tUn (rU fun i => .int (-i)) ta) σ H (.int (-i)) :=
  ed_un ha fun x H2 _ r Q q => ⟨i, rp_int r, q _ _ H2 (Le.refl _) rfl (.int _)⟩
/-- flat data: equal just if equal -/
def vOf : D → V
  | .non => .non
  | .bl b => .bl b
  | .int i => .int i
  | .str s => .str s
  | .obj v => v
  | _ => .non
def flat : D → Bool
  | .tup _ => false
  | .lst _ => false
  | _ => true
theorem rp_flat (h : flat d = true) (r : Rp K H v d) : v = vOf d := by
  cases r <;> first | rfl | cases h
theorem flat_rp (h : flat d = true) : Rp K H (vOf d) d := by
  cases d with
  | non => exact .non
  | bl b => exact .bl b
  | int i => exact .int i
  | str s => exact .str s
  | obj v => exact .obj v
  | tup xs => cases h
  | lst xs => cases h
theorem ed_eqS (ha : ED K ta σ H d1) (hb : ED K tb σ H d2) (f1 : flat d1 = true) (f2 : flat d2 = true) (hs : scal (vOf d1) (vOf d2) = true) : ED K (tOp rEq ta tb) σ H (.bl (decide (vOf d1 = vOf d2))) :=
  ed_op ha hb fun x y H2 _ r1 r2 Q q => by
    rw [rp_flat f1 r1, rp_flat f2 r2]
    exact ⟨hs, q _ _ H2 (Le.refl _) rfl (.bl _)⟩
theorem ed_neS (ha : ED K ta σ H d1) (hb : ED K tb σ H d2) (f1 : flat d1 = true) (f2 : flat d2 = true) (hs : scal (vOf d1) (vOf d2) = true) : ED K (tOp rNe ta tb) σ H (.bl (!decide (vOf d1 = vOf d2))) :=
  ed_op ha hb fun x y H2 _ r1 r2 Q q => by
    rw [rp_flat f1 r1, rp_flat f2 r2]
    exact ⟨hs, q _ _ H2 (Le.refl _) rfl (.bl _)⟩
theorem ed_isN (ha : ED K ta σ H d1) (n : ∀ v, d1 ≠ .obj v) : ED K (tOp (fun x y H Q => y = .non ∧ Q (.bl (decide (x = .non))) H) ta (tC .non)) σ H (.bl (match d1 with | .non => true | _ => false)) :=
  ed_op ha ed_non fun x y H2 _ r1 r2 Q q => by
    refine ⟨rp_non r2, ?_⟩
    cases r1 with
    | obj v => exact absurd rfl (n x)
    | _ => exact q _ _ H2 (Le.refl _) rfl (.bl _)
theorem ed_notN (ha : ED K ta σ H d1) (n : ∀ v, d1 ≠ .obj v) : ED K (tOp (fun x y H Q => y = .non ∧ Q (.bl (!decide (x = .non))) H) ta (tC .non)) σ H (.bl (match d1 with | .non => false | _ => true)) :=
  ed_op ha ed_non fun x y H2 _ r1 r2 Q q => by
    refine ⟨rp_non r2, ?_⟩
    cases r1 with
    | obj v => exact absurd rfl (n x)
    | _ => exact q _ _ H2 (Le.refl _) rfl (.bl _)
/-! tuples and lists -/
theorem rp_tup {ds : List D} (r : Rp K H v (.tup ds)) : ∃ a xs, v = .ref a ∧ SqT K H a xs ∧ Rps K H xs ds := by
  cases r with
  | tup h r => exact ⟨_, _, rfl, h, r⟩
theorem rp_lst {ds : List D} (r : Rp K H v (.lst ds)) : ∃ a xs, v = .ref a ∧ H a = some (.lst xs) ∧ NotH xs ∧ Rps K H xs ds := by
  cases r with
  | lst h n r => exact ⟨_, _, rfl, h, n, r⟩
theorem atI_rps {xs : List V} {ds : List D} {i : Int} (r : Rps K H xs ds) (h : 0 ≤ i) (e : ds[i.toNat]? = some d) : ∃ v, atI xs i = some v ∧ Rp K H v d := by
  obtain ⟨v, h1, h2⟩ := r.at e
  have ei : i = (i.toNat : Int) := by omega
  rw [ei]
  exact ⟨v, atI_nat h1, h2⟩
theorem ed_ixT {ds : List D} {i : Int} (ha : ED K ta σ H (.tup ds)) (hb : ED K tb σ H (.int i)) (h : 0 ≤ i) (e : ds[i.toNat]? = some d) : ED K (tOp (rIxT K) ta tb) σ H d :=
  ed_op ha hb fun x y H2 _ r1 r2 Q q => by
    obtain ⟨a, xs, rfl, s, r⟩ := rp_tup r1
    obtain ⟨v, h1, h2⟩ := atI_rps r h e
    exact ⟨a, xs, i, v, rfl, rp_int r2, s, h1, q v d H2 (Le.refl _) rfl h2⟩
theorem ed_ixL {ds : List D} {i : Int} (ha : ED K ta σ H (.lst ds)) (hb : ED K tb σ H (.int i)) (h : 0 ≤ i) (e : ds[i.toNat]? = some d) : ED K (tOp (rIxL K) ta tb) σ H d :=
  ed_op ha hb fun x y H2 _ r1 r2 Q q => by
    obtain ⟨a, xs, rfl, s, _, r⟩ := rp_lst r1
    obtain ⟨v, h1, h2⟩ := atI_rps r h e
    exact ⟨a, xs, i, v, rfl, rp_int r2, SqL.of s, h1, q v d H2 (Le.refl _) rfl h2⟩
theorem ea_nil : EDA K tNil σ H [] := fun H1 _ Q q => q [] [] H1 (Le.refl _) rfl .nil
theorem ep_cons {tr : TA} {PA : List D → Hp → Prop} (h : EP K ta σ H P) (hr : EA K tr σ H PA) : EA K (tCons ta tr) σ H (fun ds H2 => ∃ d r H1, ds = d :: r ∧ Le H1 H2 ∧ P d H1 ∧ PA r H2) := fun H1 e Q q =>
  h H1 e _ fun x d H2 e2 p r => hr H2 (e.trans e2) _ fun xs ds H3 e3 p3 r3 => q _ (d :: ds) H3 (e2.trans e3) ⟨d, ds, H2, rfl, e3, p, p3⟩ (.cons (r.le e3) r3)
theorem ea_cons {tr : TA} {ds : List D} (h : ED K ta σ H d) (hr : EDA K tr σ H ds) : EDA K (tCons ta tr) σ H (d :: ds) := fun H1 e Q q =>
  h H1 e _ fun x d' H2 e2 p r => hr H2 (e.trans e2) _ fun xs ds' H3 e3 p3 r3 => q _ (d' :: ds') H3 (e2.trans e3) (by rw [show d' = d from p, show ds' = ds from p3]) (.cons (r.le e3) r3)
theorem ep_tup {ta : TA} {PA : List D → Hp → Prop} (h : EA K ta σ H PA) (hl : ∀ ds H2, PA ds H2 → ds.length ≤ 100000) (hP : ∀ ds H2, PA ds H2 → ∀ H3, Le H2 H3 → P (.tup ds) H3) : EP K (tTup ta) σ H P := fun H1 e Q q =>
  h H1 e _ fun xs ds H2 e2 p r => ⟨by rw [r.len]; exact Evl.sz_of (hl ds H2 p), fun a na => q _ (.tup ds) _ (e2.trans (Le.new na)) (hP ds H2 p _ (Le.new na)) (.tup (Evl.st_of upd_same) (r.le (Le.new na)))⟩
theorem ed_tup {ta : TA} {ds : List D} (h : EDA K ta σ H ds) (hl : ds.length ≤ 100000) : ED K (tTup ta) σ H (.tup ds) :=
  ep_tup h (fun ds' H2 p => by rw [show ds' = ds from p]; exact hl) fun ds' H2 p H3 _ => by rw [show ds' = ds from p]
theorem ep_lst {ta : TA} {PA : List D → Hp → Prop} (h : EA K ta σ H PA) (hl : ∀ ds H2, PA ds H2 → ds.length ≤ 100000) (hn : ∀ ds H2 xs, PA ds H2 → Rps K H2 xs ds → NotH xs) (hP : ∀ ds H2, PA ds H2 → ∀ H3, Le H2 H3 → P (.lst ds) H3) : EP K (tLst ta) σ H P := fun H1 e Q q =>
  h H1 e _ fun xs ds H2 e2 p r => ⟨by rw [r.len]; exact Evl.sz_of (hl ds H2 p), fun a na => q _ (.lst ds) _ (e2.trans (Le.new na)) (hP ds H2 p _ (Le.new na)) (.lst upd_same (hn ds H2 xs p r) (r.le (Le.new na)))⟩
/-- what data can't be a hand -/
def calmL : List D → Bool
  | [.obj _, .int _, .int _, .int _, .int _] => false
  | [.tup _, .int _, .int _, .int _, .int _] => false
  | [.lst _, .int _, .int _, .int _, .int _] => false
  | [_, .obj _, _, _, _] => false
  | [_, _, .obj _, _, _] => false
  | [_, _, _, .obj _, _] => false
  | [_, _, _, _, .obj _] => false
  | _ => true
theorem calm_notH {xs : List V} {ds : List D} (h : calmL ds = true) (r : Rps K H xs ds) : NotH xs := fun c p x s n e => by
  subst e
  cases r with
  | cons r1 r =>
    cases r with
    | cons r2 r =>
      cases r with
      | cons r3 r =>
        cases r with
        | cons r4 r =>
          cases r with
          | cons r5 r =>
            cases r
            cases r2 <;> cases r3 <;> cases r4 <;> cases r5 <;> cases r1 <;> cases h
theorem ed_lst {ta : TA} {ds : List D} (h : EDA K ta σ H ds) (hl : ds.length ≤ 100000) (hc : calmL ds = true) : ED K (tLst ta) σ H (.lst ds) :=
  ep_lst h (fun ds' H2 p => by rw [show ds' = ds from p]; exact hl) (fun ds' H2 xs p r => by rw [show ds' = ds from p] at r; exact calm_notH hc r) fun ds' H2 p H3 _ => by rw [show ds' = ds from p]
theorem ed_lenT {ds : List D} (ha : ED K ta σ H (.tup ds)) : ED K (tCB (fun xs H Q => ∃ p ys, xs = [.ref p] ∧ (SqL K H p ys ∨ SqT K H p ys) ∧ Q (.int ys.length) H) (tCons ta tNil)) σ H (.int (ds.length : Int)) := fun H1 e Q q =>
  ha H1 e _ fun x d H2 e2 p r => by
    have p' : d = .tup ds := p
    subst p'
    obtain ⟨a, xs, rfl, s, r'⟩ := rp_tup r
    exact ⟨a, xs, rfl, .inr s, q _ _ H2 e2 (by rw [r'.len]) (.int _)⟩
theorem ed_lenL {ds : List D} (ha : ED K ta σ H (.lst ds)) : ED K (tCB (fun xs H Q => ∃ p ys, xs = [.ref p] ∧ (SqL K H p ys ∨ SqT K H p ys) ∧ Q (.int ys.length) H) (tCons ta tNil)) σ H (.int (ds.length : Int)) := fun H1 e Q q =>
  ha H1 e _ fun x d H2 e2 p r => by
    have p' : d = .lst ds := p
    subst p'
    obtain ⟨a, xs, rfl, s, _, r'⟩ := rp_lst r
    exact ⟨a, xs, rfl, .inl (SqL.of s), q _ _ H2 e2 (by rw [r'.len]) (.int _)⟩
/-! tests -/
theorem et_test {b : Bool} (h : ED K te σ H (.bl b)) : EB (tTest te) σ H b := fun H1 e Q q => h H1 e _ fun v d H2 e2 p r => by
  have p' : d = .bl b := p
  subst p'
  exact ⟨b, rp_bl r, q b H2 e2 rfl⟩
theorem et_B {b : Bool} (h : ED K te σ H (.bl b)) : EB (tB te) σ H b := fun H1 e Q q => h H1 e _ fun v d H2 e2 p r => by
  have p' : d = .bl b := p
  subst p'
  exact ⟨b, rp_bl r, q b H2 e2 rfl⟩
theorem et_Bp (h : EP K te σ H fun d _ => ∃ b, d = .bl b) : ET (tB te) σ H fun _ => True := fun H1 e Q q => h H1 e _ fun v d H2 e2 p r => by
  obtain ⟨b, rfl⟩ := p
  exact ⟨b, rp_bl r, q b H2 e2 trivial⟩
theorem et_testp (h : EP K te σ H fun d _ => ∃ b, d = .bl b) : ET (tTest te) σ H fun _ => True := fun H1 e Q q => h H1 e _ fun v d H2 e2 p r => by
  obtain ⟨b, rfl⟩ := p
  exact ⟨b, rp_bl r, q b H2 e2 trivial⟩
theorem eb_and {a b : Bool} (h1 : EB t σ H a) (h2 : a = true → EB u σ H b) : EB (tAnd t u) σ H (a && b) := fun H1 e Q q => h1 H1 e _ fun x H2 e2 p => by
  subst p
  cases x with
  | true =>
    show u σ H2 Q
    exact h2 rfl H2 (e.trans e2) Q fun y H3 e3 p3 => q y H3 (e2.trans e3) p3
  | false =>
    show Q false H2
    exact q false H2 e2 rfl
theorem eb_or {a b : Bool} (h1 : EB t σ H a) (h2 : a = false → EB u σ H b) : EB (tOr t u) σ H (a || b) := fun H1 e Q q => h1 H1 e _ fun x H2 e2 p => by
  subst p
  cases x with
  | true =>
    show Q true H2
    exact q true H2 e2 rfl
  | false =>
    show u σ H2 Q
    exact h2 rfl H2 (e.trans e2) Q fun y H3 e3 p3 => q y H3 (e2.trans e3) p3
theorem et_and {P1 P2 : Bool → Prop} (h1 : ET t σ H P1) (h2 : P1 true → ET u σ H P2) : ET (tAnd t u) σ H (fun b => (b = true ∧ P1 true ∧ P2 true) ∨ (b = false ∧ (P1 false ∨ P1 true ∧ P2 false))) := fun H1 e Q q => h1 H1 e _ fun x H2 e2 p => by
  cases x with
  | true =>
    show u σ H2 Q
    refine h2 p H2 (e.trans e2) Q fun y H3 e3 p3 => q y H3 (e2.trans e3) ?_
    cases y with
    | true => exact .inl ⟨rfl, p, p3⟩
    | false => exact .inr ⟨rfl, .inr ⟨p, p3⟩⟩
  | false =>
    show Q false H2
    exact q false H2 e2 (.inr ⟨rfl, .inl p⟩)
theorem et_weak {P1 P2 : Bool → Prop} (h : ET t σ H P1) (w : ∀ b, P1 b → P2 b) : ET t σ H P2 := fun H1 e Q q => h H1 e Q fun b H2 e2 p => q b H2 e2 (w b p)
theorem eb_not {a : Bool} (h : EB t σ H a) : EB (tNot t) σ H (!a) := fun H1 e Q q => h H1 e _ fun x H2 e2 p => q (!x) H2 e2 (by rw [p])
theorem ed_andV {a b : Bool} (h1 : ED K ta σ H (.bl a)) (h2 : a = true → ED K tb σ H (.bl b)) : ED K (tAndV ta tb) σ H (.bl (a && b)) := fun H1 e Q q => h1 H1 e _ fun v d H2 e2 p r => by
  have p' : d = .bl a := p
  subst p'
  refine ⟨a, rp_bl r, ?_⟩
  cases a with
  | true =>
    show tb σ H2 Q
    exact h2 rfl H2 (e.trans e2) Q fun v d H3 e3 p3 r3 => q v d H3 (e2.trans e3) p3 r3
  | false =>
    show Q (.bl false) H2
    exact q _ _ H2 e2 rfl (.bl false)
theorem ed_orV {a b : Bool} (h1 : ED K ta σ H (.bl a)) (h2 : a = false → ED K tb σ H (.bl b)) : ED K (tOrV ta tb) σ H (.bl (a || b)) := fun H1 e Q q => h1 H1 e _ fun v d H2 e2 p r => by
  have p' : d = .bl a := p
  subst p'
  refine ⟨a, rp_bl r, ?_⟩
  cases a with
  | true =>
    show Q (.bl true) H2
    exact q _ _ H2 e2 rfl (.bl true)
  | false =>
    show tb σ H2 Q
    exact h2 rfl H2 (e.trans e2) Q fun v d H3 e3 p3 r3 => q v d H3 (e2.trans e3) p3 r3
theorem ed_notV {a : Bool} (h : ED K ta σ H (.bl a)) : ED K (tNotV ta) σ H (.bl (!a)) := fun H1 e Q q => h H1 e _ fun v d H2 e2 p r => by
  have p' : d = .bl a := p
  subst p'
  exact ⟨a, rp_bl r, q _ _ H2 e2 rfl (.bl _)⟩
theorem ep_if {b : Bool} (h : EB t σ H b) (h1 : b = true → EP K ta σ H P) (h2 : b = false → EP K tb σ H P) : EP K (tIf t ta tb) σ H P := fun H1 e Q q => h H1 e _ fun x H2 e2 p => by
  subst p
  cases x with
  | true =>
    show ta σ H2 Q
    exact h1 rfl H2 (e.trans e2) Q fun v d H3 e3 p3 r3 => q v d H3 (e2.trans e3) p3 r3
  | false =>
    show tb σ H2 Q
    exact h2 rfl H2 (e.trans e2) Q fun v d H3 e3 p3 r3 => q v d H3 (e2.trans e3) p3 r3
/-- a <= b <= c, and the like -/
theorem ed_chain {f g : Int → Int → Bool} {i j k : Int} (ha : ED K ta σ H (.int i)) (hb : ED K tb σ H (.int j)) (hc : ED K tc σ H (.int k)) :
    ED K (tChain (rI0 fun i j => .bl (f i j)) (rI0 fun i j => .bl (g i j)) ta tb tc) σ H (.bl (f i j && g j k)) := fun H1 e Q q =>
  ha H1 e _ fun x d1 H2 e2 p1 r1 => hb H2 (e.trans e2) _ fun y d2 H3 e3 p2 r2 => by
    have p1' : d1 = .int i := p1
    have p2' : d2 = .int j := p2
    subst p1' p2'
    refine ⟨i, j, rp_int r1, rp_int r2, f i j, rfl, ?_⟩
    cases hf : f i j with
    | true =>
      show tc σ H3 _
      refine hc H3 ((e.trans e2).trans e3) _ fun z d3 H4 e4 p3 r3 => ?_
      have p3' : d3 = .int k := p3
      subst p3'
      exact ⟨j, k, rp_int r2, rp_int r3, q (.bl (g j k)) (.bl (g j k)) H4 ((e2.trans e3).trans e4) (by show D.bl _ = D.bl _; rw [hf, Bool.true_and]) (.bl _)⟩
    | false =>
      show Q (.bl false) H3
      exact q (.bl false) (.bl false) H3 (e2.trans e3) (by show D.bl _ = D.bl _; rw [hf, Bool.false_and]) (.bl false)
/-! calls -/
/-- a promise told in data: R args heap P says that the answer's data has P -/
def spD (K : PySem.W.Frag) (R : List D → Hp → Pd → Prop) : Sp := fun vs H Q _ => ∃ ds P, Rps K H vs ds ∧ R ds H P ∧ ∀ v d H2, Le H H2 → P d H2 → Rp K H2 v d → Q v H2
theorem ep_call {R : List D → Hp → Pd → Prop} {E : XK} {ta : TA} {PA : List D → Hp → Prop} (h : EA K ta σ H PA) (hr : ∀ ds H2, Le H H2 → PA ds H2 → ∃ P1, R ds H2 P1 ∧ ∀ d H3, Le H2 H3 → P1 d H3 → P d H3) : EP K (tCall (spD K R) [] E ta) σ H P := fun H1 e Q q =>
  h H1 e _ fun vs ds H2 e2 p r => by
    obtain ⟨P1, h1, w⟩ := hr ds H2 (e.trans e2) p
    exact ⟨ds, P1, by rw [List.append_nil]; exact r, h1, fun v d H3 e3 p3 r3 => q v d H3 (e2.trans e3) (w d H3 e3 p3) r3⟩
theorem ed_call {R : List D → Hp → Pd → Prop} {E : XK} {ta : TA} {ds : List D} (h : EDA K ta σ H ds) (hr : ∀ H2, Le H H2 → R ds H2 P) : EP K (tCall (spD K R) [] E ta) σ H P :=
  ep_call h fun ds' H2 e p => by
    have p' : ds' = ds := p
    subst p'
    exact ⟨P, hr H2 e, fun _ _ _ x => x⟩
end
end W1

set_option maxRecDepth 100000
set_option maxHeartbeats 4000000
/-! statements, loops, comprehensions, built-ins in data -/
namespace W1
open PySem L2

/-- no list within -/
inductive NoL : D → Prop
  | non : NoL .non
  | bl (b : Bool) : NoL (.bl b)
  | int (i : Int) : NoL (.int i)
  | str (s : Str) : NoL (.str s)
  | obj (v : V) : NoL (.obj v)
  | tup {ds : List D} : (∀ d ∈ ds, NoL d) → NoL (.tup ds)
section
variable {K : PySem.W.Frag} {H H' : Hp}
theorem sqt_upd {a l : Addr} {xs : List V} {o : HO} (hl : ∀ ys, H l ≠ some (.tup ys)) (hz : ∀ ob u, H l ≠ some (.frz ob u)) (h : SqT K H a xs) : SqT K (upd H l o) a xs := by
  rcases h with (h | ⟨ob, h⟩) | h
  · have n : a ≠ l := fun e => hl xs (e ▸ h)
    exact .inl (.inl (by rw [upd_ne n]; exact h))
  · have n : a ≠ l := fun e => hz ob _ (e ▸ h)
    exact .inl (.inr ⟨ob, by rw [upd_ne n]; exact h⟩)
  · exact .inr h
mutual
/-- a list changes: what holds no list stands -/
theorem Rp.upd {l : Addr} {ys : List V} {o : HO} (hl : H l = some (.lst ys)) {v : V} {d : D} (n : NoL d) : Rp K H v d → Rp K (L2.upd H l o) v d
  | .non => .non
  | .bl b => .bl b
  | .int i => .int i
  | .str x => .str x
  | .obj v => .obj v
  | .tup h r => .tup (sqt_upd (fun ys e => by rw [hl] at e; cases e) (fun ob u e => by rw [hl] at e; cases e) h) (Rps.upd hl (by cases n with | tup n => exact n) r)
  | .lst h _ r => nomatch n
theorem Rps.upd {l : Addr} {ys : List V} {o : HO} (hl : H l = some (.lst ys)) {vs : List V} {ds : List D} (n : ∀ d ∈ ds, NoL d) : Rps K H vs ds → Rps K (L2.upd H l o) vs ds
  | .nil => .nil
  | .cons h r => .cons (Rp.upd hl (n _ (List.mem_cons_self ..)) h) (Rps.upd hl (fun d hd => n d (List.mem_cons_of_mem _ hd)) r)
end
/-- data whose lists can't be a hand: all ints, or no int at all -/
def Uni (ds : List D) : Prop := (∀ d ∈ ds, ∃ i, d = .int i) ∨ ∀ d ∈ ds, (∀ i, d ≠ .int i) ∧ ∀ v, d ≠ .obj v
theorem Uni.notH {ds : List D} {vs : List V} (u : Uni ds) (r : Rps K H vs ds) : NotH vs := fun c p x s n e => by
  subst e
  cases r with
  | @cons _ _ d1 ds1 r1 r =>
    cases r with
    | @cons _ _ d2 ds2 r2 r =>
      rcases u with u | u
      · obtain ⟨i, e⟩ := u d1 (List.mem_cons_self ..)
        subst e
        cases r1
      · obtain ⟨h1, h2⟩ := u d2 (List.mem_cons_of_mem _ (List.mem_cons_self ..))
        cases r2 with
        | int i => exact h1 _ rfl
        | obj v => exact h2 _ rfl
theorem Uni.app {ds : List D} {d : D} (u : Uni (ds ++ [d])) : Uni ds := by
  rcases u with u | u
  · exact .inl fun x hx => u x (List.mem_append_left _ hx)
  · exact .inr fun x hx => u x (List.mem_append_left _ hx)
theorem uni_ints (ns : List Int) : Uni (ns.map D.int) := .inl fun d hd => by
  obtain ⟨i, _, rfl⟩ := List.mem_map.mp hd
  exact ⟨i, rfl⟩
theorem noL_ints (ns : List Int) : ∀ d ∈ ns.map D.int, NoL d := fun d hd => by
  obtain ⟨i, _, rfl⟩ := List.mem_map.mp hd
  exact .int i
end

/-! ### statements -/
section
variable {K : PySem.W.Frag} {σ : L2.St} {H H' : Hp} {ta tb tc te : TE} {t u : TT} {x y z v : V} {d d1 d2 d3 : D} {P P1 P2 P3 : Pd} {D1 : Ends} {tu tw : TS} {g : TG}
theorem s_asg {i : Nat} (h : EP K te σ H P) (k : ∀ v d H1, Le H H1 → P d H1 → Rp K H1 v d → D1.nx (σ.set i (some v)) H1) : tAsg te (gName i) D1 σ H := h H (Le.refl _) _ k
theorem s_asgD {i : Nat} (h : ED K te σ H d) (k : ∀ v H1, Le H H1 → Rp K H1 v d → D1.nx (σ.set i (some v)) H1) : tAsg te (gName i) D1 σ H := h H (Le.refl _) _ fun v d' H1 e p r => by
  have p' : d' = d := p
  subst p'
  exact k v H1 e r
theorem s_tup2 {i j : Nat} (h : ED K te σ H (.tup [d1, d2])) (k : ∀ v w H1, Le H H1 → Rp K H1 v d1 → Rp K H1 w d2 → D1.nx ((σ.set i (some v)).set j (some w)) H1) : tAsg te (gTup K 2 (gCons (gName i) (gCons (gName j) gNil))) D1 σ H := h H (Le.refl _) _ fun v d' H1 e p r => by
  have p' : d' = .tup [d1, d2] := p
  subst p'
  obtain ⟨a, xs, rfl, s, r⟩ := rp_tup r
  cases r with
  | cons r1 r =>
    cases r with
    | cons r2 r =>
      cases r
      exact ⟨a, _, rfl, s, rfl, _, _, rfl, _, _, rfl, rfl, k _ _ H1 e r1 r2⟩
theorem s_tup3 {i j l : Nat} {PA : List D → Hp → Prop} {ta : TA} (h : EA K ta σ H PA) (hl : ∀ ds H1, PA ds H1 → ds.length = 3)
    (k : ∀ v w u d1 d2 d3 H1, Le H H1 → PA [d1, d2, d3] H1 → Rp K H1 v d1 → Rp K H1 w d2 → Rp K H1 u d3 → ∀ H2, Le H1 H2 → D1.nx (((σ.set i (some v)).set j (some w)).set l (some u)) H2) : tAsg (tTup ta) (gTup K 3 (gCons (gName i) (gCons (gName j) (gCons (gName l) gNil)))) D1 σ H := h H (Le.refl _) _ fun vs ds H1 e p r => by
  have l3 := hl ds H1 p
  refine ⟨by rw [r.len, l3]; decide, fun a na => ?_⟩
  cases r with
  | nil => cases l3
  | cons r1 r =>
    cases r with
    | nil => cases l3
    | cons r2 r =>
      cases r with
      | nil => cases l3
      | cons r3 r =>
        cases r with
        | cons _ _ =>
          simp at l3
        | nil => exact ⟨a, _, rfl, Evl.st_of upd_same, rfl, _, _, rfl, _, _, rfl, _, _, rfl, rfl, k _ _ _ _ _ _ H1 e p r1 r2 r3 _ (Le.new na)⟩
theorem s_par2 {i j : Nat} {ta : TA} {PA : List D → Hp → Prop} (h : EA K ta σ H PA) (hl : ∀ ds H1, PA ds H1 → ds.length = 2)
    (k : ∀ v w d1 d2 H1, Le H H1 → PA [d1, d2] H1 → Rp K H1 v d1 → Rp K H1 w d2 → D1.nx ((σ.set i (some v)).set j (some w)) H1) : tPar i j ta D1 σ H := h H (Le.refl _) _ fun vs ds H1 e p r => by
  have l2 := hl ds H1 p
  cases r with
  | nil => cases l2
  | cons r1 r =>
    cases r with
    | nil => cases l2
    | cons r2 r =>
      cases r with
      | nil => exact ⟨_, _, rfl, k _ _ _ _ H1 e p r1 r2⟩
      | cons _ _ => simp at l2
theorem s_ret (h : EP K te σ H P) (k : ∀ v d H1, Le H H1 → P d H1 → Rp K H1 v d → D1.rt v H1) : tRet te D1 σ H := h H (Le.refl _) _ k
theorem s_retD (h : ED K te σ H d) (k : ∀ v H1, Le H H1 → Rp K H1 v d → D1.rt v H1) : tRet te D1 σ H := h H (Le.refl _) _ fun v d' H1 e p r => by
  have p' : d' = d := p
  subst p'
  exact k v H1 e r
theorem s_drop (h : EP K te σ H P) (k : ∀ H1, Le H H1 → D1.nx σ H1) : tDrop te D1 σ H := h H (Le.refl _) _ fun _ _ H1 e _ _ => k H1 e
theorem s_if {P : Bool → Prop} (h : ET t σ H P) (h1 : P true → ∀ H1, Le H H1 → tu D1 σ H1) (h2 : P false → ∀ H1, Le H H1 → tw D1 σ H1) : tIfS t tu tw D1 σ H := h H (Le.refl _) _ fun b H1 e p => by
  cases b with
  | true =>
    show tu D1 σ H1
    exact h1 p H1 e
  | false =>
    show tw D1 σ H1
    exact h2 p H1 e
theorem s_ifB {b : Bool} (h : EB t σ H b) (h1 : b = true → ∀ H1, Le H H1 → tu D1 σ H1) (h2 : b = false → ∀ H1, Le H H1 → tw D1 σ H1) : tIfS t tu tw D1 σ H :=
  s_if h (fun p => h1 p.symm) fun p => h2 p.symm
theorem s_skip (k : D1.nx σ H) : tNext D1 σ H := k
/-- xs[i] = e on a list of one's own -/
theorem s_set {l : Addr} {vs : List V} {ds : List D} {i : Int} (hl : H l = some (.lst vs)) (nh : NotH vs) (hr : vs.length = ds.length) (h : EP K te σ H P) (ho : ∀ H1, Le H H1 → ED K ta σ H1 (.obj (.ref l))) (hi : ∀ H1, Le H H1 → ED K tb σ H1 (.int i)) (h0 : 0 ≤ i) (hj : i < ds.length)
    (k : ∀ y d H1 H3, Le H H1 → P d H1 → Le H1 H3 → Rp K H3 y d → H3 l = some (.lst vs) → D1.nx σ (upd H3 l (.lst (vs.set i.toNat y)))) : tAsg te (gSub ta tb rSetL) D1 σ H := h H (Le.refl _) _ fun y d H1 e1 p r =>
  ho H1 e1 H1 (Le.refl _) _ fun o d2 H2 e2 p2 r2 => hi H1 e1 H2 e2 _ fun z d3 H3 e3 p3 r3 => by
    have p2' : d2 = .obj (.ref l) := p2
    have p3' : d3 = .int i := p3
    subst p2' p3'
    have l3 := ((e1.trans e2).trans e3).lst hl nh
    refine ⟨l, vs, i, i.toNat, rp_obj r2, rp_int r3, l3, ?_, k y d H1 H3 e1 p (e2.trans e3) (r.le (e2.trans e3)) l3⟩
    unfold ixN
    rw [if_pos h0, if_pos (by rw [hr]; exact hj)]
/-- xs.append(e) on a list of one's own -/
theorem s_app {l : Addr} {vs : List V} (hl : H l = some (.lst vs)) (nh : NotH vs) (ha : ED K ta σ H (.obj (.ref l))) (h : ∀ H1, Le H H1 → EP K te σ H1 P) (hz : vs.length < 100000)
    (k : ∀ y d H1, Le H H1 → P d H1 → Rp K H1 y d → H1 l = some (.lst vs) → D1.nx σ (upd H1 l (.lst (vs ++ [y])))) : tDrop (tBM K "list" rAppend ta (tCons te tNil)) D1 σ H := ha H (Le.refl _) _ fun o d1 H1 e1 p1 r1 => by
  have p1' : d1 = .obj (.ref l) := p1
  subst p1'
  have eo := rp_obj r1
  subst eo
  refine ⟨.inl ⟨rfl, vs, Evl.sq_of (e1.lst hl nh)⟩, h H1 e1 H1 (Le.refl _) _ fun y d H2 e2 p r => ?_⟩
  have l2 := (e1.trans e2).lst hl nh
  exact ⟨l, vs, y, rfl, rfl, l2, Evl.sz_lt hz, k y d H2 (e1.trans e2) p r l2⟩
/-- xs.extend(e), e a list -/
theorem s_ext {l : Addr} {vs : List V} {ds : List D} (hl : H l = some (.lst vs)) (nh : NotH vs) (ha : ED K ta σ H (.obj (.ref l))) (h : ∀ H1, Le H H1 → ED K te σ H1 (.lst ds)) (hz : vs.length + ds.length ≤ 100000)
    (k : ∀ ws H1, Le H H1 → Rps K H1 ws ds → H1 l = some (.lst vs) → D1.nx σ (upd H1 l (.lst (vs ++ ws)))) : tDrop (tBM K "list" rExtend ta (tCons te tNil)) D1 σ H := ha H (Le.refl _) _ fun o d1 H1 e1 p1 r1 => by
  have p1' : d1 = .obj (.ref l) := p1
  subst p1'
  have eo := rp_obj r1
  subst eo
  refine ⟨.inl ⟨rfl, vs, Evl.sq_of (e1.lst hl nh)⟩, h H1 e1 H1 (Le.refl _) _ fun y d H2 e2 p r => ?_⟩
  have p' : d = .lst ds := p
  subst p'
  obtain ⟨b, ws, rfl, hb, _, rr⟩ := rp_lst r
  have l2 := (e1.trans e2).lst hl nh
  exact ⟨l, b, vs, ws, rfl, rfl, l2, hb, by rw [rr.len]; exact Evl.sz_of hz, k ws H2 (e1.trans e2) rr l2⟩
end

/-! ### what stands for tuples, whatever lists do -/
structure LeT (H H' : Hp) : Prop where
  tup : ∀ a xs, H a = some (.tup xs) → H' a = some (.tup xs)
  frz : ∀ a o u, H a = some (.frz o u) → H' a = some (.frz o u)
  ins : ∀ a C dx fs, H a = some (.ins C dx fs) → H' a = some (.ins C dx fs)
theorem LeT.refl (H : Hp) : LeT H H := ⟨fun _ _ h => h, fun _ _ _ h => h, fun _ _ _ _ h => h⟩
theorem LeT.trans {H H1 H2 : Hp} (a : LeT H H1) (b : LeT H1 H2) : LeT H H2 := ⟨fun x xs h => b.tup x xs (a.tup x xs h), fun x o u h => b.frz x o u (a.frz x o u h), fun x C dx fs h => b.ins x C dx fs (a.ins x C dx fs h)⟩
theorem Le.t {H H' : Hp} (e : Le H H') : LeT H H' := ⟨fun _ _ h => e.tup h, fun _ _ _ h => e.frz h, fun _ _ _ _ h => e.ins h⟩
theorem LeT.upd {H : Hp} {l : Addr} {ys : List V} {o : HO} (hl : H l = some (.lst ys)) : LeT H (L2.upd H l o) := by
  refine ⟨fun a xs h => ?_, fun a o u h => ?_, fun a C dx fs h => ?_⟩
  all_goals
    have n : a ≠ l := fun e => by
      rw [e, hl] at h
      cases h
    rw [upd_ne n]
    exact h
theorem LeT.sqt {K : PySem.W.Frag} {H H' : Hp} {a : Addr} {xs : List V} (e : LeT H H') (h : SqT K H a xs) : SqT K H' a xs := by
  rcases h with (h | ⟨o, h⟩) | h
  · exact .inl (.inl (e.tup _ _ h))
  · exact .inl (.inr ⟨o, e.frz _ _ _ h⟩)
  · exact .inr h
section
variable {K : PySem.W.Frag} {H H' : Hp}
mutual
theorem Rp.leT (e : LeT H H') {v : V} {d : D} (n : NoL d) : Rp K H v d → Rp K H' v d
  | .non => .non
  | .bl b => .bl b
  | .int i => .int i
  | .str x => .str x
  | .obj v => .obj v
  | .tup h r => .tup (e.sqt h) (Rps.leT e (by cases n with | tup n => exact n) r)
  | .lst h _ r => nomatch n
theorem Rps.leT (e : LeT H H') {vs : List V} {ds : List D} (n : ∀ d ∈ ds, NoL d) : Rps K H vs ds → Rps K H' vs ds
  | .nil => .nil
  | .cons h r => .cons (Rp.leT e (n _ (List.mem_cons_self ..)) h) (Rps.leT e (fun d hd => n d (List.mem_cons_of_mem _ hd)) r)
end
end

/-! ### loops -/
section
variable {K : PySem.W.Frag} {σ : L2.St} {H H' : Hp} {ta tb tc te : TE} {t u : TT} {d d1 d2 d3 : D} {P P1 P2 P3 : Pd} {D1 : Ends} {tu tw : TS} {g : TG}
abbrev bodyEnds (D1 : Ends) (N : L2.St → Hp → Prop) : Ends := { D1 with nx := N, ct := N, bk := D1.nx }
theorem s_forT {ds : List D} (h : ED K te σ H (.tup ds)) (nl : ∀ d ∈ ds, NoL d)
    (k : ∀ H1, Le H H1 → ∃ Pv : Nat → L2.St → Hp → Prop, Pv 0 σ H1 ∧ (∀ i σ' H', i ≤ ds.length → Pv i σ' H' → LeT H1 H') ∧
      (∀ i d v σ' H', ds[i]? = some d → Rp K H' v d → Pv i σ' H' → g v σ' H' fun σ2 H2 => tu (bodyEnds D1 (Pv (i + 1))) σ2 H2) ∧ ∀ σ' H', Pv ds.length σ' H' → D1.nx σ' H') : tFor (iTup K te) g tu D1 σ H := h H (Le.refl _) _ fun v d0 H1 e p r => by
  have p' : d0 = .tup ds := p
  subst p'
  obtain ⟨a, xs, rfl, s, rr⟩ := rp_tup r
  obtain ⟨Pv, h0, hle, hs, hd⟩ := k H1 e
  refine ⟨a, rfl, ⟨xs, s⟩, for_it (walk_tup (xs := xs)) Pv h0 (fun i σ' H' hi q => (hle i σ' H' (by rw [← rr.len]; exact hi) q).sqt s) ?_ (fun σ' H' q => hd σ' H' (by rw [← rr.len]; exact q))⟩
  rintro i x σ' H' _ hi q ⟨rfl, hx⟩
  obtain ⟨d, h1, h2⟩ := rr.at' hx
  exact hs i d x σ' _ h1 (h2.leT (hle i σ' _ (by rw [← rr.len]; omega) q) (nl d (List.mem_of_getElem? h1))) q
theorem s_forL {ds : List D} (h : ED K te σ H (.lst ds)) (nl : ∀ d ∈ ds, NoL d)
    (k : ∀ a vs H1, Le H H1 → H1 a = some (.lst vs) → Rps K H1 vs ds → ∃ Pv : Nat → L2.St → Hp → Prop, Pv 0 σ H1 ∧ (∀ i σ' H', i ≤ ds.length → Pv i σ' H' → LeT H1 H' ∧ H' a = some (.lst vs)) ∧
      (∀ i d v σ' H', ds[i]? = some d → Rp K H' v d → Pv i σ' H' → g v σ' H' fun σ2 H2 => tu (bodyEnds D1 (Pv (i + 1))) σ2 H2) ∧ ∀ σ' H', Pv ds.length σ' H' → D1.nx σ' H') : tFor (iList K te) g tu D1 σ H := h H (Le.refl _) _ fun v d0 H1 e p r => by
  have p' : d0 = .lst ds := p
  subst p'
  obtain ⟨a, xs, rfl, s, nh, rr⟩ := rp_lst r
  obtain ⟨Pv, h0, hle, hs, hd⟩ := k a xs H1 e s rr
  refine ⟨a, rfl, ⟨xs, SqL.of s⟩, for_it (walk_list (xs := xs)) Pv h0 (fun i σ' H' hi q => SqL.of (hle i σ' H' (by rw [← rr.len]; exact hi) q).2) ?_ (fun σ' H' q => hd σ' H' (by rw [← rr.len]; exact q))⟩
  rintro i x σ' H' _ hi q ⟨rfl, hx⟩
  obtain ⟨d, h1, h2⟩ := rr.at' hx
  exact hs i d x σ' _ h1 (h2.leT (hle i σ' _ (by rw [← rr.len]; omega) q).1 (nl d (List.mem_of_getElem? h1))) q
theorem s_forR1 {ta : TA} {n : Int} (h : EDA K ta σ H [.int n]) (hn : -100000 ≤ n ∧ n ≤ 100000)
    (k : ∀ H1, Le H H1 → ∃ Pv : Nat → L2.St → Hp → Prop, Pv 0 σ H1 ∧
      (∀ (i : Nat) σ' H', (i : Int) < n → Pv i σ' H' → g (.int (i : Int)) σ' H' fun σ2 H2 => tu (bodyEnds D1 (Pv (i + 1))) σ2 H2) ∧ ∀ σ' H', Pv n.toNat σ' H' → D1.nx σ' H') : tFor (iRng1 ta) g tu D1 σ H := h H (Le.refl _) _ fun vs ds H1 e p r => by
  have p' : ds = [.int n] := p
  subst p'
  cases r with
  | cons r1 r =>
    cases r
    have e1 := rp_int r1
    subst e1
    obtain ⟨Pv, h0, hs, hd⟩ := k H1 e
    refine ⟨n, rfl, by omega, by omega, for_it (walk_range (lo := 0) (n := n.toNat)) Pv h0 (fun _ _ _ _ _ => trivial) ?_ hd⟩
    rintro i x σ' H' _ hi q ⟨rfl, rfl⟩
    have e0 : (0 : Int) + (i : Int) = (i : Int) := Int.zero_add _
    dsimp only
    rw [e0]
    exact hs i σ' _ (by omega) q
theorem s_forR2 {ta : TA} {lo n : Int} (h : EDA K ta σ H [.int lo, .int n]) (hl : -100000 ≤ lo ∧ lo ≤ 100000 ∧ -100000 ≤ n ∧ n ≤ 100000)
    (k : ∀ H1, Le H H1 → ∃ Pv : Nat → L2.St → Hp → Prop, Pv 0 σ H1 ∧
      (∀ (i : Nat) σ' H', lo + (i : Int) < n → Pv i σ' H' → g (.int (lo + (i : Int))) σ' H' fun σ2 H2 => tu (bodyEnds D1 (Pv (i + 1))) σ2 H2) ∧ ∀ σ' H', Pv (n - lo).toNat σ' H' → D1.nx σ' H') : tFor (iRng2 ta) g tu D1 σ H := h H (Le.refl _) _ fun vs ds H1 e p r => by
  have p' : ds = [.int lo, .int n] := p
  subst p'
  cases r with
  | cons r1 r =>
    cases r with
    | cons r2 r =>
      cases r
      have e1 := rp_int r1
      subst e1
      have e2 := rp_int r2
      subst e2
      obtain ⟨Pv, h0, hs, hd⟩ := k H1 e
      refine ⟨lo, n, rfl, by omega, for_it (walk_range (lo := lo) (n := (n - lo).toNat)) Pv h0 (fun _ _ _ _ _ => trivial) ?_ hd⟩
      rintro i x σ' H' _ hi q ⟨rfl, rfl⟩
      exact hs i σ' _ (by omega) q
/-- for i, g in enumerate(a tuple) -/
theorem s_forE {ta : TA} {j : Nat} {ds : List D} (h : EDA K ta σ H [.tup ds]) (nl : ∀ d ∈ ds, NoL d)
    (k : ∀ H1, Le H H1 → ∃ Pv : Nat → L2.St → Hp → Prop, Pv 0 σ H1 ∧ (∀ i σ' H', i ≤ ds.length → Pv i σ' H' → LeT H1 H') ∧
      (∀ (i : Nat) d v σ' H' H2, ds[i]? = some d → Pv i σ' H' → Le H' H2 → Rp K H2 v d → g v (σ'.set j (some (.int (i : Int)))) H2 fun σ2 H3 => gNil [] σ2 H3 fun σ4 H4 => tu (bodyEnds D1 (Pv (i + 1))) σ4 H4) ∧ ∀ σ' H', Pv ds.length σ' H' → D1.nx σ' H') :
    tFor (iEnumT K ta) (gTup K 2 (gCons (gName j) (gCons g gNil))) tu D1 σ H := h H (Le.refl _) _ fun vs es H1 e p r => by
  have p' : es = [.tup ds] := p
  subst p'
  cases r with
  | cons r1 r =>
    cases r
    obtain ⟨a, xs, rfl, s, rr⟩ := rp_tup r1
    obtain ⟨Pv, h0, hle, hs, hd⟩ := k H1 e
    refine ⟨a, xs, rfl, s, for_it (walk_enT (xs := xs)) Pv h0 (fun i σ' H' hi q => (hle i σ' H' (by rw [← rr.len]; exact hi) q).sqt s) ?_ (fun σ' H' q => hd σ' H' (by rw [← rr.len]; exact q))⟩
    rintro i x σ' H' H2 hi q ⟨T, x1, x2, rfl, nT, rfl, f1, f2⟩
    have ex : x1 = .int (i : Nat) := (Option.some.inj f1).symm
    subst ex
    obtain ⟨d, h1, h2⟩ := rr.at' f2
    have e2 : Le H' (upd H' T (.tup [.int (i : Nat), x2])) := Le.new nT
    have r2 := (h2.leT (hle i σ' _ (by rw [← rr.len]; omega) q) (nl d (List.mem_of_getElem? h1))).le e2
    exact ⟨T, _, rfl, Evl.st_of upd_same, rfl, _, _, rfl, _, _, rfl, hs i d x2 σ' _ _ h1 q e2 r2⟩
end

/-! ### comprehensions -/
section
variable {K : PySem.W.Frag} {σ : L2.St} {H H' : Hp} {ta tb tc te : TE} {tt : TT} {d d1 d2 d3 : D} {P P1 P2 P3 : Pd} {g : TG} {vs : List Nat}
/-- what a comprehension's list holds behind i turns: I i acc -/
def CI (K : PySem.W.Frag) (H : Hp) (L : Addr) (I : Nat → List D → Prop) (i : Nat) (H' : Hp) : Prop := H L = none ∧ Le H H' ∧ ∃ ws acc, H' L = some (.lst ws) ∧ Rps K H' ws acc ∧ I i acc
structure Good (I : Nat → List D → Prop) : Prop where
  uni : ∀ i acc, I i acc → Uni acc
  noL : ∀ i acc, I i acc → ∀ d ∈ acc, NoL d
  len : ∀ i acc, I i acc → acc.length ≤ 50000
theorem ci_turn {I : Nat → List D → Prop} (G : Good I) {L : Addr} {i : Nat} {σ2 : L2.St} {PT : Bool → Prop} (q : CI K H L I i H') (ht : ∀ acc, I i acc → ET tt σ2 H PT)
    (he : ∀ acc, I i acc → PT true → EP K te σ2 H (fun d _ => I (i + 1) (acc ++ [d]) ∧ NoL d)) (hf : ∀ acc, I i acc → PT false → I (i + 1) acc) :
    tt σ2 H' fun b H3 => if b = true then te σ2 H3 fun y H4 => ∃ ac, H4 L = some (.lst ac) ∧ ac.length < sizeLine ∧ CI K H L I (i + 1) (upd H4 L (.lst (ac ++ [y]))) else CI K H L I (i + 1) H3 := by
  obtain ⟨q1, q2, ws, acc, q3, q4, q5⟩ := q
  have nh : NotH ws := (G.uni i acc q5).notH q4
  refine ht acc q5 H' q2 _ fun b H3 e3 p3 => ?_
  cases b with
  | true =>
    show te σ2 H3 _
    refine he acc q5 p3 H3 (q2.trans e3) _ fun y d H4 e4 p4 r4 => ?_
    have l4 := (e3.trans e4).lst q3 nh
    refine ⟨ws, l4, Evl.sz_lt (by rw [q4.len]; have := G.len i acc q5; omega), q1, ((q2.trans e3).trans e4).mut q1, ws ++ [y], acc ++ [d], upd_same, ?_, p4.1⟩
    exact ((q4.le (e3.trans e4)).upd l4 (G.noL i acc q5)).app (.cons (r4.upd l4 p4.2) .nil)
  | false =>
    show CI K H L I (i + 1) H3
    exact ⟨q1, q2.trans e3, ws, acc, e3.lst q3 nh, q4.le e3, hf acc q5 p3⟩
theorem ci_start {I : Nat → List D → Prop} {L : Addr} (h : H L = none) (h0 : I 0 []) : CI K H L I 0 (upd H L (.lst [])) := ⟨h, Le.new h, [], [], upd_same, .nil, h0⟩
theorem ci_end {I : Nat → List D → Prop} (G : Good I) {L : Addr} {n : Nat} {Q : VK} (q : CI K H L I n H') (k : ∀ v d H2, Le H H2 → (∃ acc, d = .lst acc ∧ I n acc) → Rp K H2 v d → Q v H2) : Q (.ref L) H' := by
  obtain ⟨q1, q2, ws, acc, q3, q4, q5⟩ := q
  exact k _ (.lst acc) H' q2 ⟨acc, rfl, q5⟩ (.lst q3 ((G.uni n acc q5).notH q4) q4)
/-- over a tuple; the target is a name -/
theorem ep_lcT {ds : List D} {j : Nat} {I : Nat → List D → Prop} {PT : Nat → D → Bool → Prop} (G : Good I) (h : ED K ta σ H (.tup ds)) (hw : ∀ x, wipe ((wipe σ vs).set j (some x)) vs = wipe σ vs) (h0 : I 0 [])
    (ht : ∀ (i : Nat) d v acc H1, Le H H1 → ds[i]? = some d → Rp K H1 v d → I i acc → ET tt ((wipe σ vs).set j (some v)) H1 (PT i d))
    (he : ∀ (i : Nat) d v acc H1, Le H H1 → ds[i]? = some d → Rp K H1 v d → I i acc → PT i d true → EP K te ((wipe σ vs).set j (some v)) H1 (fun d' _ => I (i + 1) (acc ++ [d']) ∧ NoL d'))
    (hf : ∀ (i : Nat) d acc, ds[i]? = some d → I i acc → PT i d false → I (i + 1) acc) : EP K (tLc (iTup K ta) (gName j) tt te vs) σ H (fun d _ => ∃ acc, d = .lst acc ∧ I ds.length acc) := fun H1 e Q q => h H1 e _ fun v d0 H2 e2 p r => by
  have p' : d0 = .tup ds := p
  subst p'
  obtain ⟨a, xs, rfl, s, rr⟩ := rp_tup r
  refine ⟨a, rfl, ⟨xs, s⟩, fun L hL => lc_it (walk_tup (xs := xs)) (CI K H2 L I) (ci_start hL h0) (fun i H' _ c => c.2.1.sqt s) ?_ (fun H' c => ?_)⟩
  · rintro i x H' _ hi c ⟨rfl, hx⟩
    obtain ⟨d, h1, h2⟩ := rr.at' hx
    exact ⟨hw x, ci_turn G c (fun acc ia => ht i d x acc H2 (e.trans e2) h1 h2 ia) (fun acc ia pt => he i d x acc H2 (e.trans e2) h1 h2 ia pt) (fun acc ia pt => hf i d acc h1 ia pt)⟩
  · rw [rr.len] at c
    exact ci_end G c fun v d H3 e3 p r => q v d H3 (e2.trans e3) p r
/-- over a list; the target is a name -/
theorem ep_lcL {ds : List D} {j : Nat} {I : Nat → List D → Prop} {PT : Nat → D → Bool → Prop} (G : Good I) (h : ED K ta σ H (.lst ds)) (hw : ∀ x, wipe ((wipe σ vs).set j (some x)) vs = wipe σ vs) (h0 : I 0 [])
    (ht : ∀ (i : Nat) d v acc H1, Le H H1 → ds[i]? = some d → Rp K H1 v d → I i acc → ET tt ((wipe σ vs).set j (some v)) H1 (PT i d))
    (he : ∀ (i : Nat) d v acc H1, Le H H1 → ds[i]? = some d → Rp K H1 v d → I i acc → PT i d true → EP K te ((wipe σ vs).set j (some v)) H1 (fun d' _ => I (i + 1) (acc ++ [d']) ∧ NoL d'))
    (hf : ∀ (i : Nat) d acc, ds[i]? = some d → I i acc → PT i d false → I (i + 1) acc) : EP K (tLc (iList K ta) (gName j) tt te vs) σ H (fun d _ => ∃ acc, d = .lst acc ∧ I ds.length acc) := fun H1 e Q q => h H1 e _ fun v d0 H2 e2 p r => by
  have p' : d0 = .lst ds := p
  subst p'
  obtain ⟨a, xs, rfl, s, nh, rr⟩ := rp_lst r
  refine ⟨a, rfl, ⟨xs, SqL.of s⟩, fun L hL => lc_it (walk_list (xs := xs)) (CI K H2 L I) (ci_start hL h0) (fun i H' _ c => SqL.of (c.2.1.lst s nh)) ?_ (fun H' c => ?_)⟩
  · rintro i x H' _ hi c ⟨rfl, hx⟩
    obtain ⟨d, h1, h2⟩ := rr.at' hx
    exact ⟨hw x, ci_turn G c (fun acc ia => ht i d x acc H2 (e.trans e2) h1 h2 ia) (fun acc ia pt => he i d x acc H2 (e.trans e2) h1 h2 ia pt) (fun acc ia pt => hf i d acc h1 ia pt)⟩
  · rw [rr.len] at c
    exact ci_end G c fun v d H3 e3 p r => q v d H3 (e2.trans e3) p r
/-- over range(n) -/
theorem ep_lcR1 {ra : TA} {n : Int} {j : Nat} {I : Nat → List D → Prop} {PT : Nat → Bool → Prop} (G : Good I) (h : EDA K ra σ H [.int n]) (hn : 0 ≤ n ∧ n ≤ 50000) (hw : ∀ x, wipe ((wipe σ vs).set j (some x)) vs = wipe σ vs) (h0 : I 0 [])
    (ht : ∀ (i : Nat) acc H1, Le H H1 → (i : Int) < n → I i acc → ET tt ((wipe σ vs).set j (some (.int (i : Int)))) H1 (PT i))
    (he : ∀ (i : Nat) acc H1, Le H H1 → (i : Int) < n → I i acc → PT i true → EP K te ((wipe σ vs).set j (some (.int (i : Int)))) H1 (fun d' _ => I (i + 1) (acc ++ [d']) ∧ NoL d'))
    (hf : ∀ (i : Nat) acc, (i : Int) < n → I i acc → PT i false → I (i + 1) acc) : EP K (tLc (iRng1 ra) (gName j) tt te vs) σ H (fun d _ => ∃ acc, d = .lst acc ∧ I n.toNat acc) := fun H1 e Q q => h H1 e _ fun ws ds H2 e2 p r => by
  have p' : ds = [.int n] := p
  subst p'
  cases r with
  | cons r1 r =>
    cases r
    have e1 := rp_int r1
    subst e1
    refine ⟨n, rfl, by omega, by omega, fun L hL => lc_it (walk_range (lo := 0) (n := n.toNat)) (CI K H2 L I) (ci_start hL h0) (fun _ _ _ _ => trivial) ?_ (fun H' c => ?_)⟩
    · rintro i x H' _ hi c ⟨rfl, rfl⟩
      have e0 : (0 : Int) + (i : Int) = (i : Int) := Int.zero_add _
      dsimp only
      rw [e0]
      exact ⟨hw _, ci_turn G c (fun acc ia => ht i acc H2 (e.trans e2) (by omega) ia) (fun acc ia pt => he i acc H2 (e.trans e2) (by omega) ia pt) (fun acc ia pt => hf i acc (by omega) ia pt)⟩
    · exact ci_end G c fun v d H3 e3 p r => q v d H3 (e2.trans e3) p r
end
end W1

set_option maxRecDepth 100000
set_option maxHeartbeats 4000000
/-! built-ins in data -/
namespace W1
open PySem L2
def cutG {α : Type} (xs : List α) (lo hi : Option Int) : List α := (xs.drop (HT.sIx xs.length 0 lo)).take (HT.sIx xs.length xs.length hi - HT.sIx xs.length 0 lo)
theorem cutG_hi {α : Type} (xs : List α) (n : Int) (h : 0 ≤ n) : cutG xs none (some n) = xs.take n.toNat := by
  unfold cutG
  have e : n = ((n.toNat : Nat) : Int) := by omega
  rw [e, HT.sIx_nat, HT.sIx_none, List.drop_zero, Nat.sub_zero, Int.toNat_natCast]
  rw [List.take_eq_take_iff]
  omega
theorem cutG_lo {α : Type} (xs : List α) (n : Int) (h : 0 ≤ n) : cutG xs (some n) none = xs.drop n.toNat := by
  unfold cutG
  have e : n = ((n.toNat : Nat) : Int) := by omega
  rw [e, HT.sIx_nat, HT.sIx_none, Int.toNat_natCast]
  by_cases hl : n.toNat ≤ xs.length
  · rw [Nat.min_eq_left hl]
    exact List.take_of_length_le (by rw [List.length_drop]; exact Nat.le_refl _)
  · rw [Nat.min_eq_right (by omega), List.drop_of_length_le (Nat.le_refl _), List.drop_of_length_le (by omega), List.take_nil]
theorem cutG_two {α : Type} (xs : List α) (a b : Int) (h : 0 ≤ a) (h2 : 0 ≤ b) : cutG xs (some a) (some b) = (xs.drop a.toNat).take (b.toNat - a.toNat) := by
  unfold cutG
  have e : a = ((a.toNat : Nat) : Int) := by omega
  have e2 : b = ((b.toNat : Nat) : Int) := by omega
  rw [e, e2, HT.sIx_nat, HT.sIx_nat, Int.toNat_natCast, Int.toNat_natCast]
  by_cases hl : a.toNat ≤ xs.length
  · rw [Nat.min_eq_left hl, List.take_eq_take_iff, List.length_drop]
    omega
  · rw [Nat.min_eq_right (show xs.length ≤ a.toNat by omega), List.drop_of_length_le (Nat.le_refl _), List.drop_of_length_le (by omega), List.take_nil, List.take_nil]
theorem rps_cut {K : PySem.W.Frag} {H : Hp} {vs : List V} {ds : List D} (lo hi : Option Int) (r : Rps K H vs ds) : Rps K H (cutV vs lo hi) (cutG ds lo hi) := by
  unfold cutV cutG
  rw [r.len]
  exact (r.drop _).take _
theorem cutG_all {α : Type} (xs : List α) (lo hi : Option Int) (h : HT.sIx xs.length 0 lo = 0 ∧ HT.sIx xs.length xs.length hi = xs.length) : cutG xs lo hi = xs := by
  unfold cutG
  rw [h.1, h.2, List.drop_zero, Nat.sub_zero, List.take_length]

/-! ### a tuple times a number from 1 on -/
section
open PySem.Spec PyProof.Rows
theorem mul1_tup (l : Addr) (items : Array Value) (n : Nat) (dd : Option Addr) (sl : Array (Option Value)) (u : Tok) :
    Meets (Builtin.«tuple.__mul__» ⟨[.ref l, .int 1 u], []⟩) (fun _ R s => s.heap.get? l = some { cls := .type "tuple", dict := dd, data := .seq items n, slots := sl } ∧ R (.ok (.ret (Value.ref l))) s) := by
  refine .of_wp fun prog w A R s h => ?_
  obtain ⟨hp, g, d, tk, os⟩ := s
  obtain ⟨hl, h⟩ := h
  have f1 := AutoSeq1.idx_int
  have c1 : (items.isEmpty || (1 : Int) == 1) = true := by simp
  wp_walk using wpAny_loadPart' hl
  repeat (first
    | (refine wpAny_ite_false (decide_eq_false (by decide)) ?_; wp_walk using wpAny_loadPart' hl)
    | (refine wpAny_ite_true (decide_eq_true c1) ?_; wp_walk using wpAny_loadPart' hl))
  all_goals exact ⟨_, rfl, h⟩
def rRep1 (K : PySem.W.Frag) : R2 := fun x y H Q => ∃ l k xs, x = .ref l ∧ y = .int k ∧ SqT K H l xs ∧ xs ≠ [] ∧ 1 ≤ k ∧ k ≤ 1000 ∧ xs.length ≤ 1000 ∧ (k = 1 → Q (.ref l) H) ∧ (2 ≤ k → ∀ p, H p = none → Q (.ref p) (upd H p (.tup (List.replicate k.toNat xs).flatten)))
theorem op_rep1 {X : Cx} : OpR X (binaryOp .Mult) (rRep1 X.K) := by
  intro pins s σ H x y v u Q I rx ry h
  obtain ⟨l, k, xs, rfl, rfl, hT, hne, h1, h2, hz, q1, q2⟩ := h
  by_cases hk : 2 ≤ k
  · exact op_repT pins s σ H _ _ v u Q I rx ry ⟨l, k, xs, rfl, rfl, hT, hne, hk, h2, hz, q2 hk⟩
  · have e : k = 1 := by omega
    subst e
    cases rx
    obtain ⟨t, rfl⟩ := ry
    obtain ⟨its, r, ⟨⟨cls, dd, data, sl⟩, ho, hc, n, hd⟩, hs⟩ := I.tuple hT
    replace hc : cls = .type "tuple" := hc
    replace hd : data = .seq its.toArray n := hd
    subst hc hd
    refine wpAny_binaryOp_repeat_ref (T := "tuple") (U := "int") (by decide) ⟨_, ho, rfl⟩ (fun s' => typeIs_int s' 1 t) noFill_tuple_mul F.fills_int_mul F.slot_int_rmul repeat_tuple F.slot_int_index.lookup
      (call_meets F.slot_int_rmul (typeIs_int s 1 t) F.entry_int_rmul (F.args_int_rmul_2 _ _) (int_rmul_tuple 1 t l its.toArray n dd sl)
        ⟨ho, rfl, ⟨_, ho, rfl⟩, call_meets F.slot_tuple_mul ⟨_, ho, rfl⟩ F.entry_tuple_mul (F.args_tuple_mul_2 _ _) (mul1_tup l its.toArray n dd sl t) ⟨ho, ?_⟩⟩)
    exact ⟨.ref l, H, I, rfl, q1 rfl⟩
end
section
variable {K : PySem.W.Frag} {σ : L2.St} {H H' : Hp} {ta tb tc te : TE} {d d1 d2 d3 : D} {P : Pd}
theorem ed_rep1 {ds : List D} {k : Int} (ha : ED K ta σ H (.tup ds)) (hb : ED K tb σ H (.int k)) (hne : ds ≠ []) (h1 : 1 ≤ k ∧ k ≤ 1000) (hz : ds.length ≤ 1000) : ED K (tOp (rRep1 K) ta tb) σ H (.tup (List.replicate k.toNat ds).flatten) :=
  ed_op ha hb fun x y H2 _ r1 r2 Q q => by
    obtain ⟨a, xs, rfl, s, rr⟩ := rp_tup r1
    refine ⟨a, k, xs, rfl, rp_int r2, s, ?_, h1.1, h1.2, by rw [rr.len]; exact hz, fun e => ?_, fun _ p np => ?_⟩
    · intro e
      subst e
      cases rr
      exact hne rfl
    · subst e
      refine q _ _ H2 (Le.refl _) ?_ r1
      show D.tup ds = D.tup (List.replicate 1 ds).flatten
      simp
    · exact q _ _ _ (Le.new np) rfl (.tup (Evl.st_of upd_same) ((rr.le (Le.new np)).flat _))
theorem ed_rep {ds : List D} {k : Int} (ha : ED K ta σ H (.lst ds)) (hb : ED K tb σ H (.int k)) (h1 : 0 ≤ k ∧ k ≤ 1000) (hz : ds.length ≤ 1000) (hu : Uni (List.replicate k.toNat ds).flatten) : ED K (tOp rRep ta tb) σ H (.lst (List.replicate k.toNat ds).flatten) :=
  ed_op ha hb fun x y H2 _ r1 r2 Q q => by
    obtain ⟨a, xs, rfl, s, nh, rr⟩ := rp_lst r1
    have hm : xs.length * k.toNat ≤ 1000 * 1000 := Nat.mul_le_mul (by rw [rr.len]; exact hz) (by omega)
    refine ⟨a, k, xs, rfl, rp_int r2, s, by omega, by omega, Nat.le_trans hm (by decide), fun p np => ?_⟩
    have rf := (rr.le (Le.new (o := .lst (List.replicate k.toNat xs).flatten) np)).flat k.toNat
    exact q _ _ _ (Le.new np) rfl (.lst upd_same (hu.notH rf) rf)
/-- lists put one behind another -/
theorem ed_cat {ds es : List D} (ha : ED K ta σ H (.lst ds)) (hb : ED K tb σ H (.lst es)) (hz : ds.length + es.length ≤ 100000) (hu : Uni (ds ++ es)) : ED K (tOp rCat ta tb) σ H (.lst (ds ++ es)) :=
  ed_op ha hb fun x y H2 _ r1 r2 Q q => by
    obtain ⟨a, xs, rfl, s, nh, rr⟩ := rp_lst r1
    obtain ⟨b, ys, rfl, s2, nh2, rr2⟩ := rp_lst r2
    refine ⟨a, b, xs, ys, rfl, rfl, s, s2, by rw [rr.len, rr2.len]; exact Evl.sz_of hz, fun p np => ?_⟩
    have rf := (rr.app rr2).le (Le.new (o := .lst (xs ++ ys)) np)
    exact q _ _ _ (Le.new np) rfl (.lst upd_same (hu.notH rf) rf)
/-- tuples put one behind another -/
theorem ed_catA {ds es : List D} (ha : ED K ta σ H (.tup ds)) (hb : ED K tb σ H (.tup es)) (hz : ds.length + es.length ≤ 100000) : ED K (tOp (rCatA K) ta tb) σ H (.tup (ds ++ es)) :=
  ed_op ha hb fun x y H2 _ r1 r2 Q q => by
    obtain ⟨a, xs, rfl, s, rr⟩ := rp_tup r1
    obtain ⟨b, ys, rfl, s2, rr2⟩ := rp_tup r2
    refine ⟨a, b, xs, ys, rfl, rfl, s, s2, by rw [rr.len, rr2.len]; exact Evl.sz_of hz, fun e => ?_, fun _ e => ?_, fun _ _ p np => ?_⟩
    · subst e
      cases rr
      exact q _ _ H2 (Le.refl _) rfl r2
    · subst e
      cases rr2
      exact q _ _ H2 (Le.refl _) (by rw [List.append_nil]) r1
    · exact q _ _ _ (Le.new np) rfl (.tup (Evl.st_of upd_same) ((rr.app rr2).le (Le.new np)))
theorem eo_none : EO tNoPart σ H none := fun H1 _ Q q => q H1 (Le.refl _)
theorem eo_some {i : Int} (h : ED K te σ H (.int i)) : EO (tPart te) σ H (some i) := fun H1 e Q q => h H1 e _ fun v d H2 e2 p r => by
  have p' : d = .int i := p
  subst p'
  exact ⟨i, rp_int r, q H2 e2⟩
theorem ed_slT {tl th : TO} {ds : List D} {lo hi : Option Int} (h : ED K ta σ H (.tup ds)) (h1 : EO tl σ H lo) (h2 : EO th σ H hi) : ED K (tSl (rSlA K) ta tl th) σ H (.tup (cutG ds lo hi)) := fun H1 e Q q =>
  h H1 e _ fun v d H2 e2 p r => h1 H2 (e.trans e2) _ fun H3 e3 => h2 H3 ((e.trans e2).trans e3) _ fun H4 e4 => by
    have p' : d = .tup ds := p
    subst p'
    obtain ⟨a, xs, rfl, s, rr⟩ := rp_tup (r.le (e3.trans e4))
    refine ⟨a, xs, rfl, s, fun w => ?_, fun _ p np => ?_⟩
    · rw [rr.len] at w
      exact q _ _ H4 ((e2.trans e3).trans e4) (by rw [cutG_all ds lo hi w]) (.tup s rr)
    · exact q _ _ _ (((e2.trans e3).trans e4).trans (Le.new np)) rfl (.tup (Evl.st_of upd_same) ((rps_cut lo hi rr).le (Le.new np)))
theorem ed_slL {tl th : TO} {ds : List D} {lo hi : Option Int} (h : ED K ta σ H (.lst ds)) (h1 : EO tl σ H lo) (h2 : EO th σ H hi) (hu : Uni (cutG ds lo hi)) : ED K (tSl (rSlL K) ta tl th) σ H (.lst (cutG ds lo hi)) := fun H1 e Q q =>
  h H1 e _ fun v d H2 e2 p r => h1 H2 (e.trans e2) _ fun H3 e3 => h2 H3 ((e.trans e2).trans e3) _ fun H4 e4 => by
    have p' : d = .lst ds := p
    subst p'
    obtain ⟨a, xs, rfl, s, nh, rr⟩ := rp_lst (r.le (e3.trans e4))
    refine ⟨a, xs, rfl, SqL.of s, fun p np => ?_⟩
    have rf := (rps_cut lo hi rr).le (Le.new (o := .lst (cutV xs lo hi)) np)
    exact q _ _ _ (((e2.trans e3).trans e4).trans (Le.new np)) rfl (.lst upd_same (hu.notH rf) rf)
theorem ed_revL {ds : List D} (h : ED K ta σ H (.lst ds)) (hu : Uni ds.reverse) : ED K (tRevL K ta) σ H (.lst ds.reverse) := fun H1 e Q q =>
  h H1 e _ fun v d H2 e2 p r => by
    have p' : d = .lst ds := p
    subst p'
    obtain ⟨a, xs, rfl, s, nh, rr⟩ := rp_lst r
    refine ⟨a, xs, rfl, SqL.of s, fun p np => ?_⟩
    have rv : ∀ {vs : List V} {es : List D}, Rps K H2 vs es → Rps K H2 vs.reverse es.reverse := by
      intro vs
      induction vs with
      | nil =>
        intro es h
        cases h
        exact .nil
      | cons a l ih =>
        intro es h
        cases h with
        | cons h1 h2 =>
          rw [List.reverse_cons, List.reverse_cons]
          exact (ih h2).app (.cons h1 .nil)
    have rf := (rv rr).le (Le.new (o := .lst xs.reverse) np)
    exact q _ _ _ (e2.trans (Le.new np)) rfl (.lst upd_same (hu.notH rf) rf)
/-! calls of built-ins -/
theorem ed_cb {r : List V → Hp → VK → Prop} {A : TA} {ds : List D} (h : EDA K A σ H ds) (hr : ∀ vs H2, Le H H2 → Rps K H2 vs ds → ∀ Q : VK, (∀ v d H3, Le H2 H3 → P d H3 → Rp K H3 v d → Q v H3) → r vs H2 Q) : EP K (tCB r A) σ H P := fun H1 e Q q =>
  h H1 e _ fun vs es H2 e2 p rr => by
    have p' : es = ds := p
    subst p'
    exact hr vs H2 (e.trans e2) rr Q fun v d H3 e3 p3 r3 => q v d H3 (e2.trans e3) p3 r3
theorem rps1 {vs : List V} (r : Rps K H vs [d]) : ∃ v, vs = [v] ∧ Rp K H v d := by
  cases r with
  | cons h r =>
    cases r
    exact ⟨_, rfl, h⟩
theorem rps2 {vs : List V} (r : Rps K H vs [d1, d2]) : ∃ v w, vs = [v, w] ∧ Rp K H v d1 ∧ Rp K H w d2 := by
  cases r with
  | cons h r =>
    obtain ⟨w, rfl, h2⟩ := rps1 r
    exact ⟨_, w, rfl, h, h2⟩
theorem rps3 {vs : List V} (r : Rps K H vs [d1, d2, d3]) : ∃ v w u, vs = [v, w, u] ∧ Rp K H v d1 ∧ Rp K H w d2 ∧ Rp K H u d3 := by
  cases r with
  | cons h r =>
    obtain ⟨w, u, rfl, h2, h3⟩ := rps2 r
    exact ⟨_, w, u, rfl, h, h2, h3⟩
abbrev rAbs : List V → Hp → VK → Prop := fun xs H Q => ∃ i, xs = [.int i] ∧ Q (.int (if i < 0 then -i else i)) H
theorem ed_abs {i : Int} (h : ED K ta σ H (.int i)) : ED K (tCB rAbs (tCons ta tNil)) σ H (.int (if i < 0 then -i else i)) := ed_cb (ea_cons h ea_nil) fun vs H2 _ r Q q => by
  obtain ⟨v, rfl, h⟩ := rps1 r
  exact ⟨i, by rw [rp_int h], q _ _ H2 (Le.refl _) rfl (.int _)⟩
abbrev rInt1 : List V → Hp → VK → Prop := fun xs H Q => (∃ i, xs = [.int i] ∧ Q (.int i) H) ∨ ∃ k, xs = [.bl k] ∧ Q (.int (if k then 1 else 0)) H
theorem ed_int1 {i : Int} (h : ED K ta σ H (.int i)) : ED K (tCB rInt1 (tCons ta tNil)) σ H (.int i) := ed_cb (ea_cons h ea_nil) fun vs H2 _ r Q q => by
  obtain ⟨v, rfl, h⟩ := rps1 r
  exact .inl ⟨i, by rw [rp_int h], q _ _ H2 (Le.refl _) rfl (.int _)⟩
abbrev rMax2 : List V → Hp → VK → Prop := fun xs H Q => ∃ i j, xs = [.int i, .int j] ∧ Q (.int (if j > i then j else i)) H
abbrev rMin2 : List V → Hp → VK → Prop := fun xs H Q => ∃ i j, xs = [.int i, .int j] ∧ Q (.int (if j < i then j else i)) H
theorem ed_max2 {i j : Int} (h : ED K ta σ H (.int i)) (h2 : ED K tb σ H (.int j)) : ED K (tCB rMax2 (tCons ta (tCons tb tNil))) σ H (.int (if j > i then j else i)) := ed_cb (ea_cons h (ea_cons h2 ea_nil)) fun vs H2 _ r Q q => by
  obtain ⟨v, w, rfl, h, h2⟩ := rps2 r
  exact ⟨i, j, by rw [rp_int h, rp_int h2], q _ _ H2 (Le.refl _) rfl (.int _)⟩
theorem ed_min2 {i j : Int} (h : ED K ta σ H (.int i)) (h2 : ED K tb σ H (.int j)) : ED K (tCB rMin2 (tCons ta (tCons tb tNil))) σ H (.int (if j < i then j else i)) := ed_cb (ea_cons h (ea_cons h2 ea_nil)) fun vs H2 _ r Q q => by
  obtain ⟨v, w, rfl, h, h2⟩ := rps2 r
  exact ⟨i, j, by rw [rp_int h, rp_int h2], q _ _ H2 (Le.refl _) rfl (.int _)⟩
abbrev rTupOf (K : PySem.W.Frag) : List V → Hp → VK → Prop := fun xs H Q => ∃ p ys, xs = [.ref p] ∧ ((SqL K H p ys ∧ ∀ l, H l = none → Q (.ref l) (upd H l (.tup ys))) ∨ (SqT K H p ys ∧ Q (.ref p) H))
theorem ep_tupOf {PL : List D → Prop} (h : EP K ta σ H fun d _ => ∃ ds, d = .lst ds ∧ PL ds) : EP K (tCB (rTupOf K) (tCons ta tNil)) σ H (fun d _ => ∃ ds, d = .tup ds ∧ PL ds) := fun H1 e Q q => h H1 e _ fun v d H2 e2 p r => by
  obtain ⟨ds, rfl, pl⟩ := p
  obtain ⟨a, xs, rfl, s, nh, rr⟩ := rp_lst r
  exact ⟨a, xs, rfl, .inl ⟨SqL.of s, fun l hl => q _ _ _ (e2.trans (Le.new hl)) ⟨ds, rfl, pl⟩ (.tup (Evl.st_of upd_same) (rr.le (Le.new hl)))⟩⟩
theorem ed_tupOf {ds : List D} (h : ED K ta σ H (.lst ds)) : ED K (tCB (rTupOf K) (tCons ta tNil)) σ H (.tup ds) :=
  (ep_tupOf (PL := fun x => x = ds) (h.weak fun d _ _ p => ⟨ds, p, rfl⟩)).weak fun d _ _ p => by
    obtain ⟨ds', rfl, rfl⟩ := p
    rfl
abbrev rLstOf (K : PySem.W.Frag) : List V → Hp → VK → Prop := fun xs H Q => ∃ p ys, xs = [.ref p] ∧ (SqL K H p ys ∨ SqT K H p ys) ∧ ∀ l, H l = none → Q (.ref l) (upd H l (.lst ys))
theorem ed_lstOfT {ds : List D} (h : ED K ta σ H (.tup ds)) (hu : Uni ds) : ED K (tCB (rLstOf K) (tCons ta tNil)) σ H (.lst ds) := ed_cb (ea_cons h ea_nil) fun vs H2 _ r Q q => by
  obtain ⟨v, rfl, h⟩ := rps1 r
  obtain ⟨a, xs, rfl, s, rr⟩ := rp_tup h
  refine ⟨a, xs, rfl, .inr s, fun l hl => ?_⟩
  have rf := rr.le (Le.new (o := .lst xs) hl)
  exact q _ _ _ (Le.new hl) rfl (.lst upd_same (hu.notH rf) rf)
theorem ed_lstOfL {ds : List D} (h : ED K ta σ H (.lst ds)) : ED K (tCB (rLstOf K) (tCons ta tNil)) σ H (.lst ds) := ed_cb (ea_cons h ea_nil) fun vs H2 _ r Q q => by
  obtain ⟨v, rfl, h⟩ := rps1 r
  obtain ⟨a, xs, rfl, s, nh, rr⟩ := rp_lst h
  exact ⟨a, xs, rfl, .inl (SqL.of s), fun l hl => q _ _ _ (Le.new hl) rfl (.lst upd_same nh (rr.le (Le.new hl)))⟩
theorem ep_sortedI {PN : List Int → Prop} (h : EP K ta σ H fun d _ => ∃ ns : List Int, d = .lst (ns.map .int) ∧ PN ns) :
    EP K (tCB (rSortedI K) (tCons ta tNil)) σ H (fun d _ => ∃ ns ns' : List Int, d = .lst (ns'.map .int) ∧ PN ns ∧ ns'.Perm ns ∧ ns'.Pairwise (· ≤ ·)) := fun H1 e Q q => h H1 e _ fun v d H2 e2 p r => by
  obtain ⟨ns, rfl, pn⟩ := p
  obtain ⟨a, xs, rfl, s, nh, rr⟩ := rp_lst r
  have ex := ints_rps rr
  subst ex
  exact ⟨a, ns, rfl, SqL.of s, fun ns' p hp hs hn => q _ _ _ (e2.trans (Le.new hn)) ⟨ns, ns', rfl, pn, hp, hs⟩ (.lst upd_same (notH_ints _) (rps_ints _))⟩
/-- sorted(set(e)), e a list of ints -/
theorem ep_sortedSet {w : World} {ns : List Int} (hz : ns.length < 64) (h : ED K ta σ H (.lst (ns.map .int))) :
    EP K (tCB (rSortedSet w) (tCons (tCB (rSetOfL K w) (tCons ta tNil)) tNil)) σ H (fun d _ => ∃ ns' : List Int, d = .lst (ns'.map .int) ∧ ns'.Pairwise (· < ·) ∧ ∀ k, k ∈ ns' ↔ k ∈ ns) := fun H1 e Q q => h H1 e _ fun v d H2 e2 p r => by
  have p' : d = .lst (ns.map .int) := p
  subst p'
  obtain ⟨a, xs, rfl, s, nh, rr⟩ := rp_lst r
  have ex := ints_rps rr
  subst ex
  refine ⟨a, ns, rfl, SqL.of s, by omega, fun p n hp hn => ⟨p, _, n, rfl, upd_same, by omega, fun ns' l hs hm _ hl => ?_⟩⟩
  refine q _ _ _ ((e2.trans (Le.new hp)).trans (Le.new hl)) ⟨ns', rfl, hs, fun k => ?_⟩ (.lst upd_same (notH_ints _) (rps_ints _))
  rw [hm k]
  exact decide_eq_true_iff
theorem inV_ints (x : Int) : ∀ ns : List Int, inV (.int x) (ns.map V.int) = decide (x ∈ ns)
  | [] => rfl
  | n :: ns => by
    have ih := inV_ints x ns
    unfold inV at ih ⊢
    rw [List.map_cons, List.any_cons, ih]
    by_cases e : n = x
    · subst e
      have e1 : eqV (.int n) (.int n) = true := by simp [eqV]
      rw [e1]
      simp
    · have e1 : eqV (.int n) (.int x) = false := by simp [eqV, e]
      rw [e1, Bool.false_or]
      have : (x ∈ n :: ns) ↔ x ∈ ns := by simp [Ne.symm e]
      simp [this]
theorem flat_ints (ns : List Int) : (ns.map V.int).all flatV = true := by
  rw [List.all_eq_true]
  intro v hv
  obtain ⟨i, _, rfl⟩ := List.mem_map.mp hv
  rfl
theorem ed_inT {x : Int} {ns : List Int} (h : ED K ta σ H (.int x)) (h2 : ED K tb σ H (.tup (ns.map .int))) : ED K (tOp (rIn K false) ta tb) σ H (.bl (decide (x ∈ ns))) := ed_op h h2 fun v w H2 _ r1 r2 Q q => by
  obtain ⟨a, xs, rfl, s, rr⟩ := rp_tup r2
  have ex := ints_rps rr
  subst ex
  rw [rp_int r1]
  refine ⟨a, _, rfl, .inr s, rfl, flat_ints ns, ?_⟩
  rw [inV_ints]
  exact q _ _ H2 (Le.refl _) rfl (.bl _)
theorem ed_ninT {x : Int} {ns : List Int} (h : ED K ta σ H (.int x)) (h2 : ED K tb σ H (.tup (ns.map .int))) : ED K (tOp (rIn K true) ta tb) σ H (.bl (!decide (x ∈ ns))) := ed_op h h2 fun v w H2 _ r1 r2 Q q => by
  obtain ⟨a, xs, rfl, s, rr⟩ := rp_tup r2
  have ex := ints_rps rr
  subst ex
  rw [rp_int r1]
  refine ⟨a, _, rfl, .inr s, rfl, flat_ints ns, ?_⟩
  rw [inV_ints]
  exact q _ _ H2 (Le.refl _) rfl (.bl _)
theorem ed_all {bs : List Bool} (h : ED K ta σ H (.lst (bs.map .bl))) : ED K (tCB (rAll K) (tCons ta tNil)) σ H (.bl (bs.all id)) := ed_cb (ea_cons h ea_nil) fun vs H2 _ r Q q => by
  obtain ⟨v, rfl, h⟩ := rps1 r
  obtain ⟨a, xs, rfl, s, nh, rr⟩ := rp_lst h
  have ex := bls_rps rr
  subst ex
  exact ⟨a, bs, rfl, SqL.of s, q _ _ H2 (Le.refl _) rfl (.bl _)⟩
/-! isinstance -/
def tyD : D → String
  | .non => "NoneType"
  | .bl _ => "bool"
  | .int _ => "int"
  | .str _ => "str"
  | .tup _ => "tuple"
  | .lst _ => "list"
  | .obj _ => "object"
theorem tyx_of {v : V} (hno : ∀ u, d ≠ .obj u) (r : Rp K H v d) : TyX K H v (.type (tyD d)) := by
  cases r with
  | non => exact .base .non
  | bl b => exact .base (.bl b)
  | int i => exact .base (.int i)
  | str x => exact .base (.str x)
  | obj v => exact absurd rfl (hno v)
  | lst h _ _ => exact .base (.lst h)
  | tup h _ =>
    rcases h with (h | ⟨o, h⟩) | h
    · exact .base (.tup h)
    · exact .fTuple h
    · obtain ⟨o, its, n, hk, hc, _⟩ := h
      exact .kTuple hk hc
theorem ed_isi {T : String} {b : Bool} (h : ED K ta σ H d) (ho : ∀ u, d ≠ .obj u) (hb : kitB (tyD d) T = some b) : ED K (tCB (rIsi K) (tCons ta (tCons (tC (.ty T)) tNil))) σ H (.bl b) := ed_cb (ea_cons h (ea_cons ed_obj ea_nil)) fun vs H2 _ r Q q => by
  obtain ⟨v, w, rfl, h1, h2⟩ := rps2 r
  have ew := rp_obj h2
  subst ew
  exact ⟨v, .ty T, .type (tyD d), .type T, b, rfl, .ty T, tyx_of ho h1, kit_ty hb, q _ _ H2 (Le.refl _) rfl (.bl _)⟩
end
end W1

set_option maxRecDepth 100000
set_option maxHeartbeats 4000000
/-! defs of a text, and the law's hand -/
namespace W1
open PySem PyProof.Rows L2
/-- a def of the text stands under its name -/
def GDef (K : PySem.W.Frag) (mg : Str → Option Value) (x : Str) (st : Stmt) (ps : List Str) : Prop := ∃ f fd, mg x = some (.ref f) ∧ Fun K x x st f fd ∧ Binds K fd ps []
/-- and keeps a promise -/
def Def (P : Program) (w : World) (K : PySem.W.Frag) (mg : Str → Option Value) (base : Heap) (k : Nat) (x : Str) (ps : List Str) (sp : Sp) : Prop :=
  ∃ f fd, mg x = some (.ref f) ∧ PySem.W.keepIn K (.ref f) = true ∧ Binds K fd ps [] ∧ FnOk P w K mg base CX0 k f fd ps sp
section
variable {P : Program} {w : World} {K : PySem.W.Frag} {mg : Str → Option Value} {base : Heap}
theorem defS {x : Str} {st : Stmt} {N ps : List Str} {k : Nat} {sp : Sp} (g : GDef K mg x st ps) (S : FnScope N ps (defScope st)) (hl : ∀ vs H Q E, sp vs H Q E → vs.length = ps.length)
    (body : ∀ (cdv : Value) (A : Around) (outer : List Env) (s : Shared) (f : Addr) (H : Hp) (vs : List V) (Q : VK) (E : XK), Room k (A.deeper (envOfC x (defScope st) s.heap.objs.size f cdv)) → sp vs H Q E →
      ∃ t, PSs (cxOf CX0 P w K mg base N x (defScope st) f cdv A outer s H E).nox (defBody st) t ∧ t { nx := fun _ H' => Q .non H', rt := Q } (start N vs) H) : Def P w K mg base (k + 1) x ps sp := by
  obtain ⟨f, fd, hm, F, hb⟩ := g
  exact ⟨f, fd, hm, F.kp, hb, F.ok S hl fun cdv A outer s H vs Q E hr h => body cdv A outer s f H vs Q E hr h⟩
theorem defD {x : Str} {st : Stmt} {N ps : List Str} {k : Nat} {R : List D → Hp → Pd → Prop} (g : GDef K mg x st ps) (S : FnScope N ps (defScope st)) (hl : ∀ ds H Pd, R ds H Pd → ds.length = ps.length)
    (body : ∀ (cdv : Value) (A : Around) (outer : List Env) (s : Shared) (f : Addr) (H : Hp) (vs : List V) (ds : List D) (Pd : Pd) (Q : VK) (E : XK), Room k (A.deeper (envOfC x (defScope st) s.heap.objs.size f cdv)) → Rps K H vs ds → R ds H Pd →
      (∀ v d H2, Le H H2 → Pd d H2 → Rp K H2 v d → Q v H2) →
      ∃ t, PSs (cxOf CX0 P w K mg base N x (defScope st) f cdv A outer s H E).nox (defBody st) t ∧ t { nx := fun _ H' => Q .non H', rt := Q } (start N vs) H) : Def P w K mg base (k + 1) x ps (spD K R) := by
  refine defS g S (fun vs H Q E h => ?_) fun cdv A outer s f H vs Q E hr h => ?_
  · obtain ⟨ds, Pd, r, h, _⟩ := h
    rw [r.len]
    exact hl ds H Pd h
  · obtain ⟨ds, Pd, r, h, q⟩ := h
    exact body cdv A outer s f H vs ds Pd Q E hr r h q
end
section
variable {X : Cx} {k j : Nat} {x : Str} {ps : List Str} {sp : Sp} {p pos : Pos} {e : Expr} {es : List Expr} {t : TA}
theorem pe_def (G : Def X.prog X.w X.K X.mg X.base k x ps sp) (hr : Room k X.A) (ha : PA X (e :: es) t) (hg : Gl X x := by rfl)
    (hdb : (x == ("__debug__" : Str)) = false := by decide) (he : starEach (e :: es) X.env = (false, eval e X.env) :: starEach es X.env := by rfl) (hpl : (backTo pos (starEach es X.env)).any (·.1) = false := by rfl) :
    PE X (.Call (.Name x p) (e :: es) [] pos) (tCall sp [] E0 t) := by
  obtain ⟨f, fd, hm, hk, hb, F⟩ := G
  exact pe_call F hr hg hm hk hb .nil pass0 ha hdb he hpl
end
/-! ### the hand: the law's cells and counters -/
structure HandAt (H : Hp) (h c : Addr) (cells : List Int) (p x s n : Int) : Prop where
  hand : H h = some (.lst [.ref c, .int p, .int x, .int s, .int n])
  cell : H c = some (.lst (cells.map V.int))
  p0 : 0 ≤ p
  x0 : 0 ≤ x
  pos : ∀ z ∈ cells, 0 ≤ z
def Hand (H : Hp) (h : Addr) : Prop := ∃ c cells p x s n, HandAt H h c cells p x s n
theorem HandAt.ne {H : Hp} {h c : Addr} {cells : List Int} {p x s n : Int} (a : HandAt H h c cells p x s n) : c ≠ h := fun e => by
  have h1 := a.hand
  rw [← e, a.cell] at h1
  have h2 := HO.lst.inj (Option.some.inj h1)
  cases cells with
  | nil => cases h2
  | cons z zs =>
    injection h2 with h3 _
    cases h3
theorem Hand.le {H H' : Hp} {h : Addr} (e : Le H H') (a : Hand H h) : Hand H' h := by
  obtain ⟨c, cells, p, x, s, n, a⟩ := a
  have c1 := e.lst a.cell (notH_ints cells)
  rcases e h _ a.hand with h1 | ⟨c2, p2, x2, s2, n2, p3, x3, s3, n3, e2, h1, u, v⟩
  · exact ⟨c, cells, p, x, s, n, h1, c1, a.p0, a.x0, a.pos⟩
  · have e3 := HO.lst.inj e2
    injection e3 with e4 e5
    injection e4 with e4
    subst e4
    exact ⟨c, cells, p3, x3, s3, n3, h1, c1, u, v, a.pos⟩
/-- the hand is changed: what else stands stands -/
theorem HandAt.put {H : Hp} {h c : Addr} {cells : List Int} {p x s n p2 x2 s2 n2 : Int} (a : HandAt H h c cells p x s n) (hp : 0 ≤ p2) (hx : 0 ≤ x2) :
    HandAt (upd H h (.lst [.ref c, .int p2, .int x2, .int s2, .int n2])) h c cells p2 x2 s2 n2 ∧ Le H (upd H h (.lst [.ref c, .int p2, .int x2, .int s2, .int n2])) := by
  refine ⟨⟨upd_same, by rw [upd_ne a.ne]; exact a.cell, hp, hx, a.pos⟩, fun b o e => ?_⟩
  by_cases hb : b = h
  · subst hb
    rw [a.hand] at e
    have e2 := Option.some.inj e
    exact .inr ⟨c, p, x, s, n, p2, x2, s2, n2, e2.symm, upd_same, hp, hx⟩
  · rw [upd_ne hb]
    exact .inl e
end W1

set_option maxRecDepth 100000
set_option maxHeartbeats 4000000
/-! comprehensions of typed data -/
namespace W1
open PySem PyProof.Rows L2
structure Enc {α : Type} (enc : α → D) : Prop where
  uni : (∀ a, ∃ i, enc a = .int i) ∨ ∀ a, (∀ i, enc a ≠ .int i) ∧ ∀ v, enc a ≠ .obj v
  noL : ∀ a, NoL (enc a)
theorem Enc.un {α : Type} {enc : α → D} (E : Enc enc) (zs : List α) : Uni (zs.map enc) := by
  rcases E.uni with u | u
  · refine .inl fun d hd => ?_
    obtain ⟨a, _, rfl⟩ := List.mem_map.mp hd
    exact u a
  · refine .inr fun d hd => ?_
    obtain ⟨a, _, rfl⟩ := List.mem_map.mp hd
    exact u a
theorem Enc.nl {α : Type} {enc : α → D} (E : Enc enc) (zs : List α) : ∀ d ∈ zs.map enc, NoL d := fun d hd => by
  obtain ⟨a, _, rfl⟩ := List.mem_map.mp hd
  exact E.noL a
theorem enc_int : Enc D.int := ⟨.inl fun a => ⟨a, rfl⟩, fun a => .int a⟩
theorem enc_bl : Enc D.bl := ⟨.inr fun a => ⟨fun _ => (fun e => nomatch e), fun _ => (fun e => nomatch e)⟩, fun a => .bl a⟩
theorem enc_tup {α : Type} {f : α → List D} (h : ∀ a, ∀ d ∈ f a, NoL d) : Enc fun a => D.tup (f a) := ⟨.inr fun a => ⟨fun _ => (fun e => nomatch e), fun _ => (fun e => nomatch e)⟩, fun a => .tup (h a)⟩
def eP (p : Int × Int) : D := .tup [.int p.1, .int p.2]
theorem enc_P : Enc eP := enc_tup fun a d hd => by
  rcases List.mem_cons.mp hd with rfl | hd
  · exact .int _
  · rcases List.mem_cons.mp hd with rfl | hd
    · exact .int _
    · cases hd
def GI {α : Type} (enc : α → D) (J : Nat → List α → Prop) : Nat → List D → Prop := fun i acc => ∃ zs : List α, acc = zs.map enc ∧ zs.length ≤ 50000 ∧ J i zs
theorem good {α : Type} {enc : α → D} (E : Enc enc) (J : Nat → List α → Prop) : Good (GI enc J) := by
  refine ⟨?_, ?_, ?_⟩
  · rintro i acc ⟨zs, rfl, _, _⟩
    exact E.un zs
  · rintro i acc ⟨zs, rfl, _, _⟩
    exact E.nl zs
  · rintro i acc ⟨zs, rfl, h, _⟩
    rw [List.length_map]
    exact h
theorem GI.more {α : Type} {enc : α → D} {J : Nat → List α → Prop} {i : Nat} {zs : List α} {a : α} (hz : (zs ++ [a]).length ≤ 50000) (j : J (i + 1) (zs ++ [a])) : GI enc J (i + 1) (zs.map enc ++ [enc a]) := ⟨zs ++ [a], by simp, hz, j⟩
section
variable {K : PySem.W.Frag} {σ : L2.St} {H H' : Hp} {ta tb tc te : TE} {tt : TT} {ra : TA} {d : D} {vs : List Nat} {α β : Type} {enc : α → D} {encS : β → D}
theorem map_at {xs : List β} {i : Nat} (h : (xs.map encS)[i]? = some d) : ∃ b, xs[i]? = some b ∧ d = encS b := by
  rw [List.getElem?_map] at h
  cases e : xs[i]? with
  | none =>
    rw [e] at h
    cases h
  | some b =>
    rw [e] at h
    exact ⟨b, rfl, (Option.some.inj h).symm⟩
theorem fm_yes {xs : List β} {i : Nat} {b : β} {f : β → Bool} {g : β → α} (h : xs[i]? = some b) (hf : f b = true) : ((xs.take (i + 1)).filter f).map g = ((xs.take i).filter f).map g ++ [g b] := by
  rw [List.take_add_one, h]
  simp [hf]
theorem fm_no {xs : List β} {i : Nat} {b : β} {f : β → Bool} {g : β → α} (h : xs[i]? = some b) (hf : f b = false) : ((xs.take (i + 1)).filter f).map g = ((xs.take i).filter f).map g := by
  rw [List.take_add_one, h]
  simp [hf]
theorem fm_len (xs : List β) (f : β → Bool) (g : β → α) : ((xs.filter f).map g).length ≤ xs.length := by
  rw [List.length_map]
  exact List.length_filter_le f xs
theorem et_yes : EB tYes σ H true := fun H1 _ Q q => q true H1 (Le.refl _) rfl
/-- [g b for b in xs if f b], xs a tuple -/
theorem ed_lcT (E : Enc enc) (xs : List β) (f : β → Bool) (g : β → α) {j : Nat} (h : ED K ta σ H (.tup (xs.map encS))) (hz : xs.length ≤ 50000) (hw : ∀ x, wipe ((wipe σ vs).set j (some x)) vs = wipe σ vs)
    (ht : ∀ b v H1, Le H H1 → b ∈ xs → Rp K H1 v (encS b) → EB tt ((wipe σ vs).set j (some v)) H1 (f b))
    (he : ∀ b v H1, Le H H1 → b ∈ xs → Rp K H1 v (encS b) → f b = true → ED K te ((wipe σ vs).set j (some v)) H1 (enc (g b))) : ED K (tLc (iTup K ta) (gName j) tt te vs) σ H (.lst (((xs.filter f).map g).map enc)) := by
  refine EP.weak (ep_lcT (I := GI enc fun i zs => zs = ((xs.take i).filter f).map g) (PT := fun i d b => ∃ y, xs[i]? = some y ∧ b = f y) (good E _) h hw ⟨[], rfl, Nat.zero_le _, by simp⟩ ?_ ?_ ?_) ?_
  · intro i d v acc H1 e hd r _
    obtain ⟨b, hb, rfl⟩ := map_at hd
    exact et_weak (ht b v H1 e (List.mem_of_getElem? hb) r) fun x p => ⟨b, hb, p⟩
  · rintro i d v acc H1 e hd r ⟨zs, rfl, hl, rfl⟩ ⟨b, hb, hf⟩
    obtain ⟨b2, hb2, rfl⟩ := map_at hd
    cases hb.symm.trans hb2
    refine (he b v H1 e (List.mem_of_getElem? hb) r hf.symm).weak fun d' H2 _ p => ?_
    have p' : d' = enc (g b) := p
    subst p'
    refine ⟨GI.more ?_ (fm_yes hb hf.symm).symm, E.noL _⟩
    rw [← fm_yes hb hf.symm]
    exact Nat.le_trans (fm_len _ f g) (Nat.le_trans (List.length_take_le _ _) (by
      have := (List.getElem?_eq_some_iff.mp hb).1
      omega))
  · rintro i d acc hd ⟨zs, rfl, hl, rfl⟩ ⟨b, hb, hf⟩
    exact ⟨_, rfl, hl, (fm_no hb hf.symm).symm⟩
  · rintro d H2 _ ⟨acc, rfl, zs, rfl, _, rfl⟩
    rw [List.length_map, List.take_length]
theorem ed_lcL (E : Enc enc) (xs : List β) (f : β → Bool) (g : β → α) {j : Nat} (h : ED K ta σ H (.lst (xs.map encS))) (hz : xs.length ≤ 50000) (hw : ∀ x, wipe ((wipe σ vs).set j (some x)) vs = wipe σ vs)
    (ht : ∀ b v H1, Le H H1 → b ∈ xs → Rp K H1 v (encS b) → EB tt ((wipe σ vs).set j (some v)) H1 (f b))
    (he : ∀ b v H1, Le H H1 → b ∈ xs → Rp K H1 v (encS b) → f b = true → ED K te ((wipe σ vs).set j (some v)) H1 (enc (g b))) : ED K (tLc (iList K ta) (gName j) tt te vs) σ H (.lst (((xs.filter f).map g).map enc)) := by
  refine EP.weak (ep_lcL (I := GI enc fun i zs => zs = ((xs.take i).filter f).map g) (PT := fun i d b => ∃ y, xs[i]? = some y ∧ b = f y) (good E _) h hw ⟨[], rfl, Nat.zero_le _, by simp⟩ ?_ ?_ ?_) ?_
  · intro i d v acc H1 e hd r _
    obtain ⟨b, hb, rfl⟩ := map_at hd
    exact et_weak (ht b v H1 e (List.mem_of_getElem? hb) r) fun x p => ⟨b, hb, p⟩
  · rintro i d v acc H1 e hd r ⟨zs, rfl, hl, rfl⟩ ⟨b, hb, hf⟩
    obtain ⟨b2, hb2, rfl⟩ := map_at hd
    cases hb.symm.trans hb2
    refine (he b v H1 e (List.mem_of_getElem? hb) r hf.symm).weak fun d' H2 _ p => ?_
    have p' : d' = enc (g b) := p
    subst p'
    refine ⟨GI.more ?_ (fm_yes hb hf.symm).symm, E.noL _⟩
    rw [← fm_yes hb hf.symm]
    exact Nat.le_trans (fm_len _ f g) (Nat.le_trans (List.length_take_le _ _) (by
      have := (List.getElem?_eq_some_iff.mp hb).1
      omega))
  · rintro i d acc hd ⟨zs, rfl, hl, rfl⟩ ⟨b, hb, hf⟩
    exact ⟨_, rfl, hl, (fm_no hb hf.symm).symm⟩
  · rintro d H2 _ ⟨acc, rfl, zs, rfl, _, rfl⟩
    rw [List.length_map, List.take_length]
/-- .. over range(n) -/
theorem ed_lcR (E : Enc enc) {n : Nat} (f : Nat → Bool) (g : Nat → α) {j : Nat} (h : EDA K ra σ H [.int (n : Int)]) (hz : n ≤ 50000) (hw : ∀ x, wipe ((wipe σ vs).set j (some x)) vs = wipe σ vs)
    (ht : ∀ (i : Nat) H1, Le H H1 → i < n → EB tt ((wipe σ vs).set j (some (.int (i : Int)))) H1 (f i))
    (he : ∀ (i : Nat) H1, Le H H1 → i < n → f i = true → ED K te ((wipe σ vs).set j (some (.int (i : Int)))) H1 (enc (g i))) : ED K (tLc (iRng1 ra) (gName j) tt te vs) σ H (.lst ((((List.range n).filter f).map g).map enc)) := by
  refine EP.weak (ep_lcR1 (I := GI enc fun i zs => zs = ((List.range i).filter f).map g) (PT := fun i b => b = f i) (good E _) h (by omega) hw ⟨[], rfl, Nat.zero_le _, by simp⟩ ?_ ?_ ?_) ?_
  · intro i acc H1 e hi _
    exact ht i H1 e (by omega)
  · rintro i acc H1 e hi ⟨zs, rfl, hl, rfl⟩ hf
    refine (he i H1 e (by omega) hf.symm).weak fun d' H2 _ p => ?_
    have p' : d' = enc (g i) := p
    subst p'
    have ey : ((List.range (i + 1)).filter f).map g = ((List.range i).filter f).map g ++ [g i] := by
      rw [List.range_succ]
      simp [← hf]
    refine ⟨GI.more ?_ ey.symm, E.noL _⟩
    rw [← ey]
    refine Nat.le_trans (fm_len _ f g) ?_
    rw [List.length_range]
    omega
  · rintro i acc hi ⟨zs, rfl, hl, rfl⟩ hf
    refine ⟨_, rfl, hl, ?_⟩
    show _ = ((List.range (i + 1)).filter f).map g
    rw [List.range_succ]
    simp [← hf]
  · rintro d H2 _ ⟨acc, rfl, zs, rfl, _, rfl⟩
    rw [Int.toNat_natCast]
/-- a list of n things of which each has been drawn: all have Z -/
theorem ep_lcR (E : Enc enc) {n : Nat} (Z : α → Prop) {j : Nat} (h : EDA K ra σ H [.int (n : Int)]) (hz : n ≤ 50000) (hw : ∀ x, wipe ((wipe σ vs).set j (some x)) vs = wipe σ vs)
    (he : ∀ (i : Nat) H1, Le H H1 → i < n → EP K te ((wipe σ vs).set j (some (.int (i : Int)))) H1 (fun d _ => ∃ a, d = enc a ∧ Z a)) :
    EP K (tLc (iRng1 ra) (gName j) tYes te vs) σ H (fun d _ => ∃ zs : List α, d = .lst (zs.map enc) ∧ zs.length = n ∧ ∀ a ∈ zs, Z a) := by
  refine EP.weak (ep_lcR1 (I := GI enc fun i zs => zs.length = i ∧ ∀ a ∈ zs, Z a) (PT := fun i b => b = true) (good E _) h (by omega) hw ⟨[], rfl, Nat.zero_le _, rfl, by simp⟩ ?_ ?_ ?_) ?_
  · intro i acc H1 e hi _
    exact et_yes
  · rintro i acc H1 e hi ⟨zs, rfl, hl, rfl, hZ⟩ _
    refine (he _ H1 e (by omega)).weak fun d' H2 _ p => ?_
    obtain ⟨a, rfl, za⟩ := p
    refine ⟨GI.more (by simp; omega) ⟨by simp, fun x hx => ?_⟩, E.noL _⟩
    rcases List.mem_append.mp hx with hx | hx
    · exact hZ x hx
    · rw [List.mem_singleton.mp hx]
      exact za
  · rintro i acc hi _ hf
    cases hf
  · rintro d H2 _ ⟨acc, rfl, zs, rfl, _, hl, hZ⟩
    exact ⟨zs, rfl, by rw [hl, Int.toNat_natCast], hZ⟩
/-- xs a list, each item kept or not as it is drawn: some of xs, in order -/
theorem ep_lcSub (E : Enc enc) (xs : List α) (Z : α → Prop) {j : Nat} (h : ED K ta σ H (.lst (xs.map enc))) (hz : xs.length ≤ 50000) (hw : ∀ x, wipe ((wipe σ vs).set j (some x)) vs = wipe σ vs)
    (ht : ∀ b v H1, Le H H1 → b ∈ xs → Rp K H1 v (enc b) → ET tt ((wipe σ vs).set j (some v)) H1 (fun x => x = true → Z b))
    (he : ∀ b v H1, Le H H1 → b ∈ xs → Rp K H1 v (enc b) → ED K te ((wipe σ vs).set j (some v)) H1 (enc b)) : EP K (tLc (iList K ta) (gName j) tt te vs) σ H (fun d _ => ∃ zs : List α, d = .lst (zs.map enc) ∧ zs.Sublist xs) := by
  refine EP.weak (ep_lcL (I := GI enc fun i zs => zs.Sublist (xs.take i)) (PT := fun i d b => True) (good E _) h hw ⟨[], rfl, Nat.zero_le _, by simp⟩ ?_ ?_ ?_) ?_
  · intro i d v acc H1 e hd r _
    obtain ⟨b, hb, rfl⟩ := map_at hd
    exact et_weak (ht b v H1 e (List.mem_of_getElem? hb) r) fun x p => trivial
  · rintro i d v acc H1 e hd r ⟨zs, rfl, hl, hs⟩ _
    obtain ⟨b, hb, rfl⟩ := map_at hd
    refine (he b v H1 e (List.mem_of_getElem? hb) r).weak fun d' H2 _ p => ?_
    have p' : d' = enc b := p
    subst p'
    have ht : xs.take (i + 1) = xs.take i ++ [b] := by
      rw [List.take_add_one, hb]
      rfl
    have hs2 : (zs ++ [b]).Sublist (xs.take (i + 1)) := by
      rw [ht]
      exact hs.append (List.Sublist.refl _)
    exact ⟨GI.more (Nat.le_trans hs2.length_le (Nat.le_trans (List.length_take_le' _ _) hz)) hs2, E.noL _⟩
  · rintro i d acc hd ⟨zs, rfl, hl, hs⟩ _
    exact ⟨zs, rfl, hl, hs.trans (List.take_sublist_take_left (Nat.le_succ i))⟩
  · rintro d H2 _ ⟨acc, rfl, zs, rfl, _, hs⟩
    rw [List.length_map, List.take_length] at hs
    exact ⟨zs, rfl, hs⟩
/-- [g (lo + i)] over range(lo, hi) -/
theorem ed_lcR2 (E : Enc enc) {lo hi : Int} (g : Int → α) {j : Nat} (h : EDA K ra σ H [.int lo, .int hi]) (hz : -50000 ≤ lo ∧ lo ≤ 50000 ∧ -50000 ≤ hi ∧ hi ≤ 50000 ∧ hi - lo ≤ 50000) (hw : ∀ x, wipe ((wipe σ vs).set j (some x)) vs = wipe σ vs)
    (he : ∀ (i : Nat) H1, Le H H1 → lo + (i : Int) < hi → ED K te ((wipe σ vs).set j (some (.int (lo + (i : Int))))) H1 (enc (g (lo + (i : Int))))) : ED K (tLc (iRng2 ra) (gName j) tYes te vs) σ H (.lst (((List.range (hi - lo).toNat).map fun i : Nat => g (lo + (i : Int))).map enc)) := fun H1 e Q q => h H1 e _ fun ws ds H2 e2 p r => by
  have p' : ds = [.int lo, .int hi] := p
  subst p'
  obtain ⟨v, w, rfl, r1, r2⟩ := rps2 r
  have e3 := rp_int r1
  have e4 := rp_int r2
  subst e3 e4
  have G := good (enc := enc) E fun i zs => zs = (List.range i).map fun i : Nat => g (lo + (i : Int))
  refine ⟨lo, hi, rfl, by omega, fun L hL => lc_it (walk_range (lo := lo) (n := (hi - lo).toNat)) (CI K H2 L (GI enc fun i zs => zs = (List.range i).map fun i : Nat => g (lo + (i : Int)))) (ci_start (I := GI enc fun i zs => zs = (List.range i).map fun i : Nat => g (lo + (i : Int))) hL ⟨[], rfl, Nat.zero_le _, by simp⟩) (fun _ _ _ _ => trivial) ?_ (fun H' c => ?_)⟩
  · rintro i x H' _ hi2 c ⟨rfl, rfl⟩
    refine ⟨hw _, ci_turn G c (fun acc ia => et_yes) ?_ (fun acc ia pt => nomatch pt)⟩
    rintro acc ⟨zs, rfl, hl, rfl⟩ _
    refine (he i H2 (e.trans e2) (by omega)).weak fun d' H3 _ p => ?_
    have p' : d' = enc (g (lo + (i : Int))) := p
    subst p'
    refine ⟨GI.more ?_ ?_, E.noL _⟩
    · rw [List.length_append, List.length_map, List.length_range, List.length_singleton]
      omega
    · show _ = (List.range (i + 1)).map fun i : Nat => g (lo + (i : Int))
      rw [List.range_succ, List.map_append]
      rfl
  · exact ci_end G c fun v d H3 e3 p r => q v d H3 (e2.trans e3) (by
      obtain ⟨acc, rfl, zs, rfl, _, rfl⟩ := p
      rfl) r
/-- [g p for a, b in pairs if f p] -/
theorem ed_lcT2 (E : Enc enc) (xs : List (Int × Int)) (f : Int × Int → Bool) (g : Int × Int → α) {j l : Nat} (h : ED K ta σ H (.tup (xs.map eP))) (hz : xs.length ≤ 50000) (hw : ∀ x y, wipe (((wipe σ vs).set j (some x)).set l (some y)) vs = wipe σ vs)
    (ht : ∀ p H1, Le H H1 → p ∈ xs → EB tt (((wipe σ vs).set j (some (.int p.1))).set l (some (.int p.2))) H1 (f p))
    (he : ∀ p H1, Le H H1 → p ∈ xs → f p = true → ED K te (((wipe σ vs).set j (some (.int p.1))).set l (some (.int p.2))) H1 (enc (g p))) :
    ED K (tLc (iTup K ta) (gTup K 2 (gCons (gName j) (gCons (gName l) gNil))) tt te vs) σ H (.lst (((xs.filter f).map g).map enc)) := fun H1 e Q q => h H1 e _ fun v d0 H2 e2 p r => by
  have p' : d0 = .tup (xs.map eP) := p
  subst p'
  obtain ⟨a, us, rfl, s, rr⟩ := rp_tup r
  have G := good (enc := enc) E fun i zs => zs = ((xs.take i).filter f).map g
  refine ⟨a, rfl, ⟨us, s⟩, fun L hL => lc_it (walk_tup (xs := us)) (CI K H2 L (GI enc fun i zs => zs = ((xs.take i).filter f).map g)) (ci_start (I := GI enc fun i zs => zs = ((xs.take i).filter f).map g) hL ⟨[], rfl, Nat.zero_le _, by simp⟩) (fun i H' _ c => c.2.1.sqt s) ?_ (fun H' c => ?_)⟩
  · rintro i x H' _ hi c ⟨rfl, hx⟩
    obtain ⟨d, h1, h2⟩ := rr.at' hx
    obtain ⟨b, hb, rfl⟩ := map_at h1
    obtain ⟨t, ys, rfl, st, r3⟩ := rp_tup (h2.le c.2.1)
    obtain ⟨v1, v2, rfl, q1, q2⟩ := rps2 r3
    have e3 := rp_int q1
    have e4 := rp_int q2
    subst e3 e4
    have hm := List.mem_of_getElem? hb
    refine ⟨t, _, rfl, st, rfl, _, _, rfl, _, _, rfl, rfl, hw _ _, ci_turn G c (PT := fun x => x = f b) (fun acc ia => ht b H2 (e.trans e2) hm) ?_ ?_⟩
    · rintro acc ⟨zs, rfl, hl, rfl⟩ hf
      refine (he b H2 (e.trans e2) hm hf.symm).weak fun d' H3 _ p => ?_
      have p' : d' = enc (g b) := p
      subst p'
      refine ⟨GI.more ?_ (fm_yes hb hf.symm).symm, E.noL _⟩
      rw [← fm_yes hb hf.symm]
      exact Nat.le_trans (fm_len _ f g) (Nat.le_trans (List.length_take_le _ _) (by
        have := (List.getElem?_eq_some_iff.mp hb).1
        omega))
    · rintro acc ⟨zs, rfl, hl, rfl⟩ hf
      exact ⟨_, rfl, hl, (fm_no hb hf.symm).symm⟩
  · rw [rr.len, List.length_map] at c
    exact ci_end G c fun v d H3 e3 p r => q v d H3 (e2.trans e3) (by
      obtain ⟨acc, rfl, zs, rfl, _, rfl⟩ := p
      show D.lst _ = D.lst _
      rw [List.take_length]) r
end
end W1

set_option maxRecDepth 100000
set_option maxHeartbeats 4000000
/-! the same, something behind -/
namespace W1
open PySem PyProof.Rows L2
section
variable {K : PySem.W.Frag} {σ : L2.St} {H H' : Hp} {ta tb tc te : TE} {t u : TT} {x y z v : V} {d d1 d2 d3 : D} {P P1 P2 P3 : Pd} {D1 : Ends} {tu tw tz : TS} {g : TG}
theorem q_asg {i : Nat} (h : EP K te σ H P) (k : ∀ v d H1, Le H H1 → P d H1 → Rp K H1 v d → tz D1 (σ.set i (some v)) H1) : tSeq (tAsg te (gName i)) tz D1 σ H := s_asg (D1 := { D1 with nx := tz D1 }) h k
theorem q_asgD {i : Nat} (h : ED K te σ H d) (k : ∀ v H1, Le H H1 → Rp K H1 v d → tz D1 (σ.set i (some v)) H1) : tSeq (tAsg te (gName i)) tz D1 σ H := s_asgD (D1 := { D1 with nx := tz D1 }) h k
theorem q_tup2 {i j : Nat} (h : ED K te σ H (.tup [d1, d2])) (k : ∀ v w H1, Le H H1 → Rp K H1 v d1 → Rp K H1 w d2 → tz D1 ((σ.set i (some v)).set j (some w)) H1) : tSeq (tAsg te (gTup K 2 (gCons (gName i) (gCons (gName j) gNil)))) tz D1 σ H := s_tup2 (D1 := { D1 with nx := tz D1 }) h k
theorem q_tup3 {i j l : Nat} {PA : List D → Hp → Prop} {ta : TA} (h : EA K ta σ H PA) (hl : ∀ ds H1, PA ds H1 → ds.length = 3)
    (k : ∀ v w u d1 d2 d3 H1, Le H H1 → PA [d1, d2, d3] H1 → Rp K H1 v d1 → Rp K H1 w d2 → Rp K H1 u d3 → ∀ H2, Le H1 H2 → tz D1 (((σ.set i (some v)).set j (some w)).set l (some u)) H2) : tSeq (tAsg (tTup ta) (gTup K 3 (gCons (gName i) (gCons (gName j) (gCons (gName l) gNil))))) tz D1 σ H := s_tup3 (D1 := { D1 with nx := tz D1 }) h hl k
theorem q_par2 {i j : Nat} {ta : TA} {PA : List D → Hp → Prop} (h : EA K ta σ H PA) (hl : ∀ ds H1, PA ds H1 → ds.length = 2)
    (k : ∀ v w d1 d2 H1, Le H H1 → PA [d1, d2] H1 → Rp K H1 v d1 → Rp K H1 w d2 → tz D1 ((σ.set i (some v)).set j (some w)) H1) : tSeq (tPar i j ta) tz D1 σ H := s_par2 (D1 := { D1 with nx := tz D1 }) h hl k
theorem q_drop (h : EP K te σ H P) (k : ∀ H1, Le H H1 → tz D1 σ H1) : tSeq (tDrop te) tz D1 σ H := s_drop (D1 := { D1 with nx := tz D1 }) h k
theorem q_if {P : Bool → Prop} (h : ET t σ H P) (h1 : P true → ∀ H1, Le H H1 → tu { D1 with nx := tz D1 } σ H1) (h2 : P false → ∀ H1, Le H H1 → tw { D1 with nx := tz D1 } σ H1) : tSeq (tIfS t tu tw) tz D1 σ H := s_if (D1 := { D1 with nx := tz D1 }) h h1 h2
theorem q_ifB {b : Bool} (h : EB t σ H b) (h1 : b = true → ∀ H1, Le H H1 → tu { D1 with nx := tz D1 } σ H1) (h2 : b = false → ∀ H1, Le H H1 → tw { D1 with nx := tz D1 } σ H1) : tSeq (tIfS t tu tw) tz D1 σ H := s_ifB (D1 := { D1 with nx := tz D1 }) h h1 h2
theorem q_set {l : Addr} {vs : List V} {ds : List D} {i : Int} (hl : H l = some (.lst vs)) (nh : NotH vs) (hr : vs.length = ds.length) (h : EP K te σ H P) (ho : ∀ H1, Le H H1 → ED K ta σ H1 (.obj (.ref l))) (hi : ∀ H1, Le H H1 → ED K tb σ H1 (.int i)) (h0 : 0 ≤ i) (hj : i < ds.length)
    (k : ∀ y d H1 H3, Le H H1 → P d H1 → Le H1 H3 → Rp K H3 y d → H3 l = some (.lst vs) → tz D1 σ (upd H3 l (.lst (vs.set i.toNat y)))) : tSeq (tAsg te (gSub ta tb rSetL)) tz D1 σ H := s_set (D1 := { D1 with nx := tz D1 }) hl nh hr h ho hi h0 hj k
theorem q_app {l : Addr} {vs : List V} (hl : H l = some (.lst vs)) (nh : NotH vs) (ha : ED K ta σ H (.obj (.ref l))) (h : ∀ H1, Le H H1 → EP K te σ H1 P) (hz : vs.length < 100000)
    (k : ∀ y d H1, Le H H1 → P d H1 → Rp K H1 y d → H1 l = some (.lst vs) → tz D1 σ (upd H1 l (.lst (vs ++ [y])))) : tSeq (tDrop (tBM K "list" rAppend ta (tCons te tNil))) tz D1 σ H := s_app (D1 := { D1 with nx := tz D1 }) hl nh ha h hz k
theorem q_ext {l : Addr} {vs : List V} {ds : List D} (hl : H l = some (.lst vs)) (nh : NotH vs) (ha : ED K ta σ H (.obj (.ref l))) (h : ∀ H1, Le H H1 → ED K te σ H1 (.lst ds)) (hz : vs.length + ds.length ≤ 100000)
    (k : ∀ ws H1, Le H H1 → Rps K H1 ws ds → H1 l = some (.lst vs) → tz D1 σ (upd H1 l (.lst (vs ++ ws)))) : tSeq (tDrop (tBM K "list" rExtend ta (tCons te tNil))) tz D1 σ H := s_ext (D1 := { D1 with nx := tz D1 }) hl nh ha h hz k
theorem q_forT {ds : List D} (h : ED K te σ H (.tup ds)) (nl : ∀ d ∈ ds, NoL d)
    (k : ∀ H1, Le H H1 → ∃ Pv : Nat → L2.St → Hp → Prop, Pv 0 σ H1 ∧ (∀ i σ' H', i ≤ ds.length → Pv i σ' H' → LeT H1 H') ∧
      (∀ i d v σ' H', ds[i]? = some d → Rp K H' v d → Pv i σ' H' → g v σ' H' fun σ2 H2 => tu ({ D1 with nx := Pv (i + 1), ct := Pv (i + 1), bk := tz D1 }) σ2 H2) ∧ ∀ σ' H', Pv ds.length σ' H' → tz D1 σ' H') : tSeq (tFor (iTup K te) g tu) tz D1 σ H := s_forT (D1 := { D1 with nx := tz D1 }) h nl k
theorem q_forL {ds : List D} (h : ED K te σ H (.lst ds)) (nl : ∀ d ∈ ds, NoL d)
    (k : ∀ a vs H1, Le H H1 → H1 a = some (.lst vs) → Rps K H1 vs ds → ∃ Pv : Nat → L2.St → Hp → Prop, Pv 0 σ H1 ∧ (∀ i σ' H', i ≤ ds.length → Pv i σ' H' → LeT H1 H' ∧ H' a = some (.lst vs)) ∧
      (∀ i d v σ' H', ds[i]? = some d → Rp K H' v d → Pv i σ' H' → g v σ' H' fun σ2 H2 => tu ({ D1 with nx := Pv (i + 1), ct := Pv (i + 1), bk := tz D1 }) σ2 H2) ∧ ∀ σ' H', Pv ds.length σ' H' → tz D1 σ' H') : tSeq (tFor (iList K te) g tu) tz D1 σ H := s_forL (D1 := { D1 with nx := tz D1 }) h nl k
theorem q_forR1 {ta : TA} {n : Int} (h : EDA K ta σ H [.int n]) (hn : -100000 ≤ n ∧ n ≤ 100000)
    (k : ∀ H1, Le H H1 → ∃ Pv : Nat → L2.St → Hp → Prop, Pv 0 σ H1 ∧
      (∀ (i : Nat) σ' H', (i : Int) < n → Pv i σ' H' → g (.int (i : Int)) σ' H' fun σ2 H2 => tu ({ D1 with nx := Pv (i + 1), ct := Pv (i + 1), bk := tz D1 }) σ2 H2) ∧ ∀ σ' H', Pv n.toNat σ' H' → tz D1 σ' H') : tSeq (tFor (iRng1 ta) g tu) tz D1 σ H := s_forR1 (D1 := { D1 with nx := tz D1 }) h hn k
theorem q_forR2 {ta : TA} {lo n : Int} (h : EDA K ta σ H [.int lo, .int n]) (hl : -100000 ≤ lo ∧ lo ≤ 100000 ∧ -100000 ≤ n ∧ n ≤ 100000)
    (k : ∀ H1, Le H H1 → ∃ Pv : Nat → L2.St → Hp → Prop, Pv 0 σ H1 ∧
      (∀ (i : Nat) σ' H', lo + (i : Int) < n → Pv i σ' H' → g (.int (lo + (i : Int))) σ' H' fun σ2 H2 => tu ({ D1 with nx := Pv (i + 1), ct := Pv (i + 1), bk := tz D1 }) σ2 H2) ∧ ∀ σ' H', Pv (n - lo).toNat σ' H' → tz D1 σ' H') : tSeq (tFor (iRng2 ta) g tu) tz D1 σ H := s_forR2 (D1 := { D1 with nx := tz D1 }) h hl k
theorem q_forE {ta : TA} {j : Nat} {ds : List D} (h : EDA K ta σ H [.tup ds]) (nl : ∀ d ∈ ds, NoL d)
    (k : ∀ H1, Le H H1 → ∃ Pv : Nat → L2.St → Hp → Prop, Pv 0 σ H1 ∧ (∀ i σ' H', i ≤ ds.length → Pv i σ' H' → LeT H1 H') ∧
      (∀ (i : Nat) d v σ' H' H2, ds[i]? = some d → Pv i σ' H' → Le H' H2 → Rp K H2 v d → g v (σ'.set j (some (.int (i : Int)))) H2 fun σ2 H3 => gNil [] σ2 H3 fun σ4 H4 => tu ({ D1 with nx := Pv (i + 1), ct := Pv (i + 1), bk := tz D1 }) σ4 H4) ∧ ∀ σ' H', Pv ds.length σ' H' → tz D1 σ' H')  : tSeq (tFor (iEnumT K ta) (gTup K 2 (gCons (gName j) (gCons g gNil))) tu) tz D1 σ H := s_forE (D1 := { D1 with nx := tz D1 }) h nl k
theorem q_when {P : Bool → Prop} (h : ET t σ H P) (h1 : P true → ∀ H1, Le H H1 → tu { D1 with nx := tz D1 } σ H1) (h2 : P false → ∀ H1, Le H H1 → tz D1 σ H1) : tSeq (tIfS t tu tNext) tz D1 σ H := s_if (D1 := { D1 with nx := tz D1 }) h h1 h2
theorem q_whenB {b : Bool} (h : EB t σ H b) (h1 : b = true → ∀ H1, Le H H1 → tu { D1 with nx := tz D1 } σ H1) (h2 : b = false → ∀ H1, Le H H1 → tz D1 σ H1) : tSeq (tIfS t tu tNext) tz D1 σ H := s_ifB (D1 := { D1 with nx := tz D1 }) h h1 h2
theorem q_cut {M : L2.St → Hp → Prop} (h : tu { D1 with nx := M } σ H) (k : ∀ σ' H', M σ' H' → tz D1 σ' H') : Evl.tCut tu tz D1 σ H := ⟨M, h, k⟩
end
end W1

set_option maxRecDepth 100000
set_option maxHeartbeats 4000000
/-! new lists -/
namespace W1
open PySem PyProof.Rows L2
section
variable {K : PySem.W.Frag} {σ : L2.St} {H H' : Hp} {ta tb tc te : TE} {t u : TT} {d d1 d2 d3 : D} {P P1 P2 P3 : Pd} {D1 : Ends} {tu tw tz : TS} {g : TG}
/-- e makes a new list of data ds of which P holds -/
def EF (K : PySem.W.Frag) (te : TE) (σ : L2.St) (H : Hp) (P : List D → Prop) : Prop := ∀ H1, Le H H1 → ∀ Q : VK, (∀ p vs ds H2, H1 p = none → Le H1 H2 → H2 p = some (.lst vs) → NotH vs → Rps K H2 vs ds → P ds → Q (.ref p) H2) → te σ H1 Q
abbrev EFD (K : PySem.W.Frag) (te : TE) (σ : L2.St) (H : Hp) (ds : List D) : Prop := EF K te σ H fun x => x = ds
theorem EF.ep {PL : List D → Prop} (h : EF K te σ H PL) : EP K te σ H (fun d _ => ∃ ds, d = .lst ds ∧ PL ds) := fun H1 e Q q => h H1 e Q fun p vs ds H2 _ e2 hp nh r pl => q _ (.lst ds) H2 e2 ⟨ds, rfl, pl⟩ (.lst hp nh r)
theorem EFD.ed {ds : List D} (h : EFD K te σ H ds) : ED K te σ H (.lst ds) := fun H1 e Q q => h H1 e Q fun p vs ds' H2 _ e2 hp nh r pl => by
  have p' : ds' = ds := pl
  subst p'
  exact q _ (.lst ds') H2 e2 rfl (.lst hp nh r)
theorem ef_lst {A : TA} {ds : List D} (h : EDA K A σ H ds) (hl : ds.length ≤ 100000) (hc : calmL ds = true) : EFD K (tLst A) σ H ds := fun H1 e Q q => h H1 e _ fun vs es H2 e2 p r => by
  have p' : es = ds := p
  subst p'
  exact ⟨by rw [r.len]; exact Evl.sz_of hl, fun a na => q a vs es _ (e2.fresh na) (e2.trans (Le.new na)) upd_same (calm_notH hc r) (r.le (Le.new na)) rfl⟩
theorem ef_lstOfT {ds : List D} (h : ED K ta σ H (.tup ds)) (hu : Uni ds) : EFD K (tCB (rLstOf K) (tCons ta tNil)) σ H ds := fun H1 e Q q => h H1 e _ fun v d H2 e2 p r => by
  have p' : d = .tup ds := p
  subst p'
  obtain ⟨a, xs, rfl, s, rr⟩ := rp_tup r
  refine ⟨a, xs, rfl, .inr s, fun l hl => ?_⟩
  have rf := rr.le (Le.new (o := .lst xs) hl)
  exact q l xs ds _ (e2.fresh hl) (e2.trans (Le.new hl)) upd_same (hu.notH rf) rf rfl
theorem ef_lstOfL {ds : List D} (h : ED K ta σ H (.lst ds)) : EFD K (tCB (rLstOf K) (tCons ta tNil)) σ H ds := fun H1 e Q q => h H1 e _ fun v d H2 e2 p r => by
  have p' : d = .lst ds := p
  subst p'
  obtain ⟨a, xs, rfl, s, nh, rr⟩ := rp_lst r
  exact ⟨a, xs, rfl, .inl (SqL.of s), fun l hl => q l xs ds _ (e2.fresh hl) (e2.trans (Le.new hl)) upd_same nh (rr.le (Le.new hl)) rfl⟩
theorem ef_rep {ds : List D} {k : Int} (ha : ED K ta σ H (.lst ds)) (hb : ED K tb σ H (.int k)) (h1 : 0 ≤ k ∧ k ≤ 1000) (hz : ds.length ≤ 1000) (hu : Uni (List.replicate k.toNat ds).flatten) : EFD K (tOp rRep ta tb) σ H (List.replicate k.toNat ds).flatten := fun H1 e Q q =>
  ha H1 e _ fun x d1 H2 e2 p1 r1 => hb H2 (e.trans e2) _ fun y d2 H3 e3 p2 r2 => by
    have p1' : d1 = .lst ds := p1
    have p2' : d2 = .int k := p2
    subst p1' p2'
    obtain ⟨a, xs, rfl, s, nh, rr⟩ := rp_lst (r1.le e3)
    have hm : xs.length * k.toNat ≤ 1000 * 1000 := Nat.mul_le_mul (by rw [rr.len]; exact hz) (by omega)
    refine ⟨a, k, xs, rfl, rp_int r2, s, by omega, by omega, Nat.le_trans hm (by decide), fun p np => ?_⟩
    have rf := (rr.le (Le.new (o := .lst (List.replicate k.toNat xs).flatten) np)).flat k.toNat
    exact q p _ _ _ ((e2.trans e3).fresh np) ((e2.trans e3).trans (Le.new np)) upd_same (hu.notH rf) rf rfl
theorem s_asgF {i : Nat} {PL : List D → Prop} (h : EF K te σ H PL) (k : ∀ p vs ds H1, H p = none → Le H H1 → H1 p = some (.lst vs) → NotH vs → Rps K H1 vs ds → PL ds → D1.nx (σ.set i (some (.ref p))) H1) : tAsg te (gName i) D1 σ H := h H (Le.refl _) _ k
theorem q_asgF {i : Nat} {PL : List D → Prop} (h : EF K te σ H PL) (k : ∀ p vs ds H1, H p = none → Le H H1 → H1 p = some (.lst vs) → NotH vs → Rps K H1 vs ds → PL ds → tz D1 (σ.set i (some (.ref p))) H1) : tSeq (tAsg te (gName i)) tz D1 σ H := s_asgF (D1 := { D1 with nx := tz D1 }) h k
end
end W1

set_option maxRecDepth 100000
set_option maxHeartbeats 4000000
/-! rules whose reading names the written part, with its name given -/
namespace W1
open PySem PyProof.Rows L2
section
variable {X : Cx} {K : PySem.W.Frag} {w : World}
theorem kop_in (h : X.K = K := by rfl) : OpR X (compareOp .In) (rIn K false) := h ▸ op_in_seq
theorem kop_nin (h : X.K = K := by rfl) : OpR X (compareOp .NotIn) (rIn K true) := h ▸ op_notIn_seq
theorem kop_catA (h : X.K = K := by rfl) : OpR X (binaryOp .Add) (rCatA K) := h ▸ op_catA
theorem kop_rep1 (h : X.K = K := by rfl) : OpR X (binaryOp .Mult) (rRep1 K) := h ▸ op_rep1
theorem kop_eqD (hu : X.A.units + 64 < cLine) (h : X.K = K := by rfl) : OpR X (compareOp .Eq) (rEqD K) := h ▸ op_eqD hu
theorem kop_neD (hu : X.A.units + 64 < cLine) (h : X.K = K := by rfl) : OpR X (compareOp .NotEq) (rNeD K) := h ▸ op_neD hu
theorem kop_ltT (hu : X.A.units < cLine) (h : X.K = K := by rfl) : OpR X (compareOp .Lt) (rLtT K) := h ▸ op_ltT hu
theorem kop_leT (hu : X.A.units < cLine) (h : X.K = K := by rfl) : OpR X (compareOp .LtE) (rLeT K) := h ▸ op_leT hu
theorem kix_tup (h : X.K = K := by rfl) : IxR X (rIxT K) := h ▸ ix_tup
theorem kix_list (h : X.K = K := by rfl) : IxR X (rIxL K) := h ▸ ix_list
theorem ksl_tup (h : X.K = K := by rfl) : SlR X (rSlA K) := h ▸ sl_tupA
theorem ksl_list (h : X.K = K := by rfl) : SlR X (rSlL K) := h ▸ sl_list
theorem kc_len (h : X.K = K := by rfl) : CallR X (.builtin "len") (fun xs H Q => ∃ p ys, xs = [.ref p] ∧ (SqL K H p ys ∨ SqT K H p ys) ∧ Q (.int ys.length) H) := h ▸ call_len_seq
theorem kc_tuple (h : X.K = K := by rfl) : CallR X (.type "tuple") (rTupOf K) := h ▸ call_tuple_of
theorem kc_list (h : X.K = K := by rfl) : CallR X (.type "list") (rLstOf K) := h ▸ call_list_of
theorem kc_sortedI (h : X.K = K := by rfl) : CallR X (.builtin "sorted") (rSortedI K) := h ▸ cr_sortedI
theorem kc_all (hc : X.calm = true) (h : X.K = K := by rfl) : CallR X (.builtin "all") (rAll K) := h ▸ cr_all hc
theorem kc_setL (hc : X.calm = true) (h : X.K = K := by rfl) (h2 : X.w = w := by rfl) : CallR X (.type "set") (rSetOfL K w) := h2 ▸ h ▸ cr_setL hc
theorem kc_sortedSet (hc : X.calm = true) (h2 : X.w = w := by rfl) : CallR X (.builtin "sorted") (rSortedSet w) := h2 ▸ cr_sortedSet hc
theorem kc_isi (h : X.K = K := by rfl) : CallR X (.builtin "isinstance") (rIsi K) := h ▸ call_isi
theorem kpg_tup {es : List Expr} {k : Nat} {t : TGs} {n : Nat} {pos : Pos} (hc : X.calm = true) (hp : PGs X es t) (hn : (assignEach es X.env).length = n := by rfl) (hst : (assignEach es X.env).findIdx? (·.1) = none := by rfl) (h : X.K = K := by rfl) :
    PG X (.Tuple es k pos) (gTup K n t) := h ▸ pg_tup hc hp hn hst
theorem kpe_fld {e : Expr} {f : Str} {ta : TE} {pos : Pos} (he : PE X e ta) (hb : attributeBase e f X.env (eval e X.env) = eval e X.env := by rfl) (h : X.K = K := by rfl) : PE X (.Attribute e f pos) (tFld K ta f) := h ▸ pe_fld he hb
theorem kpi_list {l tg : Expr} {tl : TE} (hl : PE X l tl) (h : X.K = K := by rfl) : PI X tg l (iList K tl) := h ▸ pi_list hl
theorem kpi_tup {l tg : Expr} {tl : TE} (hl : PE X l tl) (h : X.K = K := by rfl) : PI X tg l (iTup K tl) := h ▸ pi_tup hl
theorem kpi_enumT {e : Expr} {ta : TA} {p pos tp : Pos} {elts : List Expr} {kk : Nat} (hg : Gl X "enumerate") (hm : X.mg "enumerate" = none) (ha : PA X [e] ta) (hs : starEach [e] X.env = [(false, eval e X.env)] := by rfl) (h : X.K = K := by rfl) :
    PI X (.Tuple elts kk tp) (.Call (.Name "enumerate" p) [e] [] pos) (iEnumT K ta) := h ▸ pi_enumT hg hm ha hs
theorem kpe_revL {e : Expr} {te : TE} {k : Nat} {p1 p2 p3 pos : Pos} (he : PE X e te) (h : X.K = K := by rfl) : PE X (.Subscript e (.Slice none none (some (.UnaryOp .USub (.Constant (.int 1) k p1) p2)) p3) pos) (tRevL K te) := h ▸ pe_revL he
end
end W1

set_option maxRecDepth 100000
set_option maxHeartbeats 4000000
namespace W1
open PySem PyProof.Rows L2
section
variable {K : PySem.W.Frag} {σ : L2.St} {H H' : Hp} {ta tb tc te : TE} {tt : TT} {ra : TA} {t u : TT} {d d1 d2 d3 : D} {P P1 P2 P3 : Pd} {D1 : Ends} {tu tw tz : TS} {g : TG} {vs : List Nat} {α : Type} {enc : α → D}
/-- a loop over a list that is known by what holds of it -/
theorem s_forLP {PL : List α → Prop} (E : Enc enc) (h : EP K te σ H fun d _ => ∃ xs : List α, d = .lst (xs.map enc) ∧ PL xs)
    (k : ∀ xs a us H1, PL xs → Le H H1 → H1 a = some (.lst us) → NotH us → ∃ Pv : Nat → L2.St → Hp → Prop, Pv 0 σ H1 ∧ (∀ i σ' H', i ≤ xs.length → Pv i σ' H' → LeT H1 H' ∧ H' a = some (.lst us)) ∧
      (∀ i x v σ' H', xs[i]? = some x → Rp K H' v (enc x) → Pv i σ' H' → g v σ' H' fun σ2 H2 => tu { D1 with nx := Pv (i + 1), ct := Pv (i + 1), bk := D1.nx } σ2 H2) ∧ ∀ σ' H', Pv xs.length σ' H' → D1.nx σ' H') : tFor (iList K te) g tu D1 σ H := h H (Le.refl _) _ fun v d0 H1 e p r => by
  obtain ⟨xs, rfl, pl⟩ := p
  obtain ⟨a, us, rfl, s, nh, rr⟩ := rp_lst r
  obtain ⟨Pv, h0, hle, hs, hd⟩ := k xs a us H1 pl e s nh
  have el : us.length = xs.length := by rw [rr.len, List.length_map]
  refine ⟨a, rfl, ⟨us, SqL.of s⟩, for_it (walk_list (xs := us)) Pv h0 (fun i σ' H' hi q => SqL.of (hle i σ' H' (by rw [← el]; exact hi) q).2) ?_ (fun σ' H' q => hd σ' H' (by rw [← el]; exact q))⟩
  rintro i x σ' H' _ hi q ⟨rfl, hx⟩
  obtain ⟨d, h1, h2⟩ := rr.at' hx
  obtain ⟨b, hb, rfl⟩ := map_at h1
  exact hs i b x σ' _ hb (h2.leT (hle i σ' _ (by rw [← el]; omega) q).1 (E.noL _)) q
theorem q_forLP {PL : List α → Prop} (E : Enc enc) (h : EP K te σ H fun d _ => ∃ xs : List α, d = .lst (xs.map enc) ∧ PL xs)
    (k : ∀ xs a us H1, PL xs → Le H H1 → H1 a = some (.lst us) → NotH us → ∃ Pv : Nat → L2.St → Hp → Prop, Pv 0 σ H1 ∧ (∀ i σ' H', i ≤ xs.length → Pv i σ' H' → LeT H1 H' ∧ H' a = some (.lst us)) ∧
      (∀ i x v σ' H', xs[i]? = some x → Rp K H' v (enc x) → Pv i σ' H' → g v σ' H' fun σ2 H2 => tu { D1 with nx := Pv (i + 1), ct := Pv (i + 1), bk := tz D1 } σ2 H2) ∧ ∀ σ' H', Pv xs.length σ' H' → tz D1 σ' H') : tSeq (tFor (iList K te) g tu) tz D1 σ H := s_forLP (D1 := { D1 with nx := tz D1 }) E h k
/-- [x for x in range(n) if ..] -/
theorem ep_lcRS {n : Nat} {j : Nat} (h : EDA K ra σ H [.int (n : Int)]) (hz : n ≤ 50000) (hw : ∀ x, wipe ((wipe σ vs).set j (some x)) vs = wipe σ vs)
    (ht : ∀ (i : Nat) H1, Le H H1 → i < n → ET tt ((wipe σ vs).set j (some (.int (i : Int)))) H1 fun _ => True)
    (he : ∀ (i : Nat) H1, Le H H1 → i < n → ED K te ((wipe σ vs).set j (some (.int (i : Int)))) H1 (.int (i : Int))) :
    EP K (tLc (iRng1 ra) (gName j) tt te vs) σ H (fun d _ => ∃ zs : List Int, d = .lst (zs.map .int) ∧ zs.length ≤ n ∧ ∀ z ∈ zs, 0 ≤ z ∧ z < n) := by
  refine EP.weak (ep_lcR1 (I := GI D.int fun i zs => zs.length ≤ i ∧ ∀ z ∈ zs, 0 ≤ z ∧ z < (n : Int)) (PT := fun i b => True) (good enc_int _) h (by omega) hw ⟨[], rfl, Nat.zero_le _, Nat.le_refl _, by simp⟩ ?_ ?_ ?_) ?_
  · intro i acc H1 e hi _
    exact ht i H1 e (by omega)
  · rintro i acc H1 e hi ⟨zs, rfl, hl, hl2, hZ⟩ _
    refine (he i H1 e (by omega)).weak fun d' H2 _ p => ?_
    have p' : d' = .int (i : Int) := p
    subst p'
    refine ⟨GI.more (by simp; omega) ⟨by simp; omega, fun x hx => ?_⟩, .int _⟩
    rcases List.mem_append.mp hx with hx | hx
    · exact hZ x hx
    · rw [List.mem_singleton.mp hx]
      omega
  · rintro i acc hi ⟨zs, rfl, hl, hl2, hZ⟩ _
    exact ⟨zs, rfl, hl, by omega, hZ⟩
  · rintro d H2 _ ⟨acc, rfl, zs, rfl, _, hl, hZ⟩
    rw [Int.toNat_natCast] at hl
    exact ⟨zs, rfl, hl, hZ⟩
/-- new, known by what holds of it -/
theorem EP.anyL {PL : List D → Prop} (h : EP K te σ H fun d _ => ∃ ds, d = .lst ds ∧ PL ds) : EP K te σ H fun d _ => ∃ ds, d = .lst ds := h.weak fun d _ _ ⟨ds, e, _⟩ => ⟨ds, e⟩
theorem EA_weak {A : TA} {P1 P2 : List D → Hp → Prop} (h : EA K A σ H P1) (w : ∀ ds H2, P1 ds H2 → P2 ds H2) : EA K A σ H P2 := fun H1 a Q q => h H1 a Q fun vs ds H2 b p r => q vs ds H2 b (w ds H2 p) r
/-! promises of a new list -/
def spF (K : PySem.W.Frag) (R : List D → Hp → (List D → Prop) → Prop) : Sp := fun vs H Q _ => ∃ ds PL, Rps K H vs ds ∧ R ds H PL ∧ ∀ p us es H2, H p = none → Le H H2 → H2 p = some (.lst us) → NotH us → Rps K H2 us es → PL es → Q (.ref p) H2
theorem ef_call {R : List D → Hp → (List D → Prop) → Prop} {E : XK} {A : TA} {ds : List D} {PL : List D → Prop} (h : EDA K A σ H ds) (hr : ∀ H2, Le H H2 → R ds H2 PL) : EF K (tCall (spF K R) [] E A) σ H PL := fun H1 e Q q =>
  h H1 e _ fun vs es H2 e2 p r => by
    have p' : es = ds := p
    subst p'
    exact ⟨es, PL, by rw [List.append_nil]; exact r, hr H2 (e.trans e2), fun a us fs H3 na e3 ha nh r3 pl => q a us fs H3 (e2.fresh na) (e2.trans e3) ha nh r3 pl⟩
theorem ef_sortedI {PN : List Int → Prop} (h : EP K ta σ H fun d _ => ∃ ns : List Int, d = .lst (ns.map .int) ∧ PN ns) :
    EF K (tCB (rSortedI K) (tCons ta tNil)) σ H (fun ds => ∃ ns ns' : List Int, ds = ns'.map .int ∧ PN ns ∧ ns'.Perm ns ∧ ns'.Pairwise (· ≤ ·)) := fun H1 e Q q => h H1 e _ fun v d H2 e2 p r => by
  obtain ⟨ns, rfl, pn⟩ := p
  obtain ⟨a, xs, rfl, s, nh, rr⟩ := rp_lst r
  have ex := ints_rps rr
  subst ex
  exact ⟨a, ns, rfl, SqL.of s, fun ns' p hp hs hn => q p _ _ _ (e2.fresh hn) (e2.trans (Le.new hn)) upd_same (notH_ints _) (rps_ints _) ⟨ns, ns', rfl, pn, hp, hs⟩⟩
theorem s_retF {PL : List D → Prop} (h : EF K te σ H PL) (k : ∀ p us ds H1, H p = none → Le H H1 → H1 p = some (.lst us) → NotH us → Rps K H1 us ds → PL ds → D1.rt (.ref p) H1) : tRet te D1 σ H := h H (Le.refl _) _ k
theorem EF.le {PL : List D → Prop} (e : Le H H') (h : EF K te σ H PL) : EF K te σ H' PL := fun H1 a Q q => h H1 (e.trans a) Q q
theorem s_forLF {PL : List α → Prop} (E : Enc enc) (h : EF K te σ H fun ds => ∃ xs : List α, ds = xs.map enc ∧ PL xs)
    (k : ∀ xs a us H1, PL xs → H a = none → Le H H1 → H1 a = some (.lst us) → NotH us → ∃ Pv : Nat → L2.St → Hp → Prop, Pv 0 σ H1 ∧ (∀ i σ' H', i ≤ xs.length → Pv i σ' H' → LeT H1 H' ∧ H' a = some (.lst us)) ∧
      (∀ i x v σ' H', xs[i]? = some x → Rp K H' v (enc x) → Pv i σ' H' → g v σ' H' fun σ2 H2 => tu { D1 with nx := Pv (i + 1), ct := Pv (i + 1), bk := D1.nx } σ2 H2) ∧ ∀ σ' H', Pv xs.length σ' H' → D1.nx σ' H') : tFor (iList K te) g tu D1 σ H := h H (Le.refl _) _ fun a us ds H1 na e s nh rr p => by
  obtain ⟨xs, rfl, pl⟩ := p
  obtain ⟨Pv, h0, hle, hs, hd⟩ := k xs a us H1 pl na e s nh
  have el : us.length = xs.length := by rw [rr.len, List.length_map]
  refine ⟨a, rfl, ⟨us, SqL.of s⟩, for_it (walk_list (xs := us)) Pv h0 (fun i σ' H' hi q => SqL.of (hle i σ' H' (by rw [← el]; exact hi) q).2) ?_ (fun σ' H' q => hd σ' H' (by rw [← el]; exact q))⟩
  rintro i x σ' H' _ hi q ⟨rfl, hx⟩
  obtain ⟨d, h1, h2⟩ := rr.at' hx
  obtain ⟨b, hb, rfl⟩ := map_at h1
  exact hs i b x σ' _ hb (h2.leT (hle i σ' _ (by rw [← el]; omega) q).1 (E.noL _)) q
theorem q_forLF {PL : List α → Prop} (E : Enc enc) (h : EF K te σ H fun ds => ∃ xs : List α, ds = xs.map enc ∧ PL xs)
    (k : ∀ xs a us H1, PL xs → H a = none → Le H H1 → H1 a = some (.lst us) → NotH us → ∃ Pv : Nat → L2.St → Hp → Prop, Pv 0 σ H1 ∧ (∀ i σ' H', i ≤ xs.length → Pv i σ' H' → LeT H1 H' ∧ H' a = some (.lst us)) ∧
      (∀ i x v σ' H', xs[i]? = some x → Rp K H' v (enc x) → Pv i σ' H' → g v σ' H' fun σ2 H2 => tu { D1 with nx := Pv (i + 1), ct := Pv (i + 1), bk := tz D1 } σ2 H2) ∧ ∀ σ' H', Pv xs.length σ' H' → tz D1 σ' H') : tSeq (tFor (iList K te) g tu) tz D1 σ H := s_forLF (D1 := { D1 with nx := tz D1 }) E h k
end
section
variable {P : Program} {w : World} {K : PySem.W.Frag} {mg : Str → Option Value} {base : Heap}
theorem defF {x : Str} {st : Stmt} {N ps : List Str} {k : Nat} {R : List D → Hp → (List D → Prop) → Prop} (g : GDef K mg x st ps) (S : FnScope N ps (defScope st)) (hl : ∀ ds H Pd, R ds H Pd → ds.length = ps.length)
    (body : ∀ (cdv : Value) (A : Around) (outer : List Env) (s : Shared) (f : Addr) (H : Hp) (vs : List V) (ds : List D) (PL : List D → Prop) (Q : VK) (E : XK), Room k (A.deeper (envOfC x (defScope st) s.heap.objs.size f cdv)) → Rps K H vs ds → R ds H PL →
      (∀ p us es H2, H p = none → Le H H2 → H2 p = some (.lst us) → NotH us → Rps K H2 us es → PL es → Q (.ref p) H2) →
      ∃ t, PSs (cxOf CX0 P w K mg base N x (defScope st) f cdv A outer s H E).nox (defBody st) t ∧ t { nx := fun _ H' => Q .non H', rt := Q } (start N vs) H) : Def P w K mg base (k + 1) x ps (spF K R) := by
  refine defS g S (fun vs H Q E h => ?_) fun cdv A outer s f H vs Q E hr h => ?_
  · obtain ⟨ds, Pd, r, h, _⟩ := h
    rw [r.len]
    exact hl ds H Pd h
  · obtain ⟨ds, Pd, r, h, q⟩ := h
    exact body cdv A outer s f H vs ds Pd Q E hr r h q
end
end W1

set_option maxRecDepth 100000
set_option maxHeartbeats 4000000
namespace W1
open PySem PyProof.Rows L2
section
variable {X : Cx} {K : PySem.W.Frag} {σ : L2.St} {H H' : Hp} {ta tb tc te : TE} {tt : TT} {t u : TT} {d d1 d2 d3 : D} {P P1 P2 P3 : Pd} {D1 : Ends} {tu tw tz : TS}
/-- a name of the module that holds a number -/
theorem pe_gl {x : Str} {pos : Pos} {v : V} (hm : ∃ u, X.mg x = some u ∧ RelV v u) (hg : Gl X x := by rfl) (hd : (x == ("__debug__" : Str)) = false := by decide) : PE X (.Name x pos) (tC v) := by
  obtain ⟨u, h1, h2⟩ := hm
  exact pe_glob hg h1 h2 hd
/-- a way that is not taken -/
theorem s_no {b : Bool} (h : EB t σ H b) (hb : b = false) (k : ∀ H1, Le H H1 → tw D1 σ H1) : tIfS t tu tw D1 σ H := s_ifB h (fun e => by rw [hb] at e; cases e) fun _ => k
theorem q_no {b : Bool} (h : EB t σ H b) (hb : b = false) (k : ∀ H1, Le H H1 → tz D1 σ H1) : tSeq (tIfS t tu tNext) tz D1 σ H := s_no (D1 := { D1 with nx := tz D1 }) h hb k
theorem kitB_bool : kitB "bool" "int" = some true := by decide +kernel
end
/-! ### which data is an integer -/
def isI : D → Bool
  | .int _ => true
  | _ => false
def btw (l m : Int) : D → Bool
  | .int i => decide (l ≤ i) && decide (i ≤ m)
  | _ => false
def noObj : D → Bool
  | .obj _ => false
  | _ => true
theorem noObj_ne {d : D} (h : noObj d = true) : ∀ u, d ≠ .obj u := fun u e => by
  subst e
  cases h
def subI : D → Bool
  | .int _ => true
  | .bl _ => true
  | _ => false
theorem kit_int {d : D} (h : noObj d = true) : kitB (tyD d) "int" = some (subI d) := by
  cases d <;> first | rfl | decide +kernel | cases h
theorem kit_bool {d : D} (h : noObj d = true) : kitB (tyD d) "bool" = some (match d with | .bl _ => true | _ => false) := by
  cases d <;> first | rfl | decide +kernel | cases h
theorem kit_tup {d : D} (h : noObj d = true) : kitB (tyD d) "tuple" = some (match d with | .tup _ => true | _ => false) := by
  cases d <;> first | rfl | decide +kernel | cases h
/-! ### a web -/
def webFs (m t n : V) : List (Str × V) := putF "near" n (putF "ties" t (putF "memories" m []))
theorem mt_ : ¬ (("memories" : Str) = "ties") := by decide +kernel
theorem mn_ : ¬ (("memories" : Str) = "near") := by decide +kernel
theorem tn_ : ¬ (("ties" : Str) = "near") := by decide +kernel
theorem web_m (m t n : V) : (webFs m t n).lookup ("memories" : Str) = some m := by
  unfold webFs
  rw [lookup_putF, if_neg mn_, lookup_putF, if_neg mt_, lookup_putF, if_pos rfl]
theorem web_t (m t n : V) : (webFs m t n).lookup ("ties" : Str) = some t := by
  unfold webFs
  rw [lookup_putF, if_neg tn_, lookup_putF, if_pos rfl]
theorem web_n (m t n : V) : (webFs m t n).lookup ("near" : Str) = some n := by
  unfold webFs
  rw [lookup_putF, if_pos rfl]
structure WTxt (K : PySem.W.Frag) (C : Addr) : Prop where
  cl : Cls K C
  nM : NoAttr K C "memories"
  nT : NoAttr K C "ties"
  nN : NoAttr K C "near"
end W1

set_option maxRecDepth 100000
set_option maxHeartbeats 4000000
namespace W1
open PySem PyProof.Rows L2
abbrev topS (i : Nat) : Stmt := PySem.Challenge.pw_staletags_k03_whole_pasts_bars_and_stand.main.body.getD i (.Pass ⟨0, 0, 0, 0⟩)
abbrev s__law_draw : Stmt := topS 38
abbrev N__law_draw : List Str := ["_law_hand_here", "_law_many", "_law_cell", "_law_digit", "_law_number"]
theorem sc__law_draw : FnScope N__law_draw ["_law_hand_here", "_law_many"] (defScope s__law_draw) := ⟨rfl, rfl, rfl, by decide +kernel, rfl, by decide +kernel, by decide +kernel⟩
/-- no built-in that is called is hidden -/
structure Txt (mg : Str → Option Value) : Prop where
  n_len : mg "len" = none
  n_abs : mg "abs" = none
  n_int : mg "int" = none
  n_range : mg "range" = none
  n_tuple : mg "tuple" = none
  n_list : mg "list" = none
  n_sorted : mg "sorted" = none
  n_set : mg "set" = none
  n_enumerate : mg "enumerate" = none
  n_isinstance : mg "isinstance" = none
  n_all : mg "all" = none
  n_max : mg "max" = none
  n_min : mg "min" = none
  n_bool : mg "bool" = none
section
variable {P : Program} {w : World} {K : PySem.W.Frag} {mg : Str → Option Value} {base : Heap}
/-! ### _law_draw -/
def R_draw : List D → Hp → Pd → Prop := fun ds H P => ∃ (h : Addr) (m : Int), ds = [.obj (.ref h), .int m] ∧ Hand H h ∧ 1 ≤ m ∧ m ≤ 1000000 ∧ P = fun d _ => ∃ r : Int, d = .int r ∧ 0 ≤ r ∧ r < m
/-- the frame of a draw: the hand at h, H0 what stood -/
def Dw (H0 : Hp) (h : Addr) (H : Hp) : Prop := Le H0 H ∧ ∃ c cells p x s n, HandAt H h c cells p x s n
theorem ok_draw (T : Txt mg) (g : GDef K mg "_law_draw" s__law_draw ["_law_hand_here", "_law_many"]) : Def P w K mg base 1 "_law_draw" ["_law_hand_here", "_law_many"] (spD K R_draw) := by
  refine defD g sc__law_draw (fun ds H Pd h => ?_) fun cdv A outer s f H vs ds Pd Q E hr r h q => ?_
  · obtain ⟨h, m, rfl, _⟩ := h
    rfl
  obtain ⟨h, m, rfl, ⟨c, cells, p, x, z, n, a⟩, m1, m2, rfl⟩ := h
  obtain ⟨v1, v2, rfl, r1, r2⟩ := rps2 r
  have e1 := rp_obj r1
  have e2 := rp_int r2
  subst e1 e2
  refine ⟨_, (Evl.pss_cut (ps_if (PW.pt (pw_and (pt_cmpR op_eq (pe_ix ix_list (pv 0) pe_int (fun _ _ => rfl)) pe_int (nomark _)) (pw_and1 (pt_cmpR op_lt (pe_ix ix_list (pv 0) pe_int (fun _ _ => rfl)) (pe_callB call_len_seq (by rfl) T.n_len boot_len (pa_cons (pe_ix ix_list (pv 0) pe_int (fun _ _ => rfl)) pa_nil)) (nomark _)))))
      (pss_cons (ps_set (i := 2) sc__law_draw.nd rfl (Or.inl rfl) (pe_ix ix_list (pe_ix ix_list (pv 0) pe_int (fun _ _ => rfl)) (pe_ix ix_list (pv 0) pe_int (fun _ _ => rfl)) (fun _ _ => rfl)))
    (pss_cons (ps_asg (pe_op op_add (pe_ix ix_list (pv 0) pe_int (fun _ _ => rfl)) pe_int) (pg_sub (pv 0) pe_int set_list))
    (pss_cons (ps_asg (pe_op op_mod (pe_callTy call_int1 (by rfl) T.n_int boot_int (pa_cons (pe_op op_add (pe_op op_add (pe_op op_mul (pe_ix ix_list (pv 0) pe_int (fun _ _ => rfl)) pe_int) (pv 2)) pe_int) pa_nil)) pe_int) (pg_sub (pv 0) pe_int set_list))
    (pss_one (ps_if (pt_cmpR op_ge (pv 2) (pe_op op_pow pe_int pe_int) (nomark _))
      (pss_one (ps_asg (pv 2) (pg_sub (pv 0) pe_int set_list)))
      pss_nil)))))
      pss_nil)
    (pss_cons (ps_if (pt_cmpR op_gt (pe_ix ix_list (pv 0) pe_int (fun _ _ => rfl)) pe_int (nomark _))
      (pss_cons (ps_set (i := 3) sc__law_draw.nd rfl (Or.inl rfl) (pe_op op_modN (pe_callTy call_int1 (by rfl) T.n_int boot_int (pa_cons (pe_ix ix_list (pv 0) pe_int (fun _ _ => rfl)) pa_nil)) (pv 1)))
    (pss_cons (ps_asg (pe_op op_fdivN (pe_ix ix_list (pv 0) pe_int (fun _ _ => rfl)) (pv 1)) (pg_sub (pv 0) pe_int set_list))
    (pss_one (ps_ret (pv 3)))))
      pss_nil)
    (pss_cons (ps_asg (pe_op op_add (pe_ix ix_list (pv 0) pe_int (fun _ _ => rfl)) pe_int) (pg_sub (pv 0) pe_int set_list))
    (pss_cons (ps_set (i := 4) sc__law_draw.nd rfl (Or.inl rfl) (pe_op op_mod (pe_callTy call_int1 (by rfl) T.n_int boot_int (pa_cons (pe_op op_mul (pe_callTy call_int1 (by rfl) T.n_int boot_int (pa_cons (pe_op op_add (pe_ix ix_list (pv 0) pe_int (fun _ _ => rfl)) (pe_op op_mul pe_int (pe_ix ix_list (pv 0) pe_int (fun _ _ => rfl)))) pa_nil)) pe_int) pa_nil)) pe_int))
    (pss_cons (ps_set (i := 4) sc__law_draw.nd rfl (Or.inl rfl) (pe_op op_mod (pe_callTy call_int1 (by rfl) T.n_int boot_int (pa_cons (pe_op op_mul (pv 4) (pe_op op_add (pe_op op_fdiv (pv 4) pe_int) pe_int)) pa_nil)) pe_int))
    (pss_cons (ps_set (i := 4) sc__law_draw.nd rfl (Or.inl rfl) (pe_op op_mod (pe_callTy call_int1 (by rfl) T.n_int boot_int (pa_cons (pe_op op_mul (pv 4) (pe_op op_add (pe_op op_fdiv (pv 4) pe_int) pe_int)) pa_nil)) pe_int))
    (pss_one (ps_ret (pe_op op_modN (pe_callTy call_int1 (by rfl) T.n_int boot_int (pa_cons (pe_op op_fdiv (pv 4) pe_int) pa_nil)) (pv 1)))))))))), ?_⟩
  -- between the first if and the rest
  refine ⟨fun σ H' => (∃ y : Option V, σ = [some (.ref h), some (.int m), y, none, none]) ∧ Dw H h H', ?_, ?_⟩
  · refine ⟨_, rfl, h, _, 2, .int x, rfl, rfl, SqL.of a.hand, atI_nat (j := 2) rfl, rfl, _, rfl, ?_⟩
    refine ite2 (fun c1 => ?_) (fun c1 => ?_)
    · refine ⟨_, rfl, h, _, 1, .int p, rfl, rfl, SqL.of a.hand, atI_nat (j := 1) rfl, _, rfl, h, _, 0, .ref c, rfl, rfl, SqL.of a.hand, atI_nat (j := 0) rfl, c, _, rfl, .inl (SqL.of a.cell), p, _, rfl, rfl, _, rfl, ?_⟩
      refine ite2 (fun c2 => ?_) (fun c2 => ?_)
      · have hp : p.toNat < cells.length := by
          have c3 := of_decide_eq_true c2
          rw [List.length_map] at c3
          have := a.p0
          omega
        obtain ⟨y, hy⟩ : ∃ y, cells[p.toNat]? = some y := ⟨cells[p.toNat], List.getElem?_eq_getElem hp⟩
        have hy0 : 0 ≤ y := a.pos y (List.mem_of_getElem? hy)
        have ep : p = ((p.toNat : Nat) : Int) := by have := a.p0; omega
        have hyV : atI (cells.map V.int) p = some (.int y) := by
          rw [ep]
          exact atI_nat (by rw [List.getElem?_map, hy]; rfl)
        -- cell = hand[0][hand[1]]
        refine ⟨_, rfl, h, _, 0, .ref c, rfl, rfl, SqL.of a.hand, atI_nat (j := 0) rfl, _, rfl, h, _, 1, .int p, rfl, rfl, SqL.of a.hand, atI_nat (j := 1) rfl, c, _, p, .int y, rfl, rfl, SqL.of a.cell, hyV, ?_⟩
        -- hand[1] = hand[1] + 1
        refine ⟨_, rfl, h, _, 1, .int p, rfl, rfl, SqL.of a.hand, atI_nat (j := 1) rfl, p, 1, rfl, rfl, _, rfl, h, _, 1, 1, rfl, rfl, a.hand, rfl, ?_⟩
        obtain ⟨a1, l1⟩ := a.put (p2 := p + 1) (x2 := x) (s2 := z) (n2 := n) (by have := a.p0; omega) a.x0
        -- hand[3] = int(hand[3] * 69621 + cell + 11) % 2147483629
        refine ⟨_, rfl, h, _, 3, .int z, rfl, rfl, SqL.of a1.hand, atI_nat (j := 3) rfl, z, 69621, rfl, rfl, .inr ⟨by decide, by decide⟩, _, rfl, _, y, rfl, rfl, _, 11, rfl, rfl, .inl ⟨_, rfl, _, 2147483629, rfl, rfl, (by show (0 : Int) < 2147483629; decide), _, rfl, h, _, 3, 3, rfl, rfl, a1.hand, rfl, ?_⟩⟩
        obtain ⟨a2, l2⟩ := a1.put (p2 := p + 1) (x2 := x) (s2 := (z * 69621 + y + 11) % 2147483629) (n2 := n) (by have := a.p0; omega) a.x0
        -- if cell >= 10 ** 18: hand[2] = cell
        refine ⟨_, rfl, 10, 18, rfl, rfl, ⟨by decide, by decide, by decide⟩, y, _, rfl, rfl, _, rfl, ?_⟩
        refine ite2 (fun c3 => ?_) (fun c3 => ?_)
        · refine ⟨_, rfl, _, rfl, h, _, 2, 2, rfl, rfl, a2.hand, rfl, ?_⟩
          obtain ⟨a3, l3⟩ := a2.put (p2 := p + 1) (x2 := y) (s2 := (z * 69621 + y + 11) % 2147483629) (n2 := n) (by have := a.p0; omega) hy0
          exact ⟨⟨_, rfl⟩, (l1.trans l2).trans l3, c, cells, _, _, _, _, a3⟩
        · exact ⟨⟨_, rfl⟩, l1.trans l2, c, cells, _, _, _, _, a2⟩
      · exact ⟨⟨none, rfl⟩, Le.refl _, c, cells, _, _, _, _, a⟩
    · exact ⟨⟨none, rfl⟩, Le.refl _, c, cells, _, _, _, _, a⟩
  · clear a
    rintro σ H1 ⟨⟨y, rfl⟩, l0, c, cells, p, x, z, n, a⟩
    -- if hand[2] > 0
    refine ⟨_, rfl, h, _, 2, .int x, rfl, rfl, SqL.of a.hand, atI_nat (j := 2) rfl, x, 0, rfl, rfl, _, rfl, ?_⟩
    refine ite2 (fun c1 => ?_) (fun c1 => ?_)
    · have hx0 : (0 : Int) < x := of_decide_eq_true c1
      refine ⟨_, rfl, h, _, 2, .int x, rfl, rfl, SqL.of a.hand, atI_nat (j := 2) rfl, .inl ⟨x, rfl, _, rfl, x, m, rfl, rfl, by omega, ?_⟩⟩
      refine ⟨_, rfl, h, _, 2, .int x, rfl, rfl, SqL.of a.hand, atI_nat (j := 2) rfl, _, rfl, x, m, rfl, rfl, ⟨by omega, by omega⟩, _, rfl, h, _, 2, 2, rfl, rfl, a.hand, rfl, ?_⟩
      obtain ⟨a1, l1⟩ := a.put (p2 := p) (x2 := x.fdiv m) (s2 := z) (n2 := n) a.p0 (by
        rw [Int.fdiv_eq_ediv_of_nonneg _ (by omega)]
        exact Int.ediv_nonneg (by omega) (by omega))
      refine ⟨_, rfl, ?_⟩
      refine q _ (.int (x.fmod m)) _ (l0.trans l1) ⟨_, rfl, ?_⟩ (.int _)
      rw [Int.fmod_eq_emod_of_nonneg _ (by omega)]
      exact ⟨Int.emod_nonneg _ (by omega), Int.emod_lt_of_pos _ (by omega)⟩
    · -- hand[4] = hand[4] + 1
      refine ⟨_, rfl, h, _, 4, .int n, rfl, rfl, SqL.of a.hand, atI_nat (j := 4) rfl, n, 1, rfl, rfl, _, rfl, h, _, 4, 4, rfl, rfl, a.hand, rfl, ?_⟩
      obtain ⟨a1, l1⟩ := a.put (p2 := p) (x2 := x) (s2 := z) (n2 := n + 1) a.p0 a.x0
      -- number = int(int(hand[3] + 7919 * hand[4]) * 48271) % 2147483647
      refine ⟨_, rfl, h, _, 3, .int z, rfl, rfl, SqL.of a1.hand, atI_nat (j := 3) rfl, _, rfl, h, _, 4, .int (n + 1), rfl, rfl, SqL.of a1.hand, atI_nat (j := 4) rfl, 7919, n + 1, rfl, rfl, .inl ⟨by decide, by decide⟩, z, _, rfl, rfl, .inl ⟨_, rfl, _, 48271, rfl, rfl, .inr ⟨by decide, by decide⟩, .inl ⟨_, rfl, _, 2147483647, rfl, rfl, (by show (0 : Int) < 2147483647; decide), ?_⟩⟩⟩
      obtain ⟨u, eu⟩ : ∃ u : Int, u = (z + 7919 * (n + 1)) * 48271 % 2147483647 := ⟨_, rfl⟩
      have hu : 0 ≤ u ∧ u < 2147483647 := by omega
      have ev : ((fun i j => V.int (i % j)) ((z + 7919 * (n + 1)) * 48271) 2147483647 : V) = V.int u := by rw [eu]
      rw [ev]
      refine ⟨_, rfl, _, rfl, u, 1009, rfl, rfl, ⟨by decide, by decide⟩, _, 69621, rfl, rfl, u, _, rfl, rfl, .inl ⟨by omega, by omega⟩, .inl ⟨_, rfl, _, 2147483647, rfl, rfl, (by show (0 : Int) < 2147483647; decide), ?_⟩⟩
      obtain ⟨u2, eu2⟩ : ∃ u2 : Int, u2 = u * (u / 1009 + 69621) % 2147483647 := ⟨_, rfl⟩
      have hu2 : 0 ≤ u2 ∧ u2 < 2147483647 := by
        rw [eu2]
        exact ⟨Int.emod_nonneg _ (by decide), Int.emod_lt_of_pos _ (by decide)⟩
      have ev2 : ((fun i j => V.int (i % j)) (u * (u / 1009 + 69621)) 2147483647 : V) = V.int u2 := by rw [eu2]
      rw [ev2]
      refine ⟨_, rfl, _, rfl, u2, 2003, rfl, rfl, ⟨by decide, by decide⟩, _, 40692, rfl, rfl, u2, _, rfl, rfl, .inl ⟨by omega, by omega⟩, .inl ⟨_, rfl, _, 2147483399, rfl, rfl, (by show (0 : Int) < 2147483399; decide), ?_⟩⟩
      obtain ⟨u3, eu3⟩ : ∃ u3 : Int, u3 = u2 * (u2 / 2003 + 40692) % 2147483399 := ⟨_, rfl⟩
      have ev3 : ((fun i j => V.int (i % j)) (u2 * (u2 / 2003 + 40692)) 2147483399 : V) = V.int u3 := by rw [eu3]
      rw [ev3]
      refine ⟨_, rfl, u3, 16, rfl, rfl, ⟨by decide, by decide⟩, .inl ⟨_, rfl, _, rfl, _, m, rfl, rfl, by omega, ?_⟩⟩
      refine q _ (.int ((u3 / 16).fmod m)) _ (l0.trans l1) ⟨_, rfl, ?_⟩ (.int _)
      rw [Int.fmod_eq_emod_of_nonneg _ (by omega)]
      exact ⟨Int.emod_nonneg _ (by omega), Int.emod_lt_of_pos _ (by omega)⟩
end
end W1

set_option maxRecDepth 100000
set_option maxHeartbeats 4000000
namespace W1
open PySem PyProof.Rows L2
local macro_rules | `(tactic| walk_at "rp") => `(tactic| first | assumption | exact Rp.int _ | exact Rp.bl _ | exact Rp.str _ | exact Rp.non | exact Rp.obj _ | (refine Rp.le (by assumption) ?_; walk_at "rp"))
local macro_rules | `(tactic| walk_at "ed") => `(tactic| first
  | exact ed_int | exact ed_str | exact ed_bl | exact ed_non
  | (refine ed_var rfl ?_; walk_at "rp")
  | (refine ed_ixT (ds := [_, _]) ?_ ed_int (by decide) rfl; walk_at "ed")
  | (refine ed_I0 ?_ ?_ <;> walk_at "ed")
  | (refine ed_B0 ?_ ?_ <;> walk_at "ed")
  | (refine ed_eqS ?_ ?_ rfl rfl rfl <;> walk_at "ed")
  | assumption)
local macro_rules | `(tactic| walk_at "ea") => `(tactic| first | exact ea_nil | (refine ea_cons ?_ ?_; walk_at "ed"; walk_at "ea"))

abbrev s__law_hand : Stmt := topS 37
abbrev N__law_hand : List Str := ["_law_script", "_law_cells", "_law_cell"]
theorem sc__law_hand : FnScope N__law_hand ["_law_script"] (defScope s__law_hand) := ⟨rfl, rfl, rfl, by decide +kernel, rfl, by decide +kernel, by decide +kernel⟩
abbrev s__law_any : Stmt := topS 39
abbrev N__law_any : List Str := ["_law_hand_here", "_law_items"]
theorem sc__law_any : FnScope N__law_any ["_law_hand_here", "_law_items"] (defScope s__law_any) := ⟨rfl, rfl, rfl, by decide +kernel, rfl, by decide +kernel, by decide +kernel⟩
section
variable {P : Program} {w : World} {K : PySem.W.Frag} {mg : Str → Option Value} {base : Heap}
/-! ### _law_hand -/
theorem Le.sqlI {H H' : Hp} {a : Addr} {ns : List Int} (e : Le H H') (h : SqL K H a (ns.map V.int)) : SqL K H' a (ns.map V.int) := by
  rcases h with (h | ⟨o, h⟩) | h
  · exact .inl (.inl (e.lst h (notH_ints _)))
  · exact .inl (.inr ⟨o, e.frz h⟩)
  · exact .inr h
theorem ed_slS {σ : L2.St} {H : Hp} {i : Nat} {a : Addr} {ns : List Int} {m : Int} (h : σ[i]? = some (some (.ref a))) (hs : SqL K H a (ns.map V.int)) : ED K (tSl (rSlL K) (tVar i) tNoPart (tPart (tC (.int m)))) σ H (.lst ((cutG ns none (some m)).map .int)) := fun H1 e Q q => by
  have ec : cutV (ns.map V.int) none (some m) = (cutG ns none (some m)).map V.int := by
    unfold cutV cutG
    rw [List.length_map, List.map_take, List.map_drop]
  refine ⟨_, h, m, rfl, a, _, rfl, e.sqlI hs, fun p np => ?_⟩
  rw [ec]
  exact q _ _ _ (Le.new np) rfl (.lst upd_same (notH_ints _) (rps_ints _))
def R_hand (K : PySem.W.Frag) : List D → Hp → Pd → Prop := fun ds H P => ∃ (a : Addr) (ns : List Int), ds = [.obj (.ref a)] ∧ SqL K H a (ns.map V.int) ∧ ns.length ≤ 63 ∧ P = fun d H2 => ∃ h, d = .obj (.ref h) ∧ Hand H2 h
theorem ok_hand (T : Txt mg) (g : GDef K mg "_law_hand" s__law_hand ["_law_script"]) : Def P w K mg base 1 "_law_hand" ["_law_script"] (spD K (R_hand K)) := by
  refine defD g sc__law_hand (fun ds H Pd h => ?_) fun cdv A outer s f H vs ds Pd Q E hr r h q => ?_
  · obtain ⟨a, ns, rfl, _⟩ := h
    rfl
  obtain ⟨a, ns, rfl, hS, hl, rfl⟩ := h
  obtain ⟨v1, rfl, r1⟩ := rps1 r
  have e1 := rp_obj r1
  subst e1
  refine ⟨_, (pss_cons (ps_setLc (i := 1) (own := [("_law_cell", 2)]) rfl sc__law_hand.nd rfl rfl (sw_true rfl rfl rfl (by decide +kernel)) (kpi_list (K := K) (pe_slice (ksl_list (K := K)) (pv 0) po_none (po_some pe_int))) (blkOk_by (N := N__law_hand) (sc := defScope s__law_hand) (by decide +kernel)) (fun _ _ _ _ _ => (pg_name (i := 2) sc__law_hand.nd rfl (Or.inl rfl))) (fun _ _ _ _ _ => pts_nil) (fun _ _ _ _ _ => (pe_callB call_abs (by rfl) T.n_abs boot_abs (pa_cons (pe_callTy call_int1 (by rfl) T.n_int boot_int (pa_cons (pv 2) pa_nil)) pa_nil))))
    (pss_one (ps_ret (pe_lst (pa_cons (pv 1) (pa_cons pe_int (pa_cons pe_int (pa_cons (pe_op op_add pe_int (pe_callB (kc_len (K := K)) (by rfl) T.n_len boot_len (pa_cons (pv 1) pa_nil))) (pa_cons pe_int pa_nil))))))))), ?_⟩
  refine q_asgD (ed_lcL enc_int (encS := .int) (cutG ns none (some 63)) (fun _ => true) (fun z => if z < 0 then -z else z) (ed_slS rfl hS) ?_ (fun _ => rfl) (fun b v H1 e _ r => et_yes) (fun b v H1 e _ r _ => ed_abs (ed_int1 (ed_var rfl r)))) fun v H1 e1 r1 => ?_
  · rw [cutG_hi _ _ (by decide)]
    exact Nat.le_trans (List.length_take_le' _ _) (by omega)
  rw [List.filter_eq_self.mpr (fun _ _ => rfl)] at r1
  generalize hz : (cutG ns none (some 63)).map (fun z => if z < 0 then -z else z) = zs at r1
  obtain ⟨c, xs, rfl, hc, nh, rr⟩ := rp_lst r1
  have ex := ints_rps rr
  subst ex
  refine s_ret (P := fun d H2 => ∃ h, d = .obj (.ref h) ∧ Hand H2 h) ?_ fun v d H2 e2 p r2 => q v d H2 (e1.trans e2) p r2
  intro H2 e2 Q' q'
  have hc2 := e2.lst hc (notH_ints _)
  refine ⟨_, rfl, _, rfl, c, _, rfl, .inl (SqL.of hc2), _, _, rfl, rfl, (by show 5 ≤ sizeLine; decide), fun p np => ?_⟩
  have hcp : c ≠ p := ne_of_none hc2 np
  refine q' _ (.obj (.ref p)) _ (Le.new np) ⟨p, rfl, c, zs, 0, 0, _, 0, upd_same, by rw [upd_ne hcp]; exact hc2, by decide, by decide, fun z hz2 => ?_⟩ (.obj _)
  rw [← hz] at hz2
  obtain ⟨y, _, rfl⟩ := List.mem_map.mp hz2
  by_cases hy : y < 0
  · rw [if_pos hy]; omega
  · rw [if_neg hy]; omega
/-! ### _law_any -/
def R_any : List D → Hp → Pd → Prop := fun ds H P => ∃ (h : Addr) (xs : List D), ds = [.obj (.ref h), .lst xs] ∧ Hand H h ∧ xs ≠ [] ∧ xs.length ≤ 100000 ∧ P = fun d _ => d ∈ xs
theorem ep_draw {σ : L2.St} {H : Hp} {E : XK} {h : Addr} {m : Int} {ta : TA} (hh : Hand H h) (ha : EDA K ta σ H [.obj (.ref h), .int m]) (h1 : 1 ≤ m ∧ m ≤ 1000000) : EP K (tCall (spD K R_draw) [] E ta) σ H (fun d _ => ∃ r : Int, d = .int r ∧ 0 ≤ r ∧ r < m) :=
  ed_call ha fun H2 e => ⟨h, m, rfl, hh.le e, h1.1, h1.2, rfl⟩
theorem ok_any (T : Txt mg) (g : GDef K mg "_law_any" s__law_any ["_law_hand_here", "_law_items"]) (G_law_draw : Def P w K mg base 1 "_law_draw" ["_law_hand_here", "_law_many"] (spD K R_draw)) :
    Def P w K mg base 2 "_law_any" ["_law_hand_here", "_law_items"] (spD K R_any) := by
  refine defD g sc__law_any (fun ds H Pd h => ?_) fun cdv A outer s f H vs ds Pd Q E hr r h q => ?_
  · obtain ⟨h, xs, rfl, _⟩ := h
    rfl
  obtain ⟨h, xs, rfl, hh, hne, hl, rfl⟩ := h
  obtain ⟨v1, v2, rfl, r1, r2⟩ := rps2 r
  refine ⟨_, (pss_one (ps_ret (pe_ix (kix_list (K := K)) (pv 1) (pe_def G_law_draw (hr.mono (by decide)) (pa_cons (pv 0) (pa_cons (pe_callB (kc_len (K := K)) (by rfl) T.n_len boot_len (pa_cons (pv 1) pa_nil)) pa_nil))) (fun _ _ => rfl)))), ?_⟩
  have hlen : 1 ≤ (xs.length : Int) ∧ (xs.length : Int) ≤ 1000000 := by
    have : xs.length ≠ 0 := fun e => hne (List.eq_nil_of_length_eq_zero e)
    omega
  refine s_ret (P := fun d _ => d ∈ xs) ?_ q
  refine ep_op (P1 := is (.lst xs)) (P2 := fun d _ => ∃ r : Int, d = .int r ∧ 0 ≤ r ∧ r < xs.length) (ed_var rfl r2) ?_ ?_
  · exact ep_draw hh (ea_cons (ed_var rfl r1) (ea_cons (ed_lenL (ed_var rfl r2)) ea_nil)) hlen
  · rintro x y d1 d2 H1 H2 _ _ rfl ⟨i, rfl, h0, h1⟩ q1 q2 Q' q'
    obtain ⟨a, us, rfl, s, nh, rr⟩ := rp_lst q1
    have hi : xs[i.toNat]? = some xs[i.toNat] := List.getElem?_eq_getElem (by omega)
    obtain ⟨v, h3, h4⟩ := atI_rps rr h0 hi
    exact ⟨a, us, i, v, rfl, rp_int q2, SqL.of s, h3, q' v _ H2 (Le.refl _) (List.getElem_mem _) h4⟩
end
end W1

set_option maxRecDepth 100000
set_option maxHeartbeats 4000000
/-! own rules: zip of a tuple and a list; a tuple from behind -/
namespace L2
open PySem PySem.Spec PyProof.Rows
/-- the tuple at a and the list at b side by side, the items of each turn in a new pair -/
def IzTL (K : PySem.W.Frag) (a b : Addr) : It where
  go := fun i H => ∃ (xs ys : List V) (x y : V), SqT K H a xs ∧ SqL K H b ys ∧ xs[i]? = some x ∧ ys[i]? = some y
  yld := fun i H v H' => ∃ T x y, v = .ref T ∧ H T = none ∧ H' = upd H T (.tup [x, y]) ∧ (∀ xs, SqT K H a xs → xs[i]? = some x) ∧ ∀ ys, SqL K H b ys → ys[i]? = some y
  stop := fun i H => ∃ xs ys : List V, SqT K H a xs ∧ SqL K H b ys ∧ (xs.length ≤ i ∨ ys.length ≤ i) ∧ i ≤ xs.length ∧ i ≤ ys.length
theorem sqt_inj {X : Cx} {pins : List (Addr × Obj)} {σ : L2.St} {H : Hp} {s : Shared} {a : Addr} {xs ys : List V} (I : Inv X pins σ H s) (h1 : SqT X.K H a xs) (h2 : SqT X.K H a ys) : xs = ys := I.tuple_inj h1 h2
theorem turn_zTL {P : Program} {w : World} {K : PySem.W.Frag} {elts : List Expr} {kk : Nat} {tp : Pos} {a b z TI TO i1 i2 : Addr} (S : ZipSep2 z TI TO i1 i2 [i1, a] [i2, b]) (ha : a ≠ i1) (hb : b ≠ i2) :
    Turn P w K (.Tuple elts kk tp) (IzTL K a b) [z, TI, TO, i1, i2] z (fun i h => IsZip h z TI TO .none ∧ IsTupOf2 h TI (.ref i1) (.ref i2) ∧ (∃ x y, IsTupOf2 h TO x y) ∧ h.IsTupleIter i1 a i ∧ h.IsListIter i2 b i) := by
  refine ⟨by simp, ?_, ?_, ?_, ?_, ?_⟩
  · rintro i h ⟨g1, g2, ⟨x, y, g3⟩, ⟨o4, g4, _, k4⟩, ⟨o5, g5, _, k5⟩⟩ c hc
    simp only [List.mem_cons, List.not_mem_nil, or_false] at hc
    rcases hc with rfl | rfl | rfl | rfl | rfl
    · exact ⟨_, g1, fun v q => nomatch q⟩
    · exact ⟨_, g2, fun v q => nomatch q⟩
    · exact ⟨_, g3, fun v q => nomatch q⟩
    · exact ⟨o4, g4, fun v q => by rw [k4] at q; cases q⟩
    · exact ⟨o5, g5, fun v q => by rw [k5] at q; cases q⟩
  · rintro i h h' ⟨g1, g2, ⟨x, y, g3⟩, g4, g5⟩ k
    exact ⟨k _ (by simp) _ g1, k _ (by simp) _ g2, ⟨x, y, k _ (by simp) _ g3⟩, g4.at fun o q => k _ (by simp) o q, g5.at fun o q => k _ (by simp) o q⟩
  · intro X hP hw hK hc i pins s σ H E I hf st hg
    subst hP hw hK
    obtain ⟨g1, g2, ⟨x0, y0, g3⟩, g4, g5⟩ := st
    obtain ⟨xs, ys, x, y, hqx, hqy, hx, hy⟩ := hg
    obtain ⟨its, rv, pt, _⟩ := I.tuple hqx
    obtain ⟨jts, rw', pl, _⟩ := I.list hqy
    have hzl : z < s.heap.objs.size := Heap.lt_size g1
    have hn : X.A.in1.handled = none := by
      have h0 := I.ok.hd hc
      simpa using h0
    have in1 : i < its.toArray.size := by
      have h2 := (List.getElem?_eq_some_iff.mp hx).1
      have h3 := rv.length
      simpa [← h3] using h2
    have in2 : i < jts.toArray.size := by
      have h2 := (List.getElem?_eq_some_iff.mp hy).1
      have h3 := rw'.length
      simpa [← h3] using h2
    refine wpAny_pyNext_zipD2_item S (Draws.tuple hn i1 a ha its.toArray) (Draws.list hn i2 b hb jts.toArray) g1 g2 g3 ⟨g4, isTup_isTuple pt⟩ ⟨g5, pl.isList⟩ in1 in2 fun u1 u2 h' tk hu1 hu2 z' TO' s1' s2' hT hsz hk => ?_
    refine ⟨_, rfl, wpAny_letOwnedTupleGo_zip (s := { s with heap := h', toks := tk }) z' fun h2 z2 sb => ?_⟩
    have hT2 : h2.get? s.heap.objs.size = some { cls := .type "tuple", data := .seq #[u1, u2] } := (sb.2 _ (Nat.ne_of_gt hzl)).trans hT
    obtain ⟨w1, hw1, ru1⟩ := rv.get hx
    obtain ⟨w2, hw2, ru2⟩ := rw'.get hy
    have e1 : u1 = w1 := by
      have h3 : its.toArray[i]? = some w1 := by simpa using hw1
      exact Option.some.inj (hu1.symm.trans h3)
    have e2 : u2 = w2 := by
      have h3 : jts.toArray[i]? = some w2 := by simpa using hw2
      exact Option.some.inj (hu2.symm.trans h3)
    subst e1 e2
    have nw : ObjOk X.prog X.w (upd H s.heap.objs.size (.tup [x, y])) h2 s.heap.objs.size (.tup [x, y]) := by
      refine ⟨?_, [u1, u2], .cons ru1 (.cons ru2 .nil), ?_⟩
      · show 2 ≤ sizeLine
        decide
      · exact ⟨_, hT2, rfl, _, rfl⟩
    have nz : ∀ c, c ∉ [z, TI, TO, i1, i2] → c ≠ z ∧ c ≠ TO ∧ c ≠ i1 ∧ c ≠ i2 := fun c hc => ⟨fun q => hc (by simp [q]), fun q => hc (by simp [q]), fun q => hc (by simp [q]), fun q => hc (by simp [q])⟩
    have I1 : Inv X pins σ (upd H s.heap.objs.size (.tup [x, y])) { s with heap := h2, toks := tk } := by
      refine I.turnedNew (ch := [z, TI, TO, i1, i2]) (fun c o hb q => ?_) hf (Nat.le_refl _) nw
      obtain ⟨n1, n2, n3, n4⟩ := nz c hb
      exact (sb.2 c n1).trans (hk c o n1 n2 n3 n4 q)
    refine ⟨.ref s.heap.objs.size, _, I1, rfl, ⟨_, x, y, rfl, I.hok.fresh (Nat.le_refl _), rfl, fun l hl => ?_, fun l hl => ?_⟩, ⟨z2, ?_, ⟨u1, u2, ?_⟩, ?_, ?_⟩, fun c hcm => ?_⟩
    · rw [sqt_inj I hl hqx]
      exact hx
    · rw [I.list_inj hl hqy]
      exact hy
    · exact (sb.2 _ S.TIz).trans (hk _ _ S.TIz S.TITO S.TIi1 S.TIi2 g2)
    · exact (sb.2 _ S.TOz).trans TO'
    · exact s1'.1.at fun o q => (sb.2 i1 (Ne.symm S.zi1)).trans q
    · exact s2'.1.at fun o q => (sb.2 i2 (Ne.symm S.zi2)).trans q
    · have hlt : c < s.heap.objs.size := by
        simp only [List.mem_cons, List.not_mem_nil, or_false] at hcm
        obtain ⟨o4, q4, _⟩ := g4
        obtain ⟨o5, q5, _⟩ := g5
        rcases hcm with rfl | rfl | rfl | rfl | rfl
        · exact hzl
        · exact Heap.lt_size g2
        · exact Heap.lt_size g3
        · exact Heap.lt_size q4
        · exact Heap.lt_size q5
      rw [upd_ne (Nat.ne_of_lt hlt)]
      exact (hf c hcm).1
  · intro X hP hw hK hc i pins s σ H E I hf st hg
    subst hP hw hK
    obtain ⟨g1, g2, ⟨x0, y0, g3⟩, g4, g5⟩ := st
    obtain ⟨xs, ys, hqx, hqy, hend, l1, l2⟩ := hg
    obtain ⟨its, rv, pt, _⟩ := I.tuple hqx
    obtain ⟨jts, rw', pl, _⟩ := I.list hqy
    have hn : X.A.in1.handled = none := by
      have h0 := I.ok.hd hc
      simpa using h0
    have e1 : its.toArray.size = xs.length := by simp [← rv.length]
    have e2 : jts.toArray.size = ys.length := by simp [← rw'.length]
    refine wpAny_pyNext_zipD2_end S (Draws.tuple hn i1 a ha its.toArray) (Draws.list hn i2 b hb jts.toArray) g1 g2 g3 ⟨g4, isTup_isTuple pt⟩ ⟨g5, pl.isList⟩ (by omega) (by omega) (by omega) fun h' tk hk => ⟨rfl, ?_⟩
    exact I.turnedL (t' := tk) (ch := [z, TI, TO, i1, i2]) (fun c o hb q => hk c o (fun e => hb (by simp [e])) (fun e => hb (by simp [e])) (fun e => hb (by simp [e])) (fun e => hb (by simp [e])) q) hf
  · rintro A i s Q E ⟨g1, _⟩ h
    exact wpAny_pyIter_zip g1 h
def iZTL (K : PySem.W.Frag) (ta : TA) : TI := fun σ H R => ta σ H fun vs H1 => ∃ a b xs ys, vs = [.ref a, .ref b] ∧ SqT K H1 a xs ∧ SqL K H1 b ys ∧ R (IzTL K a b) H1
theorem pi_zTL {X : Cx} {e e2 : Expr} {ta : TA} {p pos tp : Pos} {elts : List Expr} {kk : Nat} (hg : Gl X "zip") (hm : X.mg "zip" = none) (ha : PA X [e, e2] ta)
    (hs : starEach [e, e2] X.env = (false, eval e X.env) :: starEach [e2] X.env := by rfl) (hpl : (backTo pos (starEach [e2] X.env)).any (·.1) = false := by rfl) :
    PI X (.Tuple elts kk tp) (.Call (.Name "zip" p) [e, e2] [] pos) (iZTL X.K ta) := by
  constructor
  intro pins s σ H R I h
  refine Call_ (ld_blt I hg hm boot_zip ?_)
  refine PyProof.Rows.callWith_type1 (thn (ha.run pos pins s σ H _ I h) fun us s1 hh => ?_) hs hpl
  obtain ⟨vs, H1, I1, r1, a, b, xs, ys, rfl, hqx, hqy, q⟩ := hh
  cases r1 with
  | cons r rr =>
    cases rr with
    | cons r' rr =>
      cases rr
      cases r
      cases r'
      obtain ⟨its, rv, pt, _⟩ := I1.tuple hqx
      obtain ⟨jts, rw', pl, _⟩ := I1.list hqy
      have la : a < s1.heap.objs.size := by
        obtain ⟨o, ho, _⟩ := pt
        exact Heap.lt_size ho
      have lb : b < s1.heap.objs.size := pl.lt
      refine zip_begins2 (begins_tuple a its.toArray) (begins_list b jts.toArray) (isTup_isTuple pt) pl.isList fun h' y1 y2 y3 y4 y5 y6 hk => ?_
      refine wpAny_pyIter_zip y1 ?_
      have I2 : Inv X pins σ H1 { s1 with heap := h' } := I1.kept (t' := s1.toks) hk
      have S : ZipSep2 (s1.heap.objs.size + 4) (s1.heap.objs.size + 2) (s1.heap.objs.size + 3) s1.heap.objs.size (s1.heap.objs.size + 1) [s1.heap.objs.size, a] [s1.heap.objs.size + 1, b] := zip_sep2 (fp1 := [a]) (fp2 := [b]) (fun c hc => by rw [List.mem_singleton.mp hc]; exact la) (fun c hc => by rw [List.mem_singleton.mp hc]; exact lb)
      refine ⟨s1.heap.objs.size + 4, [s1.heap.objs.size + 4, s1.heap.objs.size + 2, s1.heap.objs.size + 3, s1.heap.objs.size, s1.heap.objs.size + 1], _, _, H1, rfl, I2, turn_zTL S (Nat.ne_of_lt la) (Nat.ne_of_lt (Nat.lt_succ_of_lt lb)), ⟨y1, y2, ⟨_, _, y3⟩, ⟨_, y4, rfl, rfl⟩, ⟨_, y5, rfl, rfl⟩⟩, fun c hc => ?_, q⟩
      have hle : s1.heap.objs.size ≤ c := by
        simp only [List.mem_cons, List.not_mem_nil, or_false] at hc
        rcases hc with rfl | rfl | rfl | rfl | rfl <;> first | exact Nat.le_refl _ | exact Nat.le_add_right _ _
      exact I1.fpOk hle (I1.hok.fresh hle)
theorem walk_zTL {K : PySem.W.Frag} {a b : Addr} {xs ys : List V} (hl : xs.length = ys.length) : Walk (IzTL K a b) xs.length (fun H => SqT K H a xs ∧ SqL K H b ys) (YPair (fun i => xs[i]?) (fun i => ys[i]?)) := by
  constructor
  · intro i H hi q
    have h2 : i < ys.length := by omega
    exact ⟨xs, ys, xs[i], ys[i], q.1, q.2, by simp [hi], by simp [h2]⟩
  · intro H q
    exact ⟨xs, ys, q.1, q.2, .inl (Nat.le_refl _), Nat.le_refl _, by omega⟩
  · rintro i H v H' _ q ⟨T, x, y, h1, h2, h3, h4, h5⟩
    exact ⟨T, x, y, h1, h2, h3, h4 xs q.1, h5 ys q.2⟩

/-! ### a tuple from behind -/
section
variable {P : Program} {w : World} {A : Around} {E : Value → Shared → Prop} {s : Shared}
theorem back_adjust (n : Nat) : Builtin.Slice.sliceAdjust none none (-1) (n : Int) = ((n : Int) - 1, -1) := by
  unfold Builtin.Slice.sliceAdjust
  rfl
theorem back_places (n : Nat) : Builtin.Slice.slicePlaces ((n : Int) - 1) (-1) (-1) = n := by
  unfold Builtin.Slice.slicePlaces
  rw [if_neg (by decide)]
  by_cases hn : (n : Int) - 1 > -1
  · rw [if_pos hn]
    have e : -(-1 : Int) = 1 := by decide
    rw [e, Int.ediv_one]
    omega
  · rw [if_neg hn]
    omega
theorem back_items {α : Type} (xs : Array α) : ((List.range xs.size).filterMap fun (m : Nat) => xs[((xs.size : Int) - 1 + (m : Int) * (-1)).toNat]?) = xs.toList.reverse := by
  apply List.ext_getElem?
  intro i
  have h0 : ∀ n, n ≤ xs.size → ((List.range n).filterMap fun (m : Nat) => xs[((xs.size : Int) - 1 + (m : Int) * (-1)).toNat]?) = (xs.toList.reverse).take n := by
    intro n
    induction n with
    | zero => intro _; simp
    | succ n ih =>
      intro hn
      have hi : n < xs.toList.reverse.length := by simp; omega
      rw [List.range_succ, List.filterMap_append, ih (by omega), List.take_add_one, List.getElem?_eq_getElem hi]
      congr 1
      have e : ((xs.size : Int) - 1 + (n : Int) * (-1)).toNat = xs.size - 1 - n := by omega
      have e2 : xs[xs.size - 1 - n]? = some (xs.toList.reverse[n]) := by
        rw [Array.getElem?_eq_getElem (by omega)]
        simp
      show List.filterMap _ [n] = _
      rw [List.filterMap_cons, e, e2]
      rfl
  rw [h0 xs.size (Nat.le_refl _), List.take_of_length_le (by simp)]
theorem tup_back {t c : Addr} {its : Array Value} {v : Value} {Q : Value → Shared → Prop} (qt : IsTup s.heap t its) (qs : s.heap.IsSliceOf c .none .none v) (pv : IsPart v (some (-1))) (hz : its.size ≤ sizeLine)
    (h : Q (.ref s.heap.objs.size) { s with heap := s.heap.push { cls := .type "tuple", data := .seq its.toList.reverse.toArray } }) : wpAny (model P w) A (getItem (.ref t) (.ref c)) Q E s := by
  have zl : sizeOk (.seq its.toList.reverse.toArray) := by
    show its.toList.reverse.toArray.size ≤ sizeLine
    simpa using hz
  obtain ⟨oc, gc, cc, dc⟩ := id qs
  have yc : s.TypeIs (.ref c) "slice" := ⟨oc, gc, cc⟩
  have ac : wpAny (model P w) A.in1 (Builtin.Slice.sliceApplied (.ref c) (pure (its.size : Int))) (fun r s1 => r = ((its.size : Int) - 1, (-1 : Int), its.size) ∧ s1 = s) (fun _ _ => False) s := by
    unfold Builtin.Slice.sliceApplied Builtin.Slice.sliceFields
    refine wpAny_bind (wpAny_bind (wpAny_field gc dc (x := .none) rfl (wpAny_bind (wpAny_field gc dc (x := .none) rfl (wpAny_bind (wpAny_field gc dc (x := v) rfl (wpAny_pure ?_)))))))
    refine wpAny_bind (HT.slicePart_ pv ?_)
    show wpAny _ _ (if ((-1 : Int) == 0) = true then _ else _) _ _ _
    rw [if_neg (by decide)]
    refine wpAny_bind (HT.slicePart_ .none (wpAny_bind (HT.slicePart_ .none (wpAny_bind (wpAny_pure ?_)))))
    show wpAny _ _ (match Builtin.Slice.sliceAdjust none none (-1) (its.size : Int) with | (lo, hi) => pure (lo, (-1 : Int), Builtin.Slice.slicePlaces lo hi (-1))) _ _ _
    rw [back_adjust]
    show wpAny _ _ (pure ((its.size : Int) - 1, (-1 : Int), Builtin.Slice.slicePlaces ((its.size : Int) - 1) (-1) (-1))) _ _ _
    rw [back_places]
    exact wpAny_pure ⟨rfl, rfl⟩
  unfold getItem
  try with_reducible refine wpAny_holding ?_
  first | refine wpAny_bind (wpAny_pure ?_) | skip
  refine wpAny_bind (wpAny_sequenceKey qt.typeIs (by decide) ?_)
  refine wpAny_bind (wpAny_callSpecial?_slot (name := Str.ofString "__getitem__") qt.typeIs slot_tuple_getitem (wpAny_call_entry slot_tuple_getitem qt.typeIs entry_tuple_getitem ?_ (args_tuple_getitem _ _)))
  show wpAny _ _ (Builtin.Tuple.tupleItemsOf (.ref t) >>= _) _ _ _
  refine wpAny_bind (tupleItemsOf_ qt ?_)
  refine wpAny_bind (wpAny_typeOf yc ?_)
  rw [if_pos (by decide)]
  refine wpAny_bind (wpAny_mono ac (fun r s1 hr => ?_) fun _ _ z => z.elim)
  obtain ⟨rfl, rfl⟩ := hr
  show wpAny _ _ (if (((its.size : Int) - 1) == 0 && (-1 : Int) == 1 && its.size == its.size) = true then _ else _) _ _ _
  rw [if_neg (by simp), back_items]
  first
    | exact wpAny_bind (m := Builtin.Tuple.tupleExact _) (wpAny_newObj_type (wpAny_pure ⟨_, rfl, wpAny_pure h⟩) zl)
    | exact wpAny_bind (m := Builtin.Tuple.tupleExact _) (wpAny_newObj_type (wpAny_bind (wpAny_pure (wpAny_pure ⟨_, rfl, wpAny_pure h⟩))) zl)
    | exact wpAny_bind (wpAny_bind (m := Builtin.Tuple.tupleExact _) (wpAny_newObj_type (wpAny_pure (wpAny_pure ⟨_, rfl, wpAny_pure h⟩)) zl))
    | exact wpAny_bind (wpAny_bind (m := Builtin.Tuple.tupleExact _) (wpAny_newObj_type (wpAny_pure ⟨_, rfl, wpAny_pure h⟩) zl))
end
/-- t[::-1] -/
def tRevT (K : PySem.W.Frag) (te : TE) : TE := fun σ H Q => te σ H fun x H1 => ∃ a xs, x = .ref a ∧ SqT K H1 a xs ∧ ∀ p, H1 p = none → Q (.ref p) (upd H1 p (.tup xs.reverse))
theorem pe_revT {X : Cx} {e : Expr} {te : TE} {k : Nat} {p1 p2 p3 pos : Pos} (he : PE X e te) : PE X (.Subscript e (.Slice none none (some (.UnaryOp .USub (.Constant (.int 1) k p1) p2)) p3) pos) (tRevT X.K te) := by
  constructor
  intro pins s σ H Q I h
  refine Subscript_ (thn (he.run pins s σ H _ I h) fun v s1 hh => ?_)
  obtain ⟨x, H1, I1, r1, a, xs, rfl, hx, q⟩ := hh
  cases r1
  have hs : PO X (some (.UnaryOp .USub (.Constant (.int 1) k p1) p2)) (tPart (tUn (rU fun i => .int (-i)) (tC (.int 1)))) := po_some (pe_un un_neg pe_int)
  refine wpAny_Slice (thn (po_none.run pins s1 σ H1 (fun o H2 => o = none ∧ H2 = H1) I1 ⟨rfl, rfl⟩) fun vl s2 h2 => ?_)
  obtain ⟨l, H2, I2, pl, rfl, rfl⟩ := h2
  refine thn (po_none.run pins s2 σ _ (fun o H3 => o = none ∧ H3 = H2) I2 ⟨rfl, rfl⟩) fun vu s3 h3 => ?_
  obtain ⟨u, H3, I3, pu, rfl, rfl⟩ := h3
  refine thn (hs.run pins s3 σ _ (fun o H4 => o = some (-1) ∧ H4 = H3) I3 ⟨1, rfl, -1, rfl, rfl, rfl⟩) fun vs s4 h4 => ?_
  obtain ⟨o, H4, I4, ps, rfl, rfl⟩ := h4
  cases pl
  cases pu
  have I5 : Inv X pins σ H4 { s4 with heap := s4.heap.push { cls := .type "slice", data := .fields #[.none, .none, vs] } } := I4.kept (t' := s4.toks) fun b ob q => Heap.get?_push_of_some _ q
  obtain ⟨its, r, qt, hz⟩ := I5.tuple hx
  show wpAny (model X.prog X.w) X.A (subscriptTail e (.Slice none none (some (.UnaryOp .USub (.Constant (.int 1) k p1) p2)) p3) (.ref a) (.ref s4.heap.objs.size)) (EP X pins σ Q) X.xe { s4 with heap := s4.heap.push { cls := .type "slice", data := .fields #[.none, .none, vs] } }
  refine tail_any (ops := [.ref a, .ref s4.heap.objs.size]) qt.typeIs (slot_tuple_getitem.lookup) ?_ (by with_unfolding_all rfl)
  have hl := r.length
  refine tup_back qt (Heap.IsSliceOf.new _ .none .none vs) ps (by rw [List.size_toArray]; omega) ?_
  refine ⟨.ref _, _, I5.laid (t' := s4.toks) (o := .tup xs.reverse) (fun b ob q => Heap.get?_push_of_some _ q) (Nat.le_refl _) ?_, rfl, q _ (I5.hok.fresh (Nat.le_refl _))⟩
  exact ⟨by rw [List.length_reverse]; exact hz, its.reverse, r.reverse, ⟨_, Heap.get?_push_size _ rfl, rfl, _, rfl⟩⟩
end L2

set_option maxRecDepth 100000
set_option maxHeartbeats 4000000
/-! things of any kind: lists and dicts told by their kind alone -/
namespace W1
open PySem PyProof.Rows L2
theorem Le.dK {H H' : Hp} {a : Addr} {kvs : List (Key × V)} (e : Le H H') (h : H a = some (.dK kvs)) : H' a = some (.dK kvs) := by
  rcases e a _ h with h1 | ⟨_, _, _, _, _, _, _, _, _, z, _⟩
  · exact h1
  · cases z
theorem Le.anyL {H H' : Hp} {a : Addr} (e : Le H H') (h : ∃ xs, H a = some (.lst xs)) : ∃ xs, H' a = some (.lst xs) := by
  obtain ⟨xs, h⟩ := h
  rcases e a _ h with h1 | ⟨c, p, x, s, n, p', x', s', n', _, h1, _⟩
  · exact ⟨_, h1⟩
  · exact ⟨_, h1⟩
/-- some list, or an empty dict -/
def Ob (H : Hp) (v : V) : Prop := ∃ a, v = .ref a ∧ ((∃ xs, H a = some (.lst xs)) ∨ H a = some (.dK []))
theorem Ob.le {H H' : Hp} {v : V} (e : Le H H') (h : Ob H v) : Ob H' v := by
  obtain ⟨a, rfl, h⟩ := h
  exact ⟨a, rfl, h.imp e.anyL e.dK⟩
theorem Ob.ty {K : PySem.W.Frag} {H : Hp} {v : V} (h : Ob H v) : TyX K H v (.type "list") ∨ TyX K H v (.type "dict") := by
  obtain ⟨a, rfl, h⟩ := h
  rcases h with ⟨xs, h⟩ | h
  · exact .inl (.base (.lst h))
  · exact .inr (.base (.dK h))
def Tk (H : Hp) (d : D) : Prop := noObj d = true ∨ ∃ v, d = .obj v ∧ Ob H v
theorem Tk.le {H H' : Hp} {d : D} (e : Le H H') (h : Tk H d) : Tk H' d := h.imp (fun h => h) fun ⟨v, h1, h2⟩ => ⟨v, h1, h2.le e⟩
def sca : D → Bool
  | .non => true
  | .bl _ => true
  | .int _ => true
  | .str _ => true
  | _ => false
inductive Th (H : Hp) : D → Prop
  | sc {d : D} : sca d = true → Th H d
  | tup {ds : List D} : ds.length ≤ 50000 → (∀ d ∈ ds, Th H d) → Th H (.tup ds)
  | ob {v : V} : Ob H v → Th H (.obj v)
theorem Th.le {H H' : Hp} {d : D} (e : Le H H') (h : Th H d) : Th H' d := by
  induction h with
  | sc h => exact .sc h
  | tup hl _ ih => exact .tup hl ih
  | ob h => exact .ob (h.le e)
theorem Th.tk {H : Hp} {d : D} (h : Th H d) : Tk H d := by
  cases h with
  | sc h => exact .inl (by cases d <;> first | rfl | cases h)
  | tup _ _ => exact .inl rfl
  | ob h => exact .inr ⟨_, rfl, h⟩
theorem Th.noL {H : Hp} {d : D} (h : Th H d) : NoL d := by
  induction h with
  | @sc d h => cases d <;> first | exact .non | exact .bl _ | exact .int _ | exact .str _ | cases h
  | tup _ _ ih => exact .tup ih
  | ob _ => exact .obj _
theorem Th.items {H : Hp} {ds : List D} (h : Th H (.tup ds)) : ds.length ≤ 50000 ∧ ∀ d ∈ ds, Th H d := by
  cases h with
  | sc h => cases h
  | tup h1 h2 => exact ⟨h1, h2⟩
/-- isinstance(x, T) of a thing -/
theorem ed_isK {K : PySem.W.Frag} {σ : L2.St} {H : Hp} {ta : TE} {d : D} {T : String} {f : D → Bool} (h : ED K ta σ H d) (t : Tk H d) (hb : noObj d = true → kitB (tyD d) T = some (f d)) (h1 : kitB "list" T = some false) (h2 : kitB "dict" T = some false) (h3 : ∀ v, f (.obj v) = false) :
    ED K (tCB (rIsi K) (tCons ta (tCons (tC (.ty T)) tNil))) σ H (.bl (f d)) := by
  rcases t with hn | ⟨v, rfl, ho⟩
  · exact ed_isi h (noObj_ne hn) (hb hn)
  · intro H1 e Q q
    refine h H1 e _ fun x d' H2 e2 p r => ?_
    have p' : d' = .obj v := p
    subst p'
    have ex := rp_obj r
    subst ex
    rw [h3]  at q
    rcases (ho.le (e.trans e2)).ty (K := K) with ty | ty
    · exact ⟨x, .ty T, .type "list", .type T, false, rfl, .ty T, ty, kit_ty h1, q _ _ H2 e2 rfl (.bl _)⟩
    · exact ⟨x, .ty T, .type "dict", .type T, false, rfl, .ty T, ty, kit_ty h2, q _ _ H2 e2 rfl (.bl _)⟩
def tupB : D → Bool
  | .tup _ => true
  | _ => false
def strB : D → Bool
  | .str _ => true
  | _ => false
def blB : D → Bool
  | .bl _ => true
  | _ => false
section
variable {K : PySem.W.Frag} {σ : L2.St} {H : Hp} {ta : TE} {d : D}
theorem ed_isTup (h : ED K ta σ H d) (t : Tk H d) : ED K (tCB (rIsi K) (tCons ta (tCons (tC (.ty "tuple")) tNil))) σ H (.bl (tupB d)) :=
  ed_isK (f := tupB) h t (fun hn => by cases d <;> first | rfl | decide +kernel | cases hn) (by decide +kernel) (by decide +kernel) fun _ => rfl
theorem ed_isStr (h : ED K ta σ H d) (t : Tk H d) : ED K (tCB (rIsi K) (tCons ta (tCons (tC (.ty "str")) tNil))) σ H (.bl (strB d)) :=
  ed_isK (f := strB) h t (fun hn => by cases d <;> first | rfl | decide +kernel | cases hn) (by decide +kernel) (by decide +kernel) fun _ => rfl
theorem ed_isInt (h : ED K ta σ H d) (t : Tk H d) : ED K (tCB (rIsi K) (tCons ta (tCons (tC (.ty "int")) tNil))) σ H (.bl (subI d)) :=
  ed_isK (f := subI) h t (fun hn => kit_int hn) (by decide +kernel) (by decide +kernel) fun _ => rfl
theorem ed_isBool (h : ED K ta σ H d) (t : Tk H d) : ED K (tCB (rIsi K) (tCons ta (tCons (tC (.ty "bool")) tNil))) σ H (.bl (blB d)) :=
  ed_isK (f := blB) h t (fun hn => by cases d <;> first | rfl | decide +kernel | cases hn) (by decide +kernel) (by decide +kernel) fun _ => rfl
/-- a list is told by its kind -/
theorem ep_hide {P : List D → Hp → Prop} (h : EP K ta σ H fun d H2 => ∃ ds, d = .lst ds ∧ P ds H2) : EP K ta σ H fun d H2 => ∃ v, d = .obj v ∧ Ob H2 v := fun H1 e Q q => h H1 e _ fun v d H2 e2 p r => by
  obtain ⟨ds, rfl, _⟩ := p
  obtain ⟨a, xs, rfl, s, _, _⟩ := rp_lst r
  exact q _ (.obj (.ref a)) H2 e2 ⟨_, rfl, a, rfl, .inl ⟨xs, s⟩⟩ (.obj _)
theorem ep_lstO {A : TA} {P : List D → Hp → Prop} (h : EA K A σ H P) (hl : ∀ ds H2, P ds H2 → ds.length ≤ 100000) : EP K (tLst A) σ H fun d H2 => ∃ v, d = .obj v ∧ Ob H2 v := fun H1 e Q q => h H1 e _ fun vs ds H2 e2 p r => by
  refine ⟨by rw [r.len]; exact Evl.sz_of (hl ds H2 p), fun a na => ?_⟩
  exact q _ (.obj (.ref a)) _ (e2.trans (Le.new na)) ⟨_, rfl, a, rfl, .inl ⟨vs, upd_same⟩⟩ (.obj _)
/-- a list of a length that no hand has -/
theorem ed_lstN {A : TA} {ds : List D} (h : EDA K A σ H ds) (hl : ds.length ≤ 100000) (hn : ds.length ≠ 5) : ED K (tLst A) σ H (.lst ds) :=
  ep_lst h (fun ds' H2 p => by rw [show ds' = ds from p]; exact hl) (fun ds' H2 xs p r => by rw [show ds' = ds from p] at r; exact notH_len (by rw [r.len]; exact hn)) fun ds' H2 p H3 _ => by rw [show ds' = ds from p]
theorem ep_lstN {A : TA} {P : List D → Hp → Prop} (h : EA K A σ H P) (hl : ∀ ds H2, P ds H2 → ds.length ≤ 100000) (hn : ∀ ds H2, P ds H2 → ds.length ≠ 5) (hP : ∀ ds H2, P ds H2 → ∀ H3, Le H2 H3 → P ds H3) : EP K (tLst A) σ H fun d H2 => ∃ ds, d = .lst ds ∧ P ds H2 :=
  ep_lst h hl (fun ds H2 xs p r => notH_len (by rw [r.len]; exact hn ds H2 p)) fun ds H2 p H3 e => ⟨ds, rfl, hP ds H2 p H3 e⟩
/-- t[::-1] -/
theorem rps_rev {H : Hp} : ∀ {vs : List V} {ds : List D}, Rps K H vs ds → Rps K H vs.reverse ds.reverse
  | _, _, .nil => .nil
  | _, _, .cons h r => by
    rw [List.reverse_cons, List.reverse_cons]
    exact (rps_rev r).app (.cons h .nil)
theorem ed_revT {ds : List D} (h : ED K ta σ H (.tup ds)) : ED K (tRevT K ta) σ H (.tup ds.reverse) := fun H1 e Q q =>
  h H1 e _ fun v d H2 e2 p r => by
    have p' : d = .tup ds := p
    subst p'
    obtain ⟨a, xs, rfl, s, rr⟩ := rp_tup r
    exact ⟨a, xs, rfl, s, fun p np => q _ _ _ (e2.trans (Le.new np)) rfl (.tup (Evl.st_of upd_same) ((rps_rev rr).le (Le.new np)))⟩
end
section
variable {X : Cx} {K : PySem.W.Frag}
theorem kpe_revT {e : Expr} {te : TE} {k : Nat} {p1 p2 p3 pos : Pos} (he : PE X e te) (h : X.K = K := by rfl) : PE X (.Subscript e (.Slice none none (some (.UnaryOp .USub (.Constant (.int 1) k p1) p2)) p3) pos) (tRevT K te) := h ▸ pe_revT he
theorem kpi_zTL {e e2 : Expr} {ta : TA} {p pos tpos : Pos} {elts : List Expr} {kk : Nat} (hg : Gl X "zip") (hm : X.mg "zip" = none) (ha : PA X [e, e2] ta)
    (hs : starEach [e, e2] X.env = (false, eval e X.env) :: starEach [e2] X.env := by rfl) (hpl : (backTo pos (starEach [e2] X.env)).any (·.1) = false := by rfl) (h : X.K = K := by rfl) :
    PI X (.Tuple elts kk tpos) (.Call (.Name "zip" p) [e, e2] [] pos) (iZTL K ta) := h ▸ pi_zTL hg hm ha hs hpl
end
/-! ### loops in which nothing changes but by calls -/
section
variable {K : PySem.W.Frag} {σ : L2.St} {H H' : Hp} {te : TE} {D1 : Ends} {tu tz : TS} {g : TG}
theorem s_forT2 {ds : List D} (h : ED K te σ H (.tup ds))
    (k : ∀ H1, Le H H1 → ∃ Pv : Nat → L2.St → Hp → Prop, Pv 0 σ H1 ∧ (∀ i σ' H', i ≤ ds.length → Pv i σ' H' → Le H1 H') ∧
      (∀ i d v σ' H', ds[i]? = some d → Rp K H' v d → Pv i σ' H' → g v σ' H' fun σ2 H2 => tu (bodyEnds D1 (Pv (i + 1))) σ2 H2) ∧ ∀ σ' H', Pv ds.length σ' H' → D1.nx σ' H') : tFor (iTup K te) g tu D1 σ H := h H (Le.refl _) _ fun v d0 H1 e p r => by
  have p' : d0 = .tup ds := p
  subst p'
  obtain ⟨a, xs, rfl, s, rr⟩ := rp_tup r
  obtain ⟨Pv, h0, hle, hs, hd⟩ := k H1 e
  refine ⟨a, rfl, ⟨xs, s⟩, for_it (walk_tup (xs := xs)) Pv h0 (fun i σ' H' hi q => (hle i σ' H' (by rw [← rr.len]; exact hi) q).sqt s) ?_ (fun σ' H' q => hd σ' H' (by rw [← rr.len]; exact q))⟩
  rintro i x σ' H' _ hi q ⟨rfl, hx⟩
  obtain ⟨d, h1, h2⟩ := rr.at' hx
  exact hs i d x σ' _ h1 (h2.le (hle i σ' _ (by rw [← rr.len]; omega) q)) q
theorem q_forT2 {ds : List D} (h : ED K te σ H (.tup ds))
    (k : ∀ H1, Le H H1 → ∃ Pv : Nat → L2.St → Hp → Prop, Pv 0 σ H1 ∧ (∀ i σ' H', i ≤ ds.length → Pv i σ' H' → Le H1 H') ∧
      (∀ i d v σ' H', ds[i]? = some d → Rp K H' v d → Pv i σ' H' → g v σ' H' fun σ2 H2 => tu ({ D1 with nx := Pv (i + 1), ct := Pv (i + 1), bk := tz D1 }) σ2 H2) ∧ ∀ σ' H', Pv ds.length σ' H' → tz D1 σ' H') : tSeq (tFor (iTup K te) g tu) tz D1 σ H := s_forT2 (D1 := { D1 with nx := tz D1 }) h k
theorem s_forL2 {ds : List D} (h : ED K te σ H (.lst ds))
    (k : ∀ H1, Le H H1 → ∃ Pv : Nat → L2.St → Hp → Prop, Pv 0 σ H1 ∧ (∀ i σ' H', i ≤ ds.length → Pv i σ' H' → Le H1 H') ∧
      (∀ i d v σ' H', ds[i]? = some d → Rp K H' v d → Pv i σ' H' → g v σ' H' fun σ2 H2 => tu (bodyEnds D1 (Pv (i + 1))) σ2 H2) ∧ ∀ σ' H', Pv ds.length σ' H' → D1.nx σ' H') : tFor (iList K te) g tu D1 σ H := h H (Le.refl _) _ fun v d0 H1 e p r => by
  have p' : d0 = .lst ds := p
  subst p'
  obtain ⟨a, xs, rfl, s, nh, rr⟩ := rp_lst r
  obtain ⟨Pv, h0, hle, hs, hd⟩ := k H1 e
  refine ⟨a, rfl, ⟨xs, SqL.of s⟩, for_it (walk_list (xs := xs)) Pv h0 (fun i σ' H' hi q => SqL.of ((hle i σ' H' (by rw [← rr.len]; exact hi) q).lst s nh)) ?_ (fun σ' H' q => hd σ' H' (by rw [← rr.len]; exact q))⟩
  rintro i x σ' H' _ hi q ⟨rfl, hx⟩
  obtain ⟨d, h1, h2⟩ := rr.at' hx
  exact hs i d x σ' _ h1 (h2.le (hle i σ' _ (by rw [← rr.len]; omega) q)) q
end
end W1

set_option maxRecDepth 100000
set_option maxHeartbeats 4000000
namespace W1
open PySem PyProof.Rows L2 RZ
local macro_rules | `(tactic| walk_at "rp") => `(tactic| first | assumption | exact Rp.int _ | exact Rp.bl _ | exact Rp.str _ | exact Rp.non | exact Rp.obj _ | (refine Rp.le (by assumption) ?_; walk_at "rp"))
local macro_rules | `(tactic| walk_at "ed") => `(tactic| first
  | exact ed_int | exact ed_str | exact ed_bl | exact ed_non
  | (refine ed_var rfl ?_; walk_at "rp")
  | (refine ed_ixT (ds := [_, _]) ?_ ed_int (by decide) rfl; walk_at "ed")
  | (refine ed_I0 ?_ ?_ <;> walk_at "ed")
  | (refine ed_B0 ?_ ?_ <;> walk_at "ed")
  | (refine ed_eqS ?_ ?_ rfl rfl rfl <;> walk_at "ed")
  | assumption)
local macro_rules | `(tactic| walk_at "ea") => `(tactic| first | exact ea_nil | (refine ea_cons ?_ ?_; walk_at "ed"; walk_at "ea"))

abbrev s__law_is : Stmt := topS 40
abbrev N__law_is : List Str := ["_law_told", "_law_due", "_law_one", "_law_two"]
theorem sc__law_is : FnScope N__law_is ["_law_told", "_law_due"] (defScope s__law_is) := ⟨rfl, rfl, rfl, by decide +kernel, rfl, by decide +kernel, by decide +kernel⟩
section
variable {X : Cx} {K : PySem.W.Frag}
theorem kc_isiT (h : X.K = K := by rfl) : CallR X (.builtin "isinstance") (rIsiT K) := h ▸ call_isiT
theorem kpi_zipA {e e2 : Expr} {ta : TA} {p pos tpos : Pos} {elts : List Expr} {kk : Nat} (hg : Gl X "zip") (hm : X.mg "zip" = none) (ha : PA X [e, e2] ta)
    (hs : starEach [e, e2] X.env = (false, eval e X.env) :: starEach [e2] X.env := by rfl) (hpl : (backTo pos (starEach [e2] X.env)).any (·.1) = false := by rfl) (h : X.K = K := by rfl) :
    PI X (.Tuple elts kk tpos) (.Call (.Name "zip" p) [e, e2] [] pos) (iZipA K ta) := h ▸ pi_zipA hg hm ha hs hpl
end
theorem walk_zipT {K : PySem.W.Frag} {a b : Addr} {xs ys : List V} {n : Nat} (hn : n = min xs.length ys.length) : Walk (ItzT K a b) n (fun H => SqT K H a xs ∧ SqT K H b ys) (YPair (fun i => xs[i]?) (fun i => ys[i]?)) := by
  subst hn
  constructor
  · intro i H hi q
    have h1 : i < xs.length := by omega
    have h2 : i < ys.length := by omega
    exact ⟨xs, ys, xs[i], ys[i], q.1, q.2, by simp [h1], by simp [h2]⟩
  · intro H q
    exact ⟨xs, ys, q.1, q.2, by omega⟩
  · rintro i H v H' _ q ⟨T, x, y, h1, h2, h3, h4, h5⟩
    exact ⟨T, x, y, h1, h2, h3, h4 xs q.1, h5 ys q.2⟩
/-! ### deep data -/
def Dp : Nat → D → Prop
  | 0, _ => False
  | n + 1, .tup xs => xs.length ≤ 50000 ∧ ∀ x ∈ xs, Dp n x
  | n + 1, .lst xs => xs.length ≤ 50000 ∧ ∀ x ∈ xs, Dp n x
  | _ + 1, .obj _ => False
  | _ + 1, _ => True
theorem Dp.no {n : Nat} {d : D} (h : Dp n d) : noObj d = true := by
  cases n with
  | zero => exact absurd h id
  | succ n =>
    cases d with
    | obj v => exact absurd h id
    | _ => rfl
def isTupD : D → Bool
  | .tup _ => true
  | _ => false
def isLstD : D → Bool
  | .lst _ => true
  | _ => false
def isBlD : D → Bool
  | .bl _ => true
  | _ => false
theorem kd_tup {d : D} (h : noObj d = true) : kitB (tyD d) "tuple" = some (isTupD d) := by cases d <;> first | rfl | decide +kernel | exact absurd h Bool.false_ne_true
theorem kd_lst {d : D} (h : noObj d = true) : kitB (tyD d) "list" = some (isLstD d) := by cases d <;> first | rfl | decide +kernel | exact absurd h Bool.false_ne_true
theorem kd_bl {d : D} (h : noObj d = true) : kitB (tyD d) "bool" = some (isBlD d) := by cases d <;> first | rfl | decide +kernel | exact absurd h Bool.false_ne_true
def isSeq : D → Bool
  | .tup _ => true
  | .lst _ => true
  | _ => false
section
variable {K : PySem.W.Frag} {σ : L2.St} {H : Hp} {ta te : TE} {d : D} {vs : List Nat}
theorem ed_isiT (h : ED K te σ H d) (no : noObj d = true) : ED K (tCB (rIsiT K) (tCons te (tCons (tTup (tCons (tC (.ty "tuple")) (tCons (tC (.ty "list")) tNil))) tNil))) σ H (.bl (isSeq d)) := fun H1 e Q q => h H1 e _ fun v d' H2 e2 p r => by
  have p' : d' = d := p
  subst p'
  refine ⟨(by decide), fun a na => ⟨v, a, _, .type (tyD d'), [.type "tuple", .type "list"], isSeq d', rfl, upd_same, .cons (.ty "tuple") (.cons (.ty "list") .nil), tyx_of (noObj_ne no) (r.le (Le.new na)), ?_, q _ _ _ (e2.trans (Le.new na)) rfl (.bl _)⟩⟩
  have k1 : PySem.W.kitOne K (.type (tyD d')) (.type "tuple") = some (isTupD d') := kit_ty (kd_tup no)
  have k2 : PySem.W.kitOne K (.type (tyD d')) (.type "list") = some (isLstD d') := kit_ty (kd_lst no)
  unfold PySem.W.kitAny
  rw [k1]
  cases d' with
  | tup xs => rfl
  | _ =>
    show PySem.W.kitAny K _ [.type "list"] = _
    unfold PySem.W.kitAny
    rw [k2]
    rfl
theorem CI.le {H' H2 : Hp} {L : Addr} {I : Nat → List D → Prop} {i : Nat} (G : Good I) (c : CI K H L I i H') (e : Le H' H2) : CI K H L I i H2 := by
  obtain ⟨q1, q2, ws, acc, q3, q4, q5⟩ := c
  exact ⟨q1, q2.trans e, ws, acc, e.lst q3 ((G.uni i acc q5).notH q4), q4.le e, q5⟩
theorem ed_lcZ {A : TA} {ds : List D} {j l : Nat} (hd : d = .tup ds ∨ d = .lst ds) (ha : EDA K A σ H [d, d]) (hz : ds.length ≤ 50000) (hw : ∀ x y, wipe (((wipe σ vs).set j (some x)).set l (some y)) vs = wipe σ vs)
    (he : ∀ x v u H1, Le H H1 → x ∈ ds → Rp K H1 v x → Rp K H1 u x → ED K te (((wipe σ vs).set j (some v)).set l (some u)) H1 (.bl true)) :
    ED K (tLc (iZipA K A) (gTup K 2 (gCons (gName j) (gCons (gName l) gNil))) tYes te vs) σ H (.lst ((List.replicate ds.length true).map .bl)) := fun H1 e Q q => ha H1 e _ fun us es H2 e2 p rr => by
  have p' : es = [d, d] := p
  subst p'
  obtain ⟨v, u, rfl, r1, r2⟩ := rps2 rr
  have G := good enc_bl fun i zs => zs = List.replicate i true ∧ i ≤ ds.length
  have fin : ∀ {L : Addr} {H' : Hp}, CI K H2 L (GI D.bl fun i zs => zs = List.replicate i true ∧ i ≤ ds.length) ds.length H' → Q (.ref L) H' := fun c => ci_end G c fun v d H3 e3 p r => q v d H3 (e2.trans e3) (by
    obtain ⟨acc, rfl, zs, rfl, _, rfl, _⟩ := p
    rfl) r
  have turn : ∀ {L : Addr} {H' : Hp} {i : Nat} {x : D} {v u : V} {σ2 : L2.St}, ds[i]? = some x → Rp K H2 v x → Rp K H2 u x → CI K H2 L (GI D.bl fun i zs => zs = List.replicate i true ∧ i ≤ ds.length) i H' → σ2 = ((wipe σ vs).set j (some v)).set l (some u) →
      tYes σ2 H' fun b H3 => if b = true then te σ2 H3 fun y H4 => ∃ ac, H4 L = some (.lst ac) ∧ ac.length < sizeLine ∧ CI K H2 L (GI D.bl fun i zs => zs = List.replicate i true ∧ i ≤ ds.length) (i + 1) (upd H4 L (.lst (ac ++ [y]))) else CI K H2 L (GI D.bl fun i zs => zs = List.replicate i true ∧ i ≤ ds.length) (i + 1) H3 := by
    intro L H' i x v u σ2 hx rv ru c es
    subst es
    have hi := (List.getElem?_eq_some_iff.mp hx).1
    refine ci_turn G c (PT := fun b => b = true) (fun acc ia => et_yes) (fun acc ia _ => ?_) (fun acc ia hf => nomatch hf)
    obtain ⟨zs, rfl, hl, rfl, _⟩ := ia
    refine (he x v u H2 (e.trans e2) (List.mem_of_getElem? hx) rv ru).weak fun d' H3 _ p => ?_
    have p' : d' = .bl true := p
    subst p'
    exact ⟨GI.more (by simp; omega) ⟨by rw [← List.replicate_succ'], hi⟩, .bl _⟩
  rcases hd with rfl | rfl
  · obtain ⟨a, xs, rfl, s, r⟩ := rp_tup r1
    obtain ⟨b, ys, rfl, s2, rb⟩ := rp_tup r2
    refine ⟨a, b, xs, ys, rfl, .inr ⟨s, s2, fun L hL => lc_it (walk_zipT (n := ds.length) (by rw [r.len, rb.len, Nat.min_self])) (CI K H2 L (GI D.bl fun i zs => zs = List.replicate i true ∧ i ≤ ds.length)) (ci_start (I := GI D.bl fun i zs => zs = List.replicate i true ∧ i ≤ ds.length) hL ⟨[], rfl, Nat.zero_le _, rfl, Nat.zero_le _⟩) (fun i H' _ c => ⟨c.2.1.sqt s, c.2.1.sqt s2⟩) ?_ (fun H' c => fin c)⟩⟩
    rintro i x H' H3 hi c ⟨T, x1, x2, rfl, nT, rfl, f1, f2⟩
    obtain ⟨d1, g1, g2⟩ := r.at' f1
    obtain ⟨d2, g3, g4⟩ := rb.at' f2
    have ed : d1 = d2 := Option.some.inj (g1.symm.trans g3)
    subst ed
    exact ⟨T, _, rfl, Evl.st_of upd_same, rfl, _, _, rfl, _, _, rfl, rfl, hw _ _, turn g1 g2 g4 (CI.le G c (Le.new nT)) rfl⟩
  · obtain ⟨a, xs, rfl, s, nh, r⟩ := rp_lst r1
    obtain ⟨b, ys, rfl, s2, nh2, rb⟩ := rp_lst r2
    refine ⟨a, b, xs, ys, rfl, .inl ⟨SqL.of s, SqL.of s2, fun L hL => lc_it (walk_zip (n := ds.length) (by rw [r.len, rb.len, Nat.min_self])) (CI K H2 L (GI D.bl fun i zs => zs = List.replicate i true ∧ i ≤ ds.length)) (ci_start (I := GI D.bl fun i zs => zs = List.replicate i true ∧ i ≤ ds.length) hL ⟨[], rfl, Nat.zero_le _, rfl, Nat.zero_le _⟩) (fun i H' _ c => ⟨SqL.of (c.2.1.lst s nh), SqL.of (c.2.1.lst s2 nh2)⟩) ?_ (fun H' c => fin c)⟩⟩
    rintro i x H' H3 hi c ⟨T, x1, x2, rfl, nT, rfl, f1, f2⟩
    obtain ⟨d1, g1, g2⟩ := r.at' f1
    obtain ⟨d2, g3, g4⟩ := rb.at' f2
    have ed : d1 = d2 := Option.some.inj (g1.symm.trans g3)
    subst ed
    exact ⟨T, _, rfl, Evl.st_of upd_same, rfl, _, _, rfl, _, _, rfl, rfl, hw _ _, turn g1 g2 g4 (CI.le G c (Le.new nT)) rfl⟩
end
structure STxt (mg : Str → Option Value) : Prop extends Txt mg where
  n_zip : mg "zip" = none
/-- == of what is flat, and of empty dicts -/
def rEqX : R2 := fun x y H Q => rEq x y H Q ∨ ∃ a b, x = .ref a ∧ y = .ref b ∧ H a = some (.dK []) ∧ H b = some (.dK []) ∧ Q (.bl true) H
theorem op_eqX {X : Cx} (hu : X.A.units < cLine) : OpR X (compareOp .Eq) rEqX := by
  intro pins s σ H x y v u Q I rx ry h
  rcases h with h | ⟨a, b, rfl, rfl, h1, h2, q⟩
  · exact op_eq pins s σ H x y v u Q I rx ry h
  · exact op_eq_dict hu pins s σ H _ _ v u Q I rx ry ⟨a, b, [], rfl, rfl, h1, h2, List.nodup_nil, (fun p hp => nomatch hp), q⟩
section
variable {P : Program} {w : World} {K : PySem.W.Frag} {mg : Str → Option Value} {base : Heap}
def R_is (n : Nat) : List D → Hp → Pd → Prop := fun ds H P => P = is (.bl true) ∧ ((∃ d, ds = [d, d] ∧ Dp n d) ∨ 0 < n ∧ ∃ p : Addr, ds = [.obj (.ref p), .obj (.ref p)] ∧ H p = some (.dK []))
theorem ok_is (T : STxt mg) (g : GDef K mg "_law_is" s__law_is ["_law_told", "_law_due"]) : ∀ n : Nat, Def P w K mg base (n + 1) "_law_is" ["_law_told", "_law_due"] (spD K (R_is n))
  | 0 => by
    have no : ∀ ds H Pd, ¬ R_is 0 ds H Pd := fun ds H Pd h => by
      rcases h.2 with ⟨d, _, h⟩ | ⟨h, _⟩
      · exact absurd h id
      · exact absurd h (Nat.lt_irrefl 0)
    exact defD g sc__law_is (fun ds H Pd h => (no _ _ _ h).elim) fun cdv A outer s f H vs ds Pd Q E hr r h q => (no _ _ _ h).elim
  | n + 1 => by
    have G_law_is := ok_is T g n
    refine defD g sc__law_is (fun ds H Pd h => ?_) fun cdv A outer s f H vs ds Pd Q E hr r h q => ?_
    · rcases h.2 with ⟨d, rfl, _⟩ | ⟨_, p, rfl, _⟩ <;> rfl
    refine ⟨_, (pss_cons (ps_if (pt_val (pe_callB (kc_isiT (K := K)) (by rfl) T.n_isinstance boot_isinstance (pa_cons (pv 1) (pa_cons (pe_tup (pa_cons (pe_bltn (v := V.ty "tuple") (by rfl) T.n_tuple boot_tuple rfl) (pa_cons (pe_bltn (v := V.ty "list") (by rfl) T.n_list boot_list rfl) pa_nil))) pa_nil))))
      (pss_cons (ps_if (PW.pt (pw_or (pt_cmpR op_ne (pe_callB (kc_isi (K := K)) (by rfl) T.n_isinstance boot_isinstance (pa_cons (pv 0) (pa_cons (pe_bltn (v := V.ty "tuple") (by rfl) T.n_tuple boot_tuple rfl) pa_nil))) (pe_callB (kc_isi (K := K)) (by rfl) T.n_isinstance boot_isinstance (pa_cons (pv 1) (pa_cons (pe_bltn (v := V.ty "tuple") (by rfl) T.n_tuple boot_tuple rfl) pa_nil))) (nomark _)) (pw_or1 (pt_not (pt_val (pe_callB (kc_isiT (K := K)) (by rfl) T.n_isinstance boot_isinstance (pa_cons (pv 0) (pa_cons (pe_tup (pa_cons (pe_bltn (v := V.ty "tuple") (by rfl) T.n_tuple boot_tuple rfl) (pa_cons (pe_bltn (v := V.ty "list") (by rfl) T.n_list boot_list rfl) pa_nil))) pa_nil))))))))
      (pss_one (ps_ret pe_bl))
      pss_nil)
    (pss_one (ps_ret (pe_and (pe_cmpR op_eq (pe_callB (kc_len (K := K)) (by rfl) T.n_len boot_len (pa_cons (pv 0) pa_nil)) (pe_callB (kc_len (K := K)) (by rfl) T.n_len boot_len (pa_cons (pv 1) pa_nil)) (nomark _)) (pe_one (pe_callB (kc_all (K := K) rfl) (by rfl) T.n_all boot_all (pa_cons (pe_lc (own := [("_law_one", 2), ("_law_two", 3)]) rfl sc__law_is.nd (kpi_zipA (K := K) (by rfl) T.n_zip (pa_cons (pv 0) (pa_cons (pv 1) pa_nil))) (blkOk_by (N := N__law_is) (sc := defScope s__law_is) (by decide +kernel)) (fun _ _ _ _ _ => (kpg_tup (K := K) (n := 2) rfl (pgs_cons (pg_name (i := 2) sc__law_is.nd rfl (Or.inl rfl)) (pgs_cons (pg_name (i := 3) sc__law_is.nd rfl (Or.inl rfl)) pgs_nil)))) (fun _ _ _ _ _ => pts_nil) (fun _ _ _ _ _ => (pe_def G_law_is hr (pa_cons (pv 2) (pa_cons (pv 3) pa_nil))))) pa_nil)))))))
      pss_nil)
    (pss_one (ps_ret (pe_and (pe_cmpR op_eq (pe_callB (kc_isi (K := K)) (by rfl) T.n_isinstance boot_isinstance (pa_cons (pv 0) (pa_cons (pe_bltn (v := V.ty "bool") (by rfl) T.n_bool boot_bool rfl) pa_nil))) (pe_callB (kc_isi (K := K)) (by rfl) T.n_isinstance boot_isinstance (pa_cons (pv 1) (pa_cons (pe_bltn (v := V.ty "bool") (by rfl) T.n_bool boot_bool rfl) pa_nil))) (nomark _)) (pe_one (pe_cmpR (op_eqX hr.units0) (pv 0) (pv 1) (nomark _))))))), ?_⟩
    obtain ⟨rfl, h⟩ := h
    rcases h with ⟨d, rfl, hd⟩ | ⟨_, p, rfl, hp⟩
    rotate_left
    · obtain ⟨v1, v2, rfl, r1, r2⟩ := rps2 r
      have e1 := rp_obj r1
      have e2 := rp_obj r2
      subst e1 e2
      have ty : ∀ {H1 : Hp}, Le H H1 → TyX K H1 (.ref p) (.type "dict") := fun e => .base (.dK (e.dK hp))
      have hT : ∀ {H1 : Hp} {σ : L2.St} {j : Nat}, Le H H1 → σ[j]? = some (some (.ref p)) → ED K (tCB (rIsiT K) (tCons (tVar j) (tCons (tTup (tCons (tC (.ty "tuple")) (tCons (tC (.ty "list")) tNil))) tNil))) σ H1 (.bl false) := fun e hs H2 e2 Q q =>
        ⟨_, hs, (by decide), fun a na => ⟨.ref p, a, _, .type "dict", [.type "tuple", .type "list"], false, rfl, upd_same, .cons (.ty "tuple") (.cons (.ty "list") .nil), ty ((e.trans e2).trans (Le.new na)), (by
          unfold PySem.W.kitAny
          rw [show PySem.W.kitOne K (.type "dict") (.type "tuple") = some false from kit_ty (by decide +kernel)]
          dsimp only
          unfold PySem.W.kitAny
          rw [show PySem.W.kitOne K (.type "dict") (.type "list") = some false from kit_ty (by decide +kernel)]
          rfl), q _ _ _ (Le.new na) rfl (.bl _)⟩⟩
      have hB : ∀ {H1 : Hp} {σ : L2.St} {j : Nat}, Le H H1 → σ[j]? = some (some (.ref p)) → ED K (tCB (rIsi K) (tCons (tVar j) (tCons (tC (.ty "bool")) tNil))) σ H1 (.bl false) := fun e hs H2 e2 Q q =>
        ⟨_, hs, .ref p, .ty "bool", .type "dict", .type "bool", false, rfl, .ty "bool", ty (e.trans e2), kit_ty (by decide +kernel), q _ _ _ (Le.refl _) rfl (.bl _)⟩
      refine q_whenB (b := false) (et_B (K := K) (hT (Le.refl _) rfl)) (fun hb => nomatch hb) (fun _ H1 e1 => ?_)
      refine s_retD (K := K) (d := .bl true) (ed_eq (ed_andV (a := true) (b := true) (ed_eq (ed_eqS (d1 := .bl false) (d2 := .bl false) (hB e1 rfl) (hB e1 rfl) rfl rfl rfl) (congrArg D.bl (decide_eq_true rfl))) fun _ H2 e2 Q' q' => ?_) rfl) fun v H3 e3 r => q v _ H3 (e1.trans e3) rfl r
      exact ⟨_, rfl, _, rfl, .inr ⟨p, p, rfl, rfl, (e1.trans e2).dK hp, (e1.trans e2).dK hp, q' _ _ H2 (Le.refl _) rfl (.bl _)⟩⟩
    obtain ⟨v1, v2, rfl, r1, r2⟩ := rps2 r
    have no := hd.no
    have vsb : ∀ b : Bool, decide (vOf (.bl b) = vOf (.bl b)) = true := fun b => decide_eq_true rfl
    have hlen : ∀ {H1 : Hp} {σ : L2.St} {j : Nat} {v : V} {ds : List D}, (d = .tup ds ∨ d = .lst ds) → σ[j]? = some (some v) → Rp K H1 v d → ED K (tCB (fun xs H Q => ∃ p ys, xs = [.ref p] ∧ (SqL K H p ys ∨ SqT K H p ys) ∧ Q (.int ys.length) H) (tCons (tVar j) tNil)) σ H1 (.int (ds.length : Int)) := by
      intro H1 σ j v ds hd hs r
      rcases hd with rfl | rfl
      · exact ed_lenT (ed_var hs r)
      · exact ed_lenL (ed_var hs r)
    refine q_whenB (b := isSeq d) (et_B (K := K) (ed_isiT (ed_var rfl r2) no)) (fun hb H1 e1 => ?_) (fun hb H1 e1 => ?_)
    · obtain ⟨ds, hds, hz, hdp⟩ : ∃ ds, (d = .tup ds ∨ d = .lst ds) ∧ ds.length ≤ 50000 ∧ ∀ x ∈ ds, Dp n x := by
        cases d with
        | tup xs => exact ⟨xs, .inl rfl, hd.1, hd.2⟩
        | lst xs => exact ⟨xs, .inr rfl, hd.1, hd.2⟩
        | _ => cases hb
      refine q_no (b := false) (eb_eq (eb_or (a := false) (b := false) (eb_eq (et_test (K := K) (ed_neS (ed_isi (ed_var rfl (r1.le e1)) (noObj_ne no) (kd_tup no)) (ed_isi (ed_var rfl (r2.le e1)) (noObj_ne no) (kd_tup no)) rfl rfl rfl)) (by rw [vsb]; rfl)) fun _ => eb_eq (eb_not (et_B (K := K) (ed_isiT (ed_var rfl (r1.le e1)) no))) (by rw [hb]; rfl)) rfl) rfl fun H2 e2 => ?_
      refine s_retD (K := K) (d := .bl true) (ed_eq (ed_andV (a := true) (b := true) (ed_eq (ed_eqS (d1 := .int (ds.length : Int)) (d2 := .int (ds.length : Int)) (hlen hds rfl (r1.le (e1.trans e2))) (hlen hds rfl (r2.le (e1.trans e2))) rfl rfl rfl) (congrArg D.bl (decide_eq_true rfl))) fun _ => ed_eq (ed_all (bs := List.replicate ds.length true) (ed_lcZ hds (ea_cons (ed_var rfl (r1.le (e1.trans e2))) (ea_cons (ed_var rfl (r2.le (e1.trans e2))) ea_nil)) hz (fun _ _ => rfl) fun x v u H3 e3 hx rv ru => ed_call (ea_cons (ed_var rfl rv) (ea_cons (ed_var rfl ru) ea_nil)) fun H4 e4 => ⟨rfl, .inl ⟨x, rfl, hdp x hx⟩⟩)) ?_) rfl) fun v H3 e3 r => q v _ H3 ((e1.trans e2).trans e3) rfl r
      congr 1
      rw [List.all_eq_true]
      intro b hb2
      rw [List.eq_of_mem_replicate hb2]
      rfl
    · have hf : flat d = true := by cases d <;> first | rfl | cases hb
      have hs : scal (vOf d) (vOf d) = true := by cases d <;> first | rfl | exact absurd no Bool.false_ne_true | cases hb
      have kb := kd_bl no
      exact s_retD (K := K) (d := .bl true) (ed_eq (ed_andV (a := true) (b := true) (ed_eq (ed_eqS (ed_isi (ed_var rfl (r1.le e1)) (noObj_ne no) kb) (ed_isi (ed_var rfl (r2.le e1)) (noObj_ne no) kb) rfl rfl rfl) (congrArg D.bl (vsb _))) fun _ => ed_op (ed_var rfl (r1.le e1)) (ed_var rfl (r2.le e1)) fun x y H2 _ q1 q2 Q q => .inl ⟨by rw [rp_flat hf q1, rp_flat hf q2]; exact hs, by rw [rp_flat hf q1, rp_flat hf q2, decide_eq_true rfl]; exact q _ _ H2 (Le.refl _) rfl (.bl _)⟩) rfl) fun v H3 e3 r => q v _ H3 (e1.trans e3) rfl r
end
end W1

set_option maxRecDepth 100000
set_option maxHeartbeats 4000000
namespace W1
open PySem PyProof.Rows L2
local macro_rules | `(tactic| walk_at "rp") => `(tactic| first | assumption | exact Rp.int _ | exact Rp.bl _ | exact Rp.str _ | exact Rp.non | exact Rp.obj _ | (refine Rp.le (by assumption) ?_; walk_at "rp"))
local macro_rules | `(tactic| walk_at "ed") => `(tactic| first
  | exact ed_int | exact ed_str | exact ed_bl | exact ed_non
  | (refine ed_var rfl ?_; walk_at "rp")
  | (refine ed_ixT (ds := [_, _]) ?_ ed_int (by decide) rfl; walk_at "ed")
  | (refine ed_I0 ?_ ?_ <;> walk_at "ed")
  | (refine ed_B0 ?_ ?_ <;> walk_at "ed")
  | (refine ed_eqS ?_ ?_ rfl rfl rfl <;> walk_at "ed")
  | assumption)
local macro_rules | `(tactic| walk_at "ea") => `(tactic| first | exact ea_nil | (refine ea_cons ?_ ?_; walk_at "ed"; walk_at "ea"))

abbrev s__law_pairs : Stmt := topS 42
abbrev N__law_pairs : List Str := ["_law_many", "_law_found", "_law_one", "_law_other"]
theorem sc__law_pairs : FnScope N__law_pairs ["_law_many"] (defScope s__law_pairs) := ⟨rfl, rfl, rfl, by decide +kernel, rfl, by decide +kernel, by decide +kernel⟩
abbrev s__law_near : Stmt := topS 45
abbrev N__law_near : List Str := ["_law_parts_here", "_law_room", "_law_one", "_law_other"]
theorem sc__law_near : FnScope N__law_near ["_law_parts_here", "_law_room"] (defScope s__law_near) := ⟨rfl, rfl, rfl, by decide +kernel, rfl, by decide +kernel, by decide +kernel⟩
abbrev s__law_start : Stmt := topS 46
abbrev N__law_start : List Str := ["_law_parts_here"]
theorem sc__law_start : FnScope N__law_start ["_law_parts_here"] (defScope s__law_start) := ⟨rfl, rfl, rfl, by decide +kernel, rfl, by decide +kernel, by decide +kernel⟩
/-- the pairs i < j below n, row by row -/
def pairsL (n : Nat) : List (Int × Int) := (List.range n).flatMap fun i : Nat => (List.range ((n : Int) - ((i : Int) + 1)).toNat).map fun j : Nat => ((i : Int), (i : Int) + 1 + (j : Int))
theorem mem_pairsL {n : Nat} {p : Int × Int} : p ∈ pairsL n ↔ 0 ≤ p.1 ∧ p.1 < p.2 ∧ p.2 < n := by
  unfold pairsL
  rw [List.mem_flatMap]
  constructor
  · rintro ⟨i, hi, hp⟩
    obtain ⟨j, hj, rfl⟩ := List.mem_map.mp hp
    rw [List.mem_range] at hi hj
    dsimp only
    omega
  · rintro ⟨h1, h2, h3⟩
    refine ⟨p.1.toNat, List.mem_range.mpr (by omega), List.mem_map.mpr ⟨(p.2 - p.1 - 1).toNat, List.mem_range.mpr (by omega), ?_⟩⟩
    have e1 : ((p.1.toNat : Nat) : Int) = p.1 := by omega
    rw [e1]
    have e2 : p.1 + 1 + (((p.2 - p.1 - 1).toNat : Nat) : Int) = p.2 := by omega
    rw [e2]
theorem flatMap_len {α β : Type} (f : α → List β) (m : Nat) : ∀ l : List α, (∀ a ∈ l, (f a).length ≤ m) → (l.flatMap f).length ≤ l.length * m
  | [], _ => by simp
  | a :: l, h => by
    rw [List.flatMap_cons, List.length_append, List.length_cons, Nat.add_mul, Nat.one_mul]
    have h1 := h a (List.mem_cons_self ..)
    have h2 := flatMap_len f m l fun b hb => h b (List.mem_cons_of_mem _ hb)
    omega
theorem pairs_len {n i : Nat} (hi : i ≤ n) (hn : n ≤ 60) : ((List.range i).flatMap fun i : Nat => (List.range ((n : Int) - ((i : Int) + 1)).toNat).map fun j : Nat => ((i : Int), (i : Int) + 1 + (j : Int))).length ≤ 3600 := by
  refine Nat.le_trans (flatMap_len _ 60 _ fun a _ => ?_) ?_
  · rw [List.length_map, List.length_range]
    omega
  · rw [List.length_range]
    have := Nat.mul_le_mul (show i ≤ 60 by omega) (Nat.le_refl 60)
    omega
section
variable {P : Program} {w : World} {K : PySem.W.Frag} {mg : Str → Option Value} {base : Heap}
def R_pairs : List D → Hp → Pd → Prop := fun ds _ P => ∃ n : Nat, ds = [.int (n : Int)] ∧ n ≤ 60 ∧ P = is (.lst ((pairsL n).map eP))
theorem ok_pairs (T : Txt mg) (g : GDef K mg "_law_pairs" s__law_pairs ["_law_many"]) : Def P w K mg base 1 "_law_pairs" ["_law_many"] (spD K R_pairs) := by
  refine defD g sc__law_pairs (fun ds H Pd h => ?_) fun cdv A outer s f H vs ds Pd Q E hr r h q => ?_
  · obtain ⟨n, rfl, _⟩ := h
    rfl
  obtain ⟨n, rfl, hn, rfl⟩ := h
  obtain ⟨v1, rfl, r1⟩ := rps1 r
  have e1 := rp_int r1
  subst e1
  refine ⟨_, (pss_cons (ps_set (i := 1) sc__law_pairs.nd rfl (Or.inl rfl) (pe_lst pa_nil))
    (pss_cons (ps_for PassesOwn.never rfl (pi_range1 (by rfl) T.n_range (pa_cons (pv 0) pa_nil)) (pg_name (i := 2) sc__law_pairs.nd rfl (Or.inr rfl))
      (pss_one (ps_expr (pe_bm PySem.F.plainAttrs_list PySem.F.slot_list_extend PySem.F.type_list_extend mt_extend (pv 1) (pa_cons (pe_lc (own := [("_law_other", 3)]) rfl sc__law_pairs.nd (pi_range2 (by rfl) T.n_range (pa_cons (pe_op op_add (pv 2) pe_int) (pa_cons (pv 0) pa_nil))) (blkOk_by (N := N__law_pairs) (sc := defScope s__law_pairs) (by decide +kernel)) (fun _ _ _ _ _ => (pg_name (i := 3) sc__law_pairs.nd rfl (Or.inl rfl))) (fun _ _ _ _ _ => pts_nil) (fun _ _ _ _ _ => (pe_tup (pa_cons (pv 2) (pa_cons (pv 3) pa_nil))))) pa_nil)))))
    (pss_one (ps_ret (pv 1))))), ?_⟩
  refine q_asgF (K := K) (ef_lst (ds := []) ea_nil (by decide) rfl) fun c vs ds H1 nc e1 hc nh rr hd => ?_
  subst hd
  refine q_forR1 (K := K) (n := (n : Int)) (ea_cons (ed_var rfl (.int _)) ea_nil) (by omega) fun H2 e2 => ?_
  refine ⟨fun i σ H' => ∃ y ws, σ = [some (.int (n : Int)), some (.ref c), y, none] ∧ Le H H' ∧ H' c = some (.lst ws) ∧ i ≤ n ∧
    Rps K H' ws (((List.range i).flatMap fun i : Nat => (List.range ((n : Int) - ((i : Int) + 1)).toNat).map fun j : Nat => ((i : Int), (i : Int) + 1 + (j : Int))).map eP), ⟨none, vs, rfl, e1.trans e2, e2.lst hc nh, Nat.zero_le _, rr.le e2⟩, ?_, ?_⟩
  · rintro i σ H' hi ⟨y, ws, rfl, e, hc', _, rr'⟩
    have nh' : NotH ws := (enc_P.un _).notH rr'
    refine s_ext (ds := ((List.range ((n : Int) - ((i : Int) + 1)).toNat).map fun j : Nat => ((i : Int), (i : Int) + 1 + (j : Int))).map eP) hc' nh' (ed_var rfl (.obj _)) (fun H3 e3 => ?_) ?_ ?_
    · refine ed_lcR2 enc_P (fun k => ((i : Int), k)) (ea_cons (ed_I0 (f := fun i j => i + j) (ed_var rfl (.int (i : Int))) ed_int) (ea_cons (ed_var rfl (.int (n : Int))) ea_nil)) (by omega) (fun _ => rfl) fun j H4 e4 hj => ?_
      exact ed_tup (ea_cons (ed_var rfl (.int _)) (ea_cons (ed_var rfl (.int _)) ea_nil)) (by show 2 ≤ 100000; decide)
    · rw [rr'.len, List.length_map, List.length_map, List.length_map, List.length_range]
      have := pairs_len (n := n) (i := i) (by omega) hn
      omega
    · intro ws2 H3 e3 rr2 hc3
      refine ⟨_, ws ++ ws2, rfl, (e.trans e3).mut nc, upd_same, by omega, ?_⟩
      rw [List.range_succ, List.flatMap_append, List.map_append]
      refine ((rr'.le e3).upd hc3 (enc_P.nl _)).app ?_
      rw [List.flatMap_cons, List.flatMap_nil, List.append_nil]
      exact rr2.upd hc3 (enc_P.nl _)
  · rintro σ H' ⟨y, ws, rfl, e, hc', _, rr'⟩
    rw [Int.toNat_natCast] at rr'
    refine s_retD (ed_var rfl (.lst hc' ((enc_P.un _).notH rr') rr')) fun v H3 e3 r3 => ?_
    exact q v _ H3 (e.trans e3) rfl r3
/-! ### parts as data -/
def eW (ms : List Int) (ties : List (Int × Int)) : D := .tup [.tup (ms.map .int), .tup (ties.map eP)]
def rawNear (ties : List (Int × Int)) (r : Int) : List Int := (ties.filter fun p => decide (r ∈ [p.1, p.2])).map fun p => p.1 + p.2 - r
structure Near (ties : List (Int × Int)) (r : Int) (ns : List Int) : Prop where
  perm : ns.Perm (rawNear ties r)
  up : ns.Pairwise (· ≤ ·)
def R_near : List D → Hp → (List D → Prop) → Prop := fun ds _ P => ∃ ms ties r, ds = [eW ms ties, .int r] ∧ ties.length ≤ 3600 ∧ P = fun es => ∃ ns : List Int, es = ns.map .int ∧ Near ties r ns
theorem ok_near (T : Txt mg) (g : GDef K mg "_law_near" s__law_near ["_law_parts_here", "_law_room"]) : Def P w K mg base 1 "_law_near" ["_law_parts_here", "_law_room"] (spF K R_near) := by
  refine defF g sc__law_near (fun ds H Pd h => ?_) fun cdv A outer s f H vs ds Pd Q E hr r h q => ?_
  · obtain ⟨ms, ties, n, rfl, _⟩ := h
    rfl
  obtain ⟨ms, ties, n, rfl, hz, rfl⟩ := h
  obtain ⟨v1, v2, rfl, r1, r2⟩ := rps2 r
  refine ⟨_, (pss_one (ps_ret (pe_callB (kc_sortedI (K := K)) (by rfl) T.n_sorted boot_sorted (pa_cons (pe_lc (own := [("_law_one", 2), ("_law_other", 3)]) rfl sc__law_near.nd (kpi_tup (K := K) (pe_ix (kix_tup (K := K)) (pv 0) pe_int (fun _ _ => rfl))) (blkOk_by (N := N__law_near) (sc := defScope s__law_near) (by decide +kernel)) (fun _ _ _ _ _ => (kpg_tup (K := K) (n := 2) rfl (pgs_cons (pg_name (i := 2) sc__law_near.nd rfl (Or.inl rfl)) (pgs_cons (pg_name (i := 3) sc__law_near.nd rfl (Or.inl rfl)) pgs_nil)))) (fun _ _ _ _ _ => (pts_one (pt_cmpR (kop_in (K := K)) (pv 1) (pe_tup (pa_cons (pv 2) (pa_cons (pv 3) pa_nil))) (by rfl)))) (fun _ _ _ _ _ => (pe_op op_sub (pe_op op_add (pv 2) (pv 3)) (pv 1)))) pa_nil)))), ?_⟩
  refine s_retF (ef_sortedI (PN := fun ns => ns = rawNear ties n) ?_) fun p us es H1 np e1 hp nh rr pl => q p us es H1 np e1 hp nh rr (by
    obtain ⟨ns, ns', rfl, rfl, hp, hs⟩ := pl
    exact ⟨ns', rfl, hp, hs⟩)
  · refine EP.weak (ed_lcT2 enc_int ties (fun p => decide (n ∈ [p.1, p.2])) (fun p => p.1 + p.2 - n) (ed_ixT (ds := [_, _]) (ed_var rfl r1) ed_int (by decide) rfl) (by omega) (fun _ _ => rfl) (fun p H1 e hp => ?_) fun p H1 e hp _ => ?_) fun d H2 _ p => ⟨_, p, rfl⟩
    · exact et_test (ed_inT (ns := [p.1, p.2]) (ed_var rfl (r2.le e)) (ed_tup (ea_cons (ed_var rfl (.int _)) (ea_cons (ed_var rfl (.int _)) ea_nil)) (by show 2 ≤ 100000; decide)))
    · exact ed_I0 (f := fun i j => i - j) (ed_I0 (f := fun i j => i + j) (ed_var rfl (.int _)) (ed_var rfl (.int _))) (ed_var rfl (r2.le e))
def eR (x : Bool × List Int) : D := .tup [.bl x.1, .tup (x.2.map .int)]
theorem enc_R : Enc eR := enc_tup fun a d hd => by
  rcases List.mem_cons.mp hd with rfl | hd
  · exact .bl _
  · rcases List.mem_cons.mp hd with rfl | hd
    · exact .tup (noL_ints _)
    · cases hd
theorem rep_flat {α : Type} (a : α) : ∀ n : Nat, (List.replicate n [a]).flatten = List.replicate n a
  | 0 => rfl
  | n + 1 => by
    rw [List.replicate_succ, List.flatten_cons, rep_flat a n]
    rfl
def R_start : List D → Hp → Pd → Prop := fun ds _ P => ∃ ms ties, ds = [eW ms ties] ∧ ms.length ≤ 60 ∧ P = is (.lst ((List.replicate ms.length (false, [])).map eR))
theorem ok_start (T : Txt mg) (g : GDef K mg "_law_start" s__law_start ["_law_parts_here"]) : Def P w K mg base 1 "_law_start" ["_law_parts_here"] (spD K R_start) := by
  refine defD g sc__law_start (fun ds H Pd h => ?_) fun cdv A outer s f H vs ds Pd Q E hr r h q => ?_
  · obtain ⟨ms, ties, rfl, _⟩ := h
    rfl
  obtain ⟨ms, ties, rfl, hz, rfl⟩ := h
  obtain ⟨v1, rfl, r1⟩ := rps1 r
  refine ⟨_, (pss_one (ps_ret (pe_op op_rep (pe_lst (pa_cons (pe_tup (pa_cons pe_bl (pa_cons (pe_tup pa_nil) pa_nil))) pa_nil)) (pe_callB (kc_len (K := K)) (by rfl) T.n_len boot_len (pa_cons (pe_ix (kix_tup (K := K)) (pv 0) pe_int (fun _ _ => rfl)) pa_nil))))), ?_⟩
  have eq : (List.replicate ((ms.map D.int).length : Int).toNat [eR (false, [])]).flatten = (List.replicate ms.length (false, [])).map eR := by
    rw [rep_flat, Int.toNat_natCast, List.length_map, List.map_replicate]
  refine s_retD (ed_eq (ed_rep (ds := [eR (false, [])]) (k := ((ms.map D.int).length : Int)) ?_ ?_ ?_ (by show 1 ≤ 1000; decide) ?_) (congrArg D.lst eq)) fun v H1 e1 r => q v _ H1 e1 rfl r
  · exact ed_lst (ea_cons (ed_tup (ea_cons ed_bl (ea_cons (ed_tup ea_nil (by decide)) ea_nil)) (by show 2 ≤ 100000; decide)) ea_nil) (by show 1 ≤ 100000; decide) rfl
  · exact ed_lenT (ed_ixT (ds := [_, _]) (ed_var rfl r1) ed_int (by decide) rfl)
  · rw [List.length_map]; omega
  · rw [eq]
    exact enc_R.un _
end
end W1

set_option maxRecDepth 100000
set_option maxHeartbeats 4000000
namespace W1
open PySem PyProof.Rows L2
local macro_rules | `(tactic| walk_at "rp") => `(tactic| first | assumption | exact Rp.int _ | exact Rp.bl _ | exact Rp.str _ | exact Rp.non | exact Rp.obj _ | (refine Rp.le (by assumption) ?_; walk_at "rp"))
local macro_rules | `(tactic| walk_at "ed") => `(tactic| first
  | exact ed_int | exact ed_str | exact ed_bl | exact ed_non
  | (refine ed_var rfl ?_; walk_at "rp")
  | (refine ed_ixT (ds := [_, _]) ?_ ed_int (by decide) rfl; walk_at "ed")
  | (refine ed_I0 ?_ ?_ <;> walk_at "ed")
  | (refine ed_B0 ?_ ?_ <;> walk_at "ed")
  | (refine ed_eqS ?_ ?_ rfl rfl rfl <;> walk_at "ed")
  | assumption)
local macro_rules | `(tactic| walk_at "ea") => `(tactic| first | exact ea_nil | (refine ea_cons ?_ ?_; walk_at "ed"; walk_at "ea"))

abbrev s__law_parts : Stmt := topS 43
abbrev N__law_parts : List Str := ["_law_hand_here", "_law_most", "_law_memory", "_law_many", "_law_kind", "_law_share", "_law_memories", "_law_pairs_here", "_law_ties", "_law_room", "_law_pair"]
theorem sc__law_parts : FnScope N__law_parts ["_law_hand_here", "_law_most", "_law_memory"] (defScope s__law_parts) := ⟨rfl, rfl, rfl, by decide +kernel, rfl, by decide +kernel, by decide +kernel⟩
structure PartsOk (ms : List Int) (ties : List (Int × Int)) : Prop where
  some : 1 ≤ ms.length
  few : ms.length ≤ 60
  mem : ∀ m ∈ ms, 0 ≤ m ∧ m ≤ 30
  sub : ties.Sublist (pairsL ms.length)
theorem PartsOk.len {ms : List Int} {ties : List (Int × Int)} (h : PartsOk ms ties) : ties.length ≤ 3600 := Nat.le_trans h.sub.length_le (pairs_len (n := ms.length) (i := ms.length) (Nat.le_refl _) h.few)
section
variable {P : Program} {w : World} {K : PySem.W.Frag} {mg : Str → Option Value} {base : Heap}
section
variable {σ : L2.St} {H : Hp} {E : XK} {h : Addr} {ta tb : TE} {a : TA}
theorem ep_plus {m k : Int} (hd : EP K tb σ H (fun d _ => ∃ r : Int, d = .int r ∧ 0 ≤ r ∧ r < m)) : EP K (tOp (rI0 fun i j => .int (i + j)) (tC (.int k)) tb) σ H (fun d _ => ∃ r : Int, d = .int r ∧ k ≤ r ∧ r < k + m) :=
  ep_I0 ed_int hd fun d1 d2 H1 H2 _ _ p1 ⟨r, e, h0, h1⟩ => ⟨k, r, p1, e, _, ⟨k + r, rfl, by omega, by omega⟩, .int _⟩
theorem et_eq0 {k : Int} (hd : EP K ta σ H (fun d _ => ∃ r : Int, d = .int r)) : ET (tTest (tOp rEq ta (tC (.int k)))) σ H fun _ => True :=
  et_testp (ep_op hd ed_int fun x y d1 d2 H1 H2 _ _ ⟨r, e⟩ p2 r1 r2 Q q => by
    have p2' : d2 = .int k := p2
    subst e p2'
    rw [rp_int r1, rp_int r2]
    exact ⟨rfl, q _ (.bl _) H2 (Le.refl _) ⟨_, rfl⟩ (.bl _)⟩)
theorem et_cmp {g : Int → Int → Bool} (hd : EP K ta σ H (fun d _ => ∃ r : Int, d = .int r)) (hb : EP K tb σ H (fun d _ => ∃ r : Int, d = .int r)) : ET (tTest (tOp (rI0 fun i j => .bl (g i j)) ta tb)) σ H fun _ => True :=
  et_testp (ep_I0 hd hb fun d1 d2 H1 H2 _ _ ⟨i, e1⟩ ⟨j, e2⟩ => ⟨i, j, e1, e2, .bl (g i j), ⟨_, rfl⟩, .bl _⟩)
theorem EP.anyI {m : Int} (hd : EP K tb σ H (fun d _ => ∃ r : Int, d = .int r ∧ 0 ≤ r ∧ r < m)) : EP K tb σ H (fun d _ => ∃ r : Int, d = .int r) := hd.weak fun d _ _ ⟨r, e, _⟩ => ⟨r, e⟩
end
def R_parts : List D → Hp → Pd → Prop := fun ds H P => ∃ (h : Addr) (most m : Int), ds = [.obj (.ref h), .int most, .int m] ∧ Hand H h ∧ 1 ≤ most ∧ most ≤ 60 ∧ 0 ≤ m ∧ m ≤ 30 ∧
  P = fun d _ => ∃ ms ties, d = eW ms ties ∧ PartsOk ms ties ∧ (ms.length : Int) ≤ most ∧ ∀ z ∈ ms, z ≤ m
theorem ok_parts (T : Txt mg) (g : GDef K mg "_law_parts" s__law_parts ["_law_hand_here", "_law_most", "_law_memory"]) (G_law_draw : Def P w K mg base 1 "_law_draw" ["_law_hand_here", "_law_many"] (spD K R_draw))
    (G_law_pairs : Def P w K mg base 1 "_law_pairs" ["_law_many"] (spD K R_pairs)) : Def P w K mg base 2 "_law_parts" ["_law_hand_here", "_law_most", "_law_memory"] (spD K R_parts) := by
  refine defD g sc__law_parts (fun ds H Pd h => ?_) fun cdv A outer s f H vs ds Pd Q E hr r h q => ?_
  · obtain ⟨h, a, b, rfl, _⟩ := h
    rfl
  obtain ⟨h, most, mm, rfl, hh, m1, m2, mm0, mm1, rfl⟩ := h
  obtain ⟨v1, v2, v3, rfl, r1, r2, r3⟩ := rps3 r
  refine ⟨_, (pss_cons (ps_asg (pe_tup (pa_cons (pe_op op_add pe_int (pe_def G_law_draw (hr.mono (by decide)) (pa_cons (pv 0) (pa_cons (pv 1) pa_nil)))) (pa_cons (pe_def G_law_draw (hr.mono (by decide)) (pa_cons (pv 0) (pa_cons pe_int pa_nil))) (pa_cons (pe_op op_add pe_int (pe_def G_law_draw (hr.mono (by decide)) (pa_cons (pv 0) (pa_cons pe_int pa_nil)))) pa_nil)))) (kpg_tup (K := K) (n := 3) rfl (pgs_cons (pg_name (i := 3) sc__law_parts.nd rfl (Or.inr rfl)) (pgs_cons (pg_name (i := 4) sc__law_parts.nd rfl (Or.inl rfl)) (pgs_cons (pg_name (i := 5) sc__law_parts.nd rfl (Or.inr rfl)) pgs_nil)))))
    (pss_cons (ps_setLc (i := 6) (own := [("_law_room", 9)]) rfl sc__law_parts.nd rfl rfl (sw_true rfl rfl rfl (by decide +kernel)) (pi_range1 (by rfl) T.n_range (pa_cons (pv 3) pa_nil)) (blkOk_by (N := N__law_parts) (sc := defScope s__law_parts) (by decide +kernel)) (fun _ _ _ _ _ => (pg_name (i := 9) sc__law_parts.nd rfl (Or.inl rfl))) (fun _ _ _ _ _ => pts_nil) (fun _ _ _ _ _ => (pe_def G_law_draw (hr.mono (by decide)) (pa_cons (pv 0) (pa_cons (pe_op op_add (pv 2) pe_int) pa_nil)))))
    (Evl.pss_cut (ps_if (pt_cmpR op_eq (pe_def G_law_draw (hr.mono (by decide)) (pa_cons (pv 0) (pa_cons pe_int pa_nil))) pe_int (nomark _))
      (pss_one (ps_set (i := 6) sc__law_parts.nd rfl (Or.inl rfl) (pe_op op_rep (pe_lst (pa_cons (pe_ix (kix_list (K := K)) (pv 6) pe_int (fun _ _ => rfl)) pa_nil)) (pv 3))))
      pss_nil)
    (pss_cons (ps_set (i := 7) sc__law_parts.nd rfl (Or.inl rfl) (pe_def G_law_pairs (hr.mono (by decide)) (pa_cons (pv 3) pa_nil)))
    (Evl.pss_cut (ps_if (pt_cmpR op_eq (pv 4) pe_int (nomark _))
      (pss_one (ps_setLc (i := 8) (own := [("_law_pair", 10)]) rfl sc__law_parts.nd rfl rfl (sw_true rfl rfl rfl (by decide +kernel)) (kpi_list (K := K) (pv 7)) (blkOk_by (N := N__law_parts) (sc := defScope s__law_parts) (by decide +kernel)) (fun _ _ _ _ _ => (pg_name (i := 10) sc__law_parts.nd rfl (Or.inl rfl))) (fun _ _ _ _ _ => (pts_one (pt_cmpR (kop_in (K := K)) (pe_op op_sub (pe_ix (kix_tup (K := K)) (pv 10) pe_int (fun _ _ => rfl)) (pe_ix (kix_tup (K := K)) (pv 10) pe_int (fun _ _ => rfl))) (pe_tup (pa_cons pe_int (pa_cons (pe_op op_sub (pv 3) pe_int) pa_nil))) (by rfl)))) (fun _ _ _ _ _ => (pv 10))))
      (pss_one (ps_if (pt_cmpR op_eq (pv 4) pe_int (nomark _))
      (pss_one (ps_setLc (i := 8) (own := [("_law_pair", 10)]) rfl sc__law_parts.nd rfl rfl (sw_true rfl rfl rfl (by decide +kernel)) (kpi_list (K := K) (pv 7)) (blkOk_by (N := N__law_parts) (sc := defScope s__law_parts) (by decide +kernel)) (fun _ _ _ _ _ => (pg_name (i := 10) sc__law_parts.nd rfl (Or.inl rfl))) (fun _ _ _ _ _ => (pts_one (pt_cmpR op_eq (pe_op op_sub (pe_ix (kix_tup (K := K)) (pv 10) pe_int (fun _ _ => rfl)) (pe_ix (kix_tup (K := K)) (pv 10) pe_int (fun _ _ => rfl))) pe_int (nomark _)))) (fun _ _ _ _ _ => (pv 10))))
      (pss_one (ps_if (pt_cmpR op_eq (pv 4) pe_int (nomark _))
      (pss_one (ps_setLc (i := 8) (own := [("_law_pair", 10)]) rfl sc__law_parts.nd rfl rfl (sw_true rfl rfl rfl (by decide +kernel)) (kpi_list (K := K) (pv 7)) (blkOk_by (N := N__law_parts) (sc := defScope s__law_parts) (by decide +kernel)) (fun _ _ _ _ _ => (pg_name (i := 10) sc__law_parts.nd rfl (Or.inl rfl))) (fun _ _ _ _ _ => (pts_one (PW.pt (pw_and (pt_cmpR op_eq (pe_op op_mod (pe_callTy call_int1 (by rfl) T.n_int boot_int (pa_cons (pe_op op_add (pe_ix (kix_tup (K := K)) (pv 10) pe_int (fun _ _ => rfl)) (pe_ix (kix_tup (K := K)) (pv 10) pe_int (fun _ _ => rfl))) pa_nil)) pe_int) pe_int (nomark _)) (pw_and1 (pt_cmpR op_lt (pe_def G_law_draw (hr.mono (by decide)) (pa_cons (pv 0) (pa_cons pe_int pa_nil))) (pv 5) (nomark _))))))) (fun _ _ _ _ _ => (pv 10))))
      (pss_one (ps_if (pt_cmpR op_eq (pv 4) pe_int (nomark _))
      (pss_one (ps_setLc (i := 8) (own := [("_law_pair", 10)]) rfl sc__law_parts.nd rfl rfl (sw_true rfl rfl rfl (by decide +kernel)) (kpi_list (K := K) (pv 7)) (blkOk_by (N := N__law_parts) (sc := defScope s__law_parts) (by decide +kernel)) (fun _ _ _ _ _ => (pg_name (i := 10) sc__law_parts.nd rfl (Or.inl rfl))) (fun _ _ _ _ _ => (pts_one (pt_cmpR op_eq (pe_ix (kix_tup (K := K)) (pv 10) pe_int (fun _ _ => rfl)) pe_int (nomark _)))) (fun _ _ _ _ _ => (pv 10))))
      (pss_one (ps_setLc (i := 8) (own := [("_law_pair", 10)]) rfl sc__law_parts.nd rfl rfl (sw_true rfl rfl rfl (by decide +kernel)) (kpi_list (K := K) (pv 7)) (blkOk_by (N := N__law_parts) (sc := defScope s__law_parts) (by decide +kernel)) (fun _ _ _ _ _ => (pg_name (i := 10) sc__law_parts.nd rfl (Or.inl rfl))) (fun _ _ _ _ _ => (pts_one (pt_cmpR op_lt (pe_def G_law_draw (hr.mono (by decide)) (pa_cons (pv 0) (pa_cons pe_int pa_nil))) (pv 5) (nomark _)))) (fun _ _ _ _ _ => (pv 10)))))))))))
    (pss_one (ps_ret (pe_tup (pa_cons (pe_callTy (kc_tuple (K := K)) (by rfl) T.n_tuple boot_tuple (pa_cons (pv 6) pa_nil)) (pa_cons (pe_callTy (kc_tuple (K := K)) (by rfl) T.n_tuple boot_tuple (pa_cons (pv 8) pa_nil)) pa_nil)))))))))), ?_⟩
  -- many, kind, share
  refine q_tup3 (K := K) (ep_cons (ep_plus (ep_draw hh (ea_cons (ed_var rfl r1) (ea_cons (ed_var rfl r2) ea_nil)) (by omega)))
    (ep_cons (ep_draw hh (ea_cons (ed_var rfl r1) (ea_cons ed_int ea_nil)) (by omega)) (ep_cons (ep_plus (ep_draw hh (ea_cons (ed_var rfl r1) (ea_cons ed_int ea_nil)) (by omega))) ea_nil))) ?_ ?_
  · rintro ds H1 ⟨d, r, H2, rfl, _, _, d2, r2, H3, rfl, _, _, d3, r3, H4, rfl, _, _, rfl⟩
    rfl
  rintro w1 w2 w3 d1 d2 d3 H1 e1 ⟨d, r, H2, er, _, ⟨many, em, n1, n2⟩, d', r', H3, er2, _, ⟨kind, ek, _, _⟩, d'', r'', H4, er3, _, ⟨share, es, _, _⟩, er4⟩ q1 q2 q3 H5 e5
  injection er with ea eb
  subst eb
  injection er2 with ea2 eb
  subst eb
  injection er3 with ea3 eb
  subst er4 ea ea2 ea3 em ek es
  have ew1 := rp_int q1
  have ew2 := rp_int q2
  have ew3 := rp_int q3
  subst ew1 ew2 ew3
  have e0 := e1.trans e5
  obtain ⟨n, rfl⟩ : ∃ n : Nat, many = (n : Int) := ⟨many.toNat, by omega⟩
  have hh1 := hh.le e0
  have hv1 : v1 = .ref h := rp_obj r1
  have hv3 : v3 = .int mm := rp_int r3
  subst hv1 hv3
  -- memories
  refine q_asg (K := K) (ep_lcR enc_int (n := n) (fun z => 0 ≤ z ∧ z ≤ mm) (ea_cons (ed_var rfl (.int _)) ea_nil) (by omega) (fun _ => rfl) fun i H6 e6 hi => ?_) ?_
  · refine (ep_draw (hh1.le e6) (ea_cons (ed_var rfl (.obj _)) (ea_cons (ed_I0 (f := fun i j => i + j) (ed_var rfl (.int mm)) ed_int) ea_nil)) (by omega)).weak fun d H7 _ p => ?_
    obtain ⟨r, rfl, h0, h1⟩ := p
    exact ⟨r, rfl, h0, by omega⟩
  rintro v6 d6 H6 e6 ⟨zs, rfl, hzl, hz⟩ r6
  -- all of one memory, perhaps
  refine q_cut (M := fun σ H' => ∃ v6 zs, σ = [some (.ref h), some v2, some (.int mm), some (.int (n : Int)), some (.int kind), some (.int share), some v6, none, none, none, none] ∧ Le H6 H' ∧ Rp K H' v6 (.lst (List.map D.int zs)) ∧ zs.length = n ∧ ∀ z ∈ zs, 0 ≤ z ∧ z ≤ mm) ?_ ?_
  · refine s_if (et_eq0 (K := K) (EP.anyI (ep_draw (hh1.le e6) (ea_cons (ed_var rfl (.obj _)) (ea_cons ed_int ea_nil)) (by omega)))) (fun _ H7 e7 => ?_) (fun _ H7 e7 => ?_)
    · obtain ⟨z, zs, rfl⟩ : ∃ z r, zs = z :: r := by
        cases zs with
        | nil =>
          rw [List.length_nil] at hzl
          omega
        | cons z r => exact ⟨z, r, rfl⟩
      have eq : (List.replicate ((n : Int)).toNat [D.int z]).flatten = (List.replicate n z).map D.int := by
        rw [rep_flat, Int.toNat_natCast, List.map_replicate]
      refine s_asgD (ed_eq (ed_rep (ds := [.int z]) (k := (n : Int)) (ed_lst (ea_cons (ed_ixL (ed_var rfl (r6.le e7)) ed_int (by decide) rfl) ea_nil) (by show 1 ≤ 100000; decide) rfl) (ed_var rfl (.int _)) (by omega) (by show 1 ≤ 1000; decide) (by rw [eq]; exact enc_int.un _)) (congrArg D.lst eq)) fun v H8 e8 r8 => ?_
      refine ⟨v, List.replicate n z, rfl, e7.trans e8, r8, List.length_replicate, fun y hy => ?_⟩
      rw [List.eq_of_mem_replicate hy]
      exact hz z (List.mem_cons_self ..)
    · exact ⟨v6, zs, rfl, e7, r6.le e7, hzl, hz⟩
  clear r6 hz hzl zs v6
  rintro σ H7 ⟨v6, zs, rfl, e7, r6, hzl, hz⟩
  have e07 := (e0.trans e6).trans e7
  -- the pairs
  refine q_asgD (K := K) (ed_call (P := is (.lst ((pairsL n).map eP))) (ea_cons (ed_var rfl (.int (n : Int))) ea_nil) fun H8 _ => ⟨n, rfl, by omega, rfl⟩) fun v7 H8 e8 r7 => ?_
  have pl : (pairsL n).length ≤ 50000 := Nat.le_trans (pairs_len (n := n) (i := n) (Nat.le_refl _) (by omega)) (by decide)
  have hh8 := hh.le (e07.trans e8)
  -- the ties
  refine q_cut (M := fun σ H' => ∃ v8 ties, σ = [some (.ref h), some v2, some (.int mm), some (.int (n : Int)), some (.int kind), some (.int share), some v6, some v7, some v8, none, none] ∧ Le H8 H' ∧ Rp K H' v8 (.lst (List.map eP ties)) ∧ ties.Sublist (pairsL n)) ?_ ?_
  · have fin : ∀ {σ : L2.St} {H9 : Hp} {te : TE} {D1 : Ends}, σ = [some (.ref h), some v2, some (.int mm), some (.int (n : Int)), some (.int kind), some (.int share), some v6, some v7, none, none, none] → Le H8 H9 →
        (D1.nx = fun σ H' => ∃ v8 ties, σ = [some (.ref h), some v2, some (.int mm), some (.int (n : Int)), some (.int kind), some (.int share), some v6, some v7, some v8, none, none] ∧ Le H8 H' ∧ Rp K H' v8 (.lst (List.map eP ties)) ∧ ties.Sublist (pairsL n)) →
        EP K te σ H9 (fun d _ => ∃ zs, d = .lst (List.map eP zs) ∧ zs.Sublist (pairsL n)) → tAsg te (gName 8) D1 σ H9 := by
      intro σ H9 te D1 es e9 en hp
      refine s_asg hp fun v d H10 e10 p r => ?_
      obtain ⟨zs, rfl, hs⟩ := p
      rw [en, es]
      exact ⟨v, zs, rfl, e9.trans e10, r, hs⟩
    have prs : ∀ {H9 : Hp} {σ : L2.St}, Le H8 H9 → σ[7]? = some (some v7) → ED K (tVar 7) σ H9 (.lst (List.map eP (pairsL n))) := fun e9 hs => ed_var hs (r7.le e9)
    have comp : ∀ {H9 : Hp} {σ : L2.St} {tt : TT}, Le H8 H9 → σ[7]? = some (some v7) → (∀ x, wipe ((wipe σ [10]).set 10 (some x)) [10] = wipe σ [10]) → ((wipe σ [10]).length = 11) →
        (∀ b v H1, Le H9 H1 → Rp K H1 v (eP b) → ET tt ((wipe σ [10]).set 10 (some v)) H1 fun _ => True) → EP K (tLc (iList K (tVar 7)) (gName 10) tt (tVar 10) [10]) σ H9 (fun d _ => ∃ zs, d = .lst (List.map eP zs) ∧ zs.Sublist (pairsL n)) := by
      intro H9 σ tt e9 h7 hw hlen ht
      refine ep_lcSub enc_P (pairsL n) (fun _ => True) (prs e9 h7) pl hw (fun b v H1 e hb r => et_weak (ht b v H1 e r) fun _ _ _ => trivial) fun b v H1 e hb r => ed_var ?_ r
      rw [List.getElem?_set_self (by omega)]
    have dif : ∀ {H1 : Hp} {σ : L2.St} {v : V} {b : Int × Int}, σ[10]? = some (some v) → Rp K H1 v (eP b) → ED K (tOp (rI0 fun i j => .int (i - j)) (tOp (rIxT K) (tVar 10) (tC (.int 1))) (tOp (rIxT K) (tVar 10) (tC (.int 0)))) σ H1 (.int (b.2 - b.1)) := fun hs r =>
      ed_I0 (f := fun i j => i - j) (ed_ixT (ds := [_, _]) (ed_var hs r) ed_int (by decide) rfl) (ed_ixT (ds := [_, _]) (ed_var hs r) ed_int (by decide) rfl)
    refine s_if (et_eq0 (K := K) (EP.weak (ed_var rfl (.int kind)) fun d _ _ p => ⟨_, p⟩)) (fun _ H9 e9 => ?_) (fun _ H9 e9 => ?_)
    · refine fin rfl e9 rfl (comp e9 rfl (fun _ => rfl) rfl fun b v H1 e r => et_weak (et_test (ed_inT (ns := [1, (n : Int) - 1]) (dif rfl r) (ed_tup (ea_cons ed_int (ea_cons (ed_I0 (f := fun i j => i - j) (ed_var rfl (.int _)) ed_int) ea_nil)) (by show 2 ≤ 100000; decide)))) fun _ _ => trivial)
    refine s_if (et_eq0 (K := K) (EP.weak (ed_var rfl (.int kind)) fun d _ _ p => ⟨_, p⟩)) (fun _ H10 e10 => ?_) (fun _ H10 e10 => ?_)
    · refine fin rfl (e9.trans e10) rfl (comp (e9.trans e10) rfl (fun _ => rfl) rfl fun b v H1 e r => et_weak (et_test (ed_eqS (dif rfl r) ed_int rfl rfl rfl)) fun _ _ => trivial)
    refine s_if (et_eq0 (K := K) (EP.weak (ed_var rfl (.int kind)) fun d _ _ p => ⟨_, p⟩)) (fun _ H11 e11 => ?_) (fun _ H11 e11 => ?_)
    · refine fin rfl ((e9.trans e10).trans e11) rfl (comp ((e9.trans e10).trans e11) rfl (fun _ => rfl) rfl fun b v H1 e r => ?_)
      refine et_weak (et_and (et_test (ed_eqS (ed_I (f := fun i j => i % j) (ed_int1 (ed_I0 (f := fun i j => i + j) (ed_ixT (ds := [_, _]) (ed_var rfl r) ed_int (by decide) rfl) (ed_ixT (ds := [_, _]) (ed_var rfl r) ed_int (by decide) rfl))) ed_int (by show (0 : Int) < 2; decide)) ed_int rfl rfl rfl)) fun _ => et_cmp (K := K) (EP.anyI (ep_draw (((hh8.le e9).le (e10.trans e11)).le e) (ea_cons (ed_var rfl (.obj _)) (ea_cons ed_int ea_nil)) (by omega))) (EP.weak (ed_var rfl (.int share)) fun d _ _ p => ⟨_, p⟩)) fun _ _ => trivial
    refine s_if (et_eq0 (K := K) (EP.weak (ed_var rfl (.int kind)) fun d _ _ p => ⟨_, p⟩)) (fun _ H12 e12 => ?_) (fun _ H12 e12 => ?_)
    · refine fin rfl (((e9.trans e10).trans e11).trans e12) rfl (comp (((e9.trans e10).trans e11).trans e12) rfl (fun _ => rfl) rfl fun b v H1 e r => et_weak (et_test (ed_eqS (ed_ixT (ds := [_, _]) (ed_var rfl r) ed_int (by decide) rfl) ed_int rfl rfl rfl)) fun _ _ => trivial)
    · refine fin rfl (((e9.trans e10).trans e11).trans e12) rfl (comp (((e9.trans e10).trans e11).trans e12) rfl (fun _ => rfl) rfl fun b v H1 e r => ?_)
      exact et_cmp (K := K) (EP.anyI (ep_draw ((((hh8.le e9).le (e10.trans e11)).le e12).le e) (ea_cons (ed_var rfl (.obj _)) (ea_cons ed_int ea_nil)) (by omega))) (EP.weak (ed_var rfl (.int share)) fun d _ _ p => ⟨_, p⟩)
  rintro σ H9 ⟨v8, ties, rfl, e9, r8, hs⟩
  refine s_retD (ed_tup (ea_cons (ed_tupOf (ed_var rfl (r6.le (e8.trans e9)))) (ea_cons (ed_tupOf (ed_var rfl r8)) ea_nil)) (by show 2 ≤ 100000; decide)) fun v H10 e10 r => ?_
  refine q v _ H10 (((e07.trans e8).trans e9).trans e10) ⟨zs, ties, rfl, ⟨by omega, by omega, fun z hz2 => ?_, by rw [hzl]; exact hs⟩, by omega, fun z hz2 => (hz z hz2).2⟩ r
  have := hz z hz2
  omega
end
end W1

set_option maxRecDepth 100000
set_option maxHeartbeats 4000000
namespace W1
open PySem PyProof.Rows L2
local macro_rules | `(tactic| walk_at "rp") => `(tactic| first | assumption | exact Rp.int _ | exact Rp.bl _ | exact Rp.str _ | exact Rp.non | exact Rp.obj _ | (refine Rp.le (by assumption) ?_; walk_at "rp"))
local macro_rules | `(tactic| walk_at "ed") => `(tactic| first
  | exact ed_int | exact ed_str | exact ed_bl | exact ed_non
  | (refine ed_var rfl ?_; walk_at "rp")
  | (refine ed_ixT (ds := [_, _]) ?_ ed_int (by decide) rfl; walk_at "ed")
  | (refine ed_I0 ?_ ?_ <;> walk_at "ed")
  | (refine ed_B0 ?_ ?_ <;> walk_at "ed")
  | (refine ed_eqS ?_ ?_ rfl rfl rfl <;> walk_at "ed")
  | assumption)
local macro_rules | `(tactic| walk_at "ea") => `(tactic| first | exact ea_nil | (refine ea_cons ?_ ?_; walk_at "ed"; walk_at "ea"))

abbrev s__law_done : Stmt := topS 47
abbrev N__law_done : List Str := ["_law_state", "_law_deed", "_law_held", "_law_tags", "_law_later"]
theorem sc__law_done : FnScope N__law_done ["_law_state", "_law_deed"] (defScope s__law_done) := ⟨rfl, rfl, rfl, by decide +kernel, rfl, by decide +kernel, by decide +kernel⟩
abbrev s__law_asks : Stmt := topS 50
abbrev N__law_asks : List Str := ["_law_state", "_law_backs", "_law_room"]
theorem sc__law_asks : FnScope N__law_asks ["_law_state"] (defScope s__law_asks) := ⟨rfl, rfl, rfl, by decide +kernel, rfl, by decide +kernel, by decide +kernel⟩
/-! ### states, deeds -/
inductive Deed where
  | give (r t : Int)
  | back (r : Int)
def Deed.room : Deed → Int
  | .give r _ => r
  | .back r => r
def eD : Deed → D
  | .give r t => .tup [.str "give", .int r, .int t]
  | .back r => .tup [.str "back", .int r]
theorem enc_D : Enc eD := by
  refine ⟨.inr fun a => ⟨fun i e => ?_, fun v e => ?_⟩, fun a => ?_⟩
  · cases a <;> cases e
  · cases a <;> cases e
  · cases a with
    | give r t =>
      refine .tup fun d hd => ?_
      rcases List.mem_cons.mp hd with rfl | hd
      · exact .str _
      · rcases List.mem_cons.mp hd with rfl | hd
        · exact .int _
        · rcases List.mem_cons.mp hd with rfl | hd
          · exact .int _
          · cases hd
    | back r =>
      refine .tup fun d hd => ?_
      rcases List.mem_cons.mp hd with rfl | hd
      · exact .str _
      · rcases List.mem_cons.mp hd with rfl | hd
        · exact .int _
        · cases hd
abbrev St1 := List (Bool × List Int)
abbrev eS (st : St1) : D := .lst (st.map eR)
def stAt (st : St1) (r : Int) : Bool × List Int := (st[r.toNat]?).getD (false, [])
def doneL (st : St1) : Deed → St1
  | .give r t => st.set r.toNat (true, t :: (stAt st r).2)
  | .back r => st.set r.toNat (false, (stAt st r).2)
structure StOk (st : St1) : Prop where
  few : st.length ≤ 60
  shown : ∀ x ∈ st, x.1 = true → x.2 ≠ []
  tags : ∀ x ∈ st, x.2.length ≤ 5000
theorem st_get {st : St1} {r : Int} (h0 : 0 ≤ r) (h1 : r < st.length) : st[r.toNat]? = some (stAt st r) := by
  unfold stAt
  rw [List.getElem?_eq_getElem (by omega)]
  rfl
theorem st_mem {st : St1} {r : Int} (h0 : 0 ≤ r) (h1 : r < st.length) : stAt st r ∈ st := List.mem_of_getElem? (st_get h0 h1)
theorem map_get {α : Type} {f : α → D} {xs : List α} {i : Nat} {a : α} (h : xs[i]? = some a) : (xs.map f)[i]? = some (f a) := by
  rw [List.getElem?_map, h]
  rfl
theorem doneL_len (st : St1) (dd : Deed) : (doneL st dd).length = st.length := by
  cases dd <;> simp [doneL]
section
variable {P : Program} {w : World} {K : PySem.W.Frag} {mg : Str → Option Value} {base : Heap}
def R_done : List D → Hp → (List D → Prop) → Prop := fun ds _ P => ∃ st dd, ds = [eS st, eD dd] ∧ StOk st ∧ 0 ≤ dd.room ∧ dd.room < st.length ∧ P = fun es => es = (doneL st dd).map eR
theorem ok_done (T : Txt mg) (g : GDef K mg "_law_done" s__law_done ["_law_state", "_law_deed"]) : Def P w K mg base 1 "_law_done" ["_law_state", "_law_deed"] (spF K R_done) := by
  refine defF g sc__law_done (fun ds H Pd h => ?_) fun cdv A outer s f H vs ds Pd Q E hr r h q => ?_
  · obtain ⟨st, dd, rfl, _⟩ := h
    rfl
  obtain ⟨st, dd, rfl, ok, h0, h1, rfl⟩ := h
  obtain ⟨v1, v2, rfl, r1, r2⟩ := rps2 r
  refine ⟨_, (pss_cons (ps_asg (pe_ix (kix_list (K := K)) (pv 0) (pe_ix (kix_tup (K := K)) (pv 1) pe_int (fun _ _ => rfl)) (fun _ _ => rfl)) (kpg_tup (K := K) (n := 2) rfl (pgs_cons (pg_name (i := 2) sc__law_done.nd rfl (Or.inl rfl)) (pgs_cons (pg_name (i := 3) sc__law_done.nd rfl (Or.inl rfl)) pgs_nil))))
    (pss_cons (ps_set (i := 4) sc__law_done.nd rfl (Or.inl rfl) (pe_callTy (kc_list (K := K)) (by rfl) T.n_list boot_list (pa_cons (pv 0) pa_nil)))
    (pss_cons (ps_asg (pe_ifExp (pt_cmpR op_eq (pe_ix (kix_tup (K := K)) (pv 1) pe_int (fun _ _ => rfl)) pe_str (nomark _)) (pe_tup (pa_cons pe_bl (pa_cons (pe_op (kop_catA (K := K)) (pe_tup (pa_cons (pe_ix (kix_tup (K := K)) (pv 1) pe_int (fun _ _ => rfl)) pa_nil)) (pv 3)) pa_nil))) (pe_tup (pa_cons pe_bl (pa_cons (pv 3) pa_nil)))) (pg_sub (pv 4) (pe_ix (kix_tup (K := K)) (pv 1) pe_int (fun _ _ => rfl)) set_list))
    (pss_one (ps_ret (pv 4)))))), ?_⟩
  have hroom : ∀ {H1 : Hp} {σ : L2.St}, Le H H1 → σ[1]? = some (some v2) → ED K (tOp (rIxT K) (tVar 1) (tC (.int 1))) σ H1 (.int dd.room) := by
    intro H1 σ e hs
    cases dd with
    | give r t => exact ed_ixT (ds := [_, _, _]) (ed_var hs (r2.le e)) ed_int (by decide) rfl
    | back r => exact ed_ixT (ds := [_, _]) (ed_var hs (r2.le e)) ed_int (by decide) rfl
  have hg := st_get h0 h1
  -- held, tags = state[deed[1]]
  refine q_tup2 (d1 := .bl (stAt st dd.room).1) (d2 := .tup ((stAt st dd.room).2.map .int)) (ed_ixL (ed_var rfl r1) (hroom (Le.refl _) rfl) h0 (map_get hg)) fun v3 v4 H1 e1 r3 r4 => ?_
  -- later = list(state)
  refine q_asgF (K := K) (ef_lstOfL (ds := st.map eR) (ed_var rfl (r1.le e1))) fun c us ds H2 nc e2 hc nh rr hd => ?_
  subst hd
  have r4' := r4.le e2
  refine q_set (K := K) (ds := st.map eR) (i := dd.room) (P := fun d _ => ∃ x, d = eR x ∧ doneL st dd = st.set dd.room.toNat x) hc nh rr.len ?_ (fun H3 e3 => ed_var rfl (.obj _)) (fun H3 e3 => hroom ((e1.trans e2).trans e3) rfl) h0 (by rw [List.length_map]; exact h1) fun y d H3 H4 e3 p e4 ry hc4 => ?_
  · cases dd with
    | give rm t =>
      refine ep_if (b := true) (eb_eq (et_test (K := K) (ed_eqS (d1 := .str "give") (d2 := .str "give") ?_ ed_str rfl rfl rfl)) (by decide +kernel)) (fun _ => ?_) (fun hb => nomatch hb)
      · exact ed_ixT (ds := [_, _, _]) (ed_var rfl (r2.le (e1.trans e2))) ed_int (by decide) rfl
      refine EP.weak (ed_tup (ea_cons ed_bl (ea_cons (ed_catA (ds := [.int t]) (ed_tup (ea_cons (ed_ixT (ds := [_, _, _]) (ed_var rfl (r2.le (e1.trans e2))) ed_int (by decide) rfl) ea_nil) (by show 1 ≤ 100000; decide)) (ed_var rfl r4') ?_) ea_nil)) (by show 2 ≤ 100000; decide)) fun d H5 _ p => ⟨(true, t :: (stAt st rm).2), p, rfl⟩
      have := ok.tags _ (st_mem h0 h1)
      rw [List.length_map]
      show 1 + _ ≤ 100000
      have e5 : (Deed.give rm t).room = rm := rfl
      rw [e5] at this ⊢
      omega
    | back rm =>
      refine ep_if (b := false) (eb_eq (et_test (K := K) (ed_eqS (d1 := .str "back") (d2 := .str "give") ?_ ed_str rfl rfl rfl)) (by decide +kernel)) (fun hb => nomatch hb) (fun _ => ?_)
      · exact ed_ixT (ds := [_, _]) (ed_var rfl (r2.le (e1.trans e2))) ed_int (by decide) rfl
      exact EP.weak (ed_tup (ea_cons ed_bl (ea_cons (ed_var rfl r4') ea_nil)) (by show 2 ≤ 100000; decide)) fun d H5 _ p => ⟨(false, (stAt st rm).2), p, rfl⟩
  · obtain ⟨x, rfl, hx⟩ := p
    have rs : Rps K (upd H4 c (.lst (us.set dd.room.toNat y))) (us.set dd.room.toNat y) ((doneL st dd).map eR) := by
      rw [hx, List.map_set]
      exact Rps.set _ ((rr.le (e3.trans e4)).upd hc4 (enc_R.nl _)) (ry.upd hc4 (enc_R.noL _))
    exact ⟨_, rfl, q c _ _ _ (e1.fresh nc) (((e1.trans e2).trans (e3.trans e4)).mut (e1.fresh nc)) upd_same ((enc_R.un _).notH rs) rs rfl⟩
/-! ### _law_asks -/
def eA (a : Bool × Nat) : D := .tup [.str (if a.1 then "back" else "give"), .int (a.2 : Int)]
theorem enc_A : Enc eA := enc_tup fun a d hd => by
  rcases List.mem_cons.mp hd with rfl | hd
  · exact .str _
  · rcases List.mem_cons.mp hd with rfl | hd
    · exact .int _
    · cases hd
def heldN (st : St1) (i : Nat) : Bool := ((st[i]?).getD (false, [])).1
def asksL (st : St1) : List (Bool × Nat) := (((List.range st.length).filter fun i => heldN st i).map fun i => (true, i)) ++ (((List.range st.length).filter fun i => !heldN st i).map fun i => (false, i))
def R_asks : List D → Hp → Pd → Prop := fun ds _ P => ∃ st, ds = [eS st] ∧ st.length ≤ 60 ∧ P = is (.lst ((asksL st).map eA))
theorem ok_asks (T : Txt mg) (g : GDef K mg "_law_asks" s__law_asks ["_law_state"]) : Def P w K mg base 1 "_law_asks" ["_law_state"] (spD K R_asks) := by
  refine defD g sc__law_asks (fun ds H Pd h => ?_) fun cdv A outer s f H vs ds Pd Q E hr r h q => ?_
  · obtain ⟨st, rfl, _⟩ := h
    rfl
  obtain ⟨st, rfl, hz, rfl⟩ := h
  obtain ⟨v1, rfl, r1⟩ := rps1 r
  refine ⟨_, (pss_cons (ps_setLc (i := 1) (own := [("_law_room", 2)]) rfl sc__law_asks.nd rfl rfl (sw_true rfl rfl rfl (by decide +kernel)) (pi_range1 (by rfl) T.n_range (pa_cons (pe_callB (kc_len (K := K)) (by rfl) T.n_len boot_len (pa_cons (pv 0) pa_nil)) pa_nil)) (blkOk_by (N := N__law_asks) (sc := defScope s__law_asks) (by decide +kernel)) (fun _ _ _ _ _ => (pg_name (i := 2) sc__law_asks.nd rfl (Or.inl rfl))) (fun _ _ _ _ _ => (pts_one (pt_val (pe_ix (kix_tup (K := K)) (pe_ix (kix_list (K := K)) (pv 0) (pv 2) (fun _ _ => rfl)) pe_int (fun _ _ => rfl))))) (fun _ _ _ _ _ => (pe_tup (pa_cons pe_str (pa_cons (pv 2) pa_nil)))))
    (pss_one (ps_ret (pe_op op_cat (pv 1) (pe_lc (own := [("_law_room", 2)]) rfl sc__law_asks.nd (pi_range1 (by rfl) T.n_range (pa_cons (pe_callB (kc_len (K := K)) (by rfl) T.n_len boot_len (pa_cons (pv 0) pa_nil)) pa_nil)) (blkOk_by (N := N__law_asks) (sc := defScope s__law_asks) (by decide +kernel)) (fun _ _ _ _ _ => (pg_name (i := 2) sc__law_asks.nd rfl (Or.inl rfl))) (fun _ _ _ _ _ => (pts_one (pt_not (pt_val (pe_ix (kix_tup (K := K)) (pe_ix (kix_list (K := K)) (pv 0) (pv 2) (fun _ _ => rfl)) pe_int (fun _ _ => rfl)))))) (fun _ _ _ _ _ => (pe_tup (pa_cons pe_str (pa_cons (pv 2) pa_nil))))))))), ?_⟩
  have hheld : ∀ {H1 : Hp} {σ : L2.St} {j : Nat} (i : Nat), Le H H1 → σ[0]? = some (some v1) → σ[j]? = some (some (.int (i : Int))) → i < st.length → ED K (tOp (rIxT K) (tOp (rIxL K) (tVar 0) (tVar j)) (tC (.int 0))) σ H1 (.bl (heldN st i)) := by
    intro H1 σ j i e h0 hj hi
    have hg : st[i]? = some ((st[i]?).getD (false, [])) := by
      rw [List.getElem?_eq_getElem hi]
      rfl
    refine ed_ixT (ds := [_, _]) (ed_ixL (ed_var h0 (r1.le e)) (ed_var hj (.int _)) (by omega) (d := eR ((st[i]?).getD (false, []))) ?_) ed_int (by decide) rfl
    rw [Int.toNat_natCast]
    exact map_get hg
  have hlen : ∀ {H1 : Hp} {σ : L2.St}, Le H H1 → σ[0]? = some (some v1) → EDA K (tCons (tCB (fun xs H Q => ∃ p ys, xs = [.ref p] ∧ (SqL K H p ys ∨ SqT K H p ys) ∧ Q (.int ys.length) H) (tCons (tVar 0) tNil)) tNil) σ H1 [.int (st.length : Int)] := by
    intro H1 σ e h0
    refine ea_cons (ed_eq (ed_lenL (ed_var h0 (r1.le e))) ?_) ea_nil
    rw [List.length_map]
  refine q_asgD (K := K) (ed_lcR enc_A (n := st.length) (fun i => heldN st i) (fun i => (true, i)) (hlen (Le.refl _) rfl) (by omega) (fun _ => rfl) (fun i H1 e hi => et_B (hheld i e rfl rfl hi)) (fun i H1 e hi _ => ed_tup (ea_cons ed_str (ea_cons (ed_var rfl (.int _)) ea_nil)) (by show 2 ≤ 100000; decide))) fun v2 H1 e1 r2 => ?_
  refine s_retD (ed_eq (ed_cat (ed_var rfl r2) (ed_lcR enc_A (n := st.length) (fun i => !heldN st i) (fun i => (false, i)) (hlen e1 rfl) (by omega) (fun _ => rfl) (fun i H2 e hi => eb_not (et_B (hheld i (e1.trans e) rfl rfl hi))) (fun i H2 e hi _ => ed_tup (ea_cons ed_str (ea_cons (ed_var rfl (.int _)) ea_nil)) (by show 2 ≤ 100000; decide))) ?_ ?_) ?_) fun v H2 e2 r3 => q v _ H2 (e1.trans e2) rfl r3
  · have a1 := fm_len (List.range st.length) (fun i => heldN st i) (fun i => (true, i))
    have a2 := fm_len (List.range st.length) (fun i => !heldN st i) (fun i => (false, i))
    rw [List.length_range] at a1 a2
    simp only [List.length_map] at a1 a2 ⊢
    omega
  · rw [← List.map_append]
    exact enc_A.un _
  · unfold asksL
    rw [← List.map_append]
end
end W1

set_option maxRecDepth 100000
set_option maxHeartbeats 4000000
namespace W1
open PySem PyProof.Rows L2
local macro_rules | `(tactic| walk_at "rp") => `(tactic| first | assumption | exact Rp.int _ | exact Rp.bl _ | exact Rp.str _ | exact Rp.non | exact Rp.obj _ | (refine Rp.le (by assumption) ?_; walk_at "rp"))
local macro_rules | `(tactic| walk_at "ed") => `(tactic| first
  | exact ed_int | exact ed_str | exact ed_bl | exact ed_non
  | (refine ed_var rfl ?_; walk_at "rp")
  | (refine ed_ixT (ds := [_, _]) ?_ ed_int (by decide) rfl; walk_at "ed")
  | (refine ed_I0 ?_ ?_ <;> walk_at "ed")
  | (refine ed_B0 ?_ ?_ <;> walk_at "ed")
  | (refine ed_eqS ?_ ?_ rfl rfl rfl <;> walk_at "ed")
  | assumption)
local macro_rules | `(tactic| walk_at "ea") => `(tactic| first | exact ea_nil | (refine ea_cons ?_ ?_; walk_at "ed"; walk_at "ea"))

abbrev s__law_bars : Stmt := topS 49
abbrev N__law_bars : List Str := ["_law_parts_here", "_law_state", "_law_room", "_law_found", "_law_other"]
theorem sc__law_bars : FnScope N__law_bars ["_law_parts_here", "_law_state", "_law_room"] (defScope s__law_bars) := ⟨rfl, rfl, rfl, by decide +kernel, rfl, by decide +kernel, by decide +kernel⟩
/-! ### bars -/
def shownL (x : Bool × List Int) : List Int := if x.1 then x.2.take 1 else []
def ownL (ms : List Int) (st : St1) (r : Int) : List Int := (stAt st r).2.take ((ms[r.toNat]?).getD 0).toNat
structure Bars (ms : List Int) (ties : List (Int × Int)) (st : St1) (r : Int) (ns : List Int) : Prop where
  up : ns.Pairwise (· < ·)
  mem : ∀ k, k ∈ ns ↔ k ∈ ownL ms st r ∨ ∃ o ∈ rawNear ties r, k ∈ shownL (stAt st o)
theorem near_few : ∀ n : _root_.Fin 9, ∀ r : _root_.Fin 9, (rawNear (pairsL n.val) (r.val : Int)).length ≤ 8 := by decide +kernel
theorem near_le {ms : List Int} {ties : List (Int × Int)} {r : Int} (ok : PartsOk ms ties) (h8 : ms.length ≤ 8) (h0 : 0 ≤ r) (h1 : r < ms.length) : (rawNear ties r).length ≤ 8 := by
  have h := near_few ⟨ms.length, by omega⟩ ⟨r.toNat, by omega⟩
  have er : ((r.toNat : Nat) : Int) = r := by omega
  simp only [er] at h
  exact Nat.le_trans ((ok.sub.filter _).map _).length_le h
theorem near_in {ms : List Int} {ties : List (Int × Int)} {r o : Int} (ok : PartsOk ms ties) (h : o ∈ rawNear ties r) : 0 ≤ o ∧ o < ms.length := by
  obtain ⟨p, hp, rfl⟩ := List.mem_map.mp h
  obtain ⟨hp1, hp2⟩ := List.mem_filter.mp hp
  have hq := mem_pairsL.mp (ok.sub.subset hp1)
  have hr := of_decide_eq_true hp2
  simp only [List.mem_cons, List.not_mem_nil, or_false] at hr
  omega
section
variable {P : Program} {w : World} {K : PySem.W.Frag} {mg : Str → Option Value} {base : Heap}
def R_bars : List D → Hp → Pd → Prop := fun ds _ P => ∃ ms ties st r, ds = [eW ms ties, eS st, .int r] ∧ PartsOk ms ties ∧ StOk st ∧ st.length = ms.length ∧ ms.length ≤ 8 ∧ 0 ≤ r ∧ r < ms.length ∧
  P = fun d _ => ∃ ns : List Int, d = .tup (ns.map .int) ∧ Bars ms ties st r ns
theorem ok_bars (T : Txt mg) (g : GDef K mg "_law_bars" s__law_bars ["_law_parts_here", "_law_state", "_law_room"]) (G_law_near : Def P w K mg base 1 "_law_near" ["_law_parts_here", "_law_room"] (spF K R_near)) :
    Def P w K mg base 2 "_law_bars" ["_law_parts_here", "_law_state", "_law_room"] (spD K R_bars) := by
  refine defD g sc__law_bars (fun ds H Pd h => ?_) fun cdv A outer s f H vs ds Pd Q E hr r h q => ?_
  · obtain ⟨ms, ties, st, n, rfl, _⟩ := h
    rfl
  obtain ⟨ms, ties, st, rm, rfl, ok, sok, hl, h8, h0, h1, rfl⟩ := h
  obtain ⟨v1, v2, v3, rfl, r1, r2, r3⟩ := rps3 r
  refine ⟨_, (pss_cons (ps_set (i := 3) sc__law_bars.nd rfl (Or.inl rfl) (pe_callTy (kc_list (K := K)) (by rfl) T.n_list boot_list (pa_cons (pe_slice (ksl_tup (K := K)) (pe_ix (kix_tup (K := K)) (pe_ix (kix_list (K := K)) (pv 1) (pv 2) (fun _ _ => rfl)) pe_int (fun _ _ => rfl)) po_none (po_some (pe_ix (kix_tup (K := K)) (pe_ix (kix_tup (K := K)) (pv 0) pe_int (fun _ _ => rfl)) (pv 2) (fun _ _ => rfl)))) pa_nil)))
    (pss_cons (ps_for PassesOwn.never rfl (kpi_list (K := K) (pe_def G_law_near (hr.mono (by decide)) (pa_cons (pv 0) (pa_cons (pv 2) pa_nil)))) (pg_name (i := 4) sc__law_bars.nd rfl (Or.inl rfl))
      (pss_one (ps_if (pt_val (pe_ix (kix_tup (K := K)) (pe_ix (kix_list (K := K)) (pv 1) (pv 4) (fun _ _ => rfl)) pe_int (fun _ _ => rfl)))
      (pss_one (ps_expr (pe_bm PySem.F.plainAttrs_list PySem.F.slot_list_append PySem.F.type_list_append mt_append (pv 3) (pa_cons (pe_ix (kix_tup (K := K)) (pe_ix (kix_tup (K := K)) (pe_ix (kix_list (K := K)) (pv 1) (pv 4) (fun _ _ => rfl)) pe_int (fun _ _ => rfl)) pe_int (fun _ _ => rfl)) pa_nil))))
      pss_nil)))
    (pss_one (ps_ret (pe_callTy (kc_tuple (K := K)) (by rfl) T.n_tuple boot_tuple (pa_cons (pe_callB (kc_sortedSet (w := w) rfl) (by rfl) T.n_sorted boot_sorted (pa_cons (pe_callTy (kc_setL (K := K) (w := w) rfl) (by rfl) T.n_set boot_set (pa_cons (pv 3) pa_nil)) pa_nil)) pa_nil)))))), ?_⟩
  have hm : ms[rm.toNat]? = some ((ms[rm.toNat]?).getD 0) := by
    rw [List.getElem?_eq_getElem (by omega)]
    rfl
  have hm0 := ok.mem _ (List.mem_of_getElem? hm)
  have hst : ∀ {o : Int}, 0 ≤ o → o < ms.length → (st.map eR)[o.toNat]? = some (eR (stAt st o)) := fun a b => map_get (st_get a (by omega))
  have eq : cutG ((stAt st rm).2.map D.int) none (some ((ms[rm.toNat]?).getD 0)) = (ownL ms st rm).map D.int := by
    rw [cutG_hi _ _ hm0.1, ← List.map_take]
    rfl
  -- found = list(state[room][1][:parts[0][room]])
  refine q_asgF (K := K) (ef_lstOfT (ds := (ownL ms st rm).map D.int) (ed_eq (ed_slT (ed_ixT (ds := [_, _]) (ed_ixL (ed_var rfl r2) (ed_var rfl r3) h0 (hst h0 h1)) ed_int (by decide) rfl) eo_none
    (eo_some (ed_ixT (ed_ixT (ds := [_, _]) (ed_var rfl r1) ed_int (by decide) rfl) (ed_var rfl r3) h0 (map_get hm)))) (congrArg D.tup eq)) (enc_int.un _)) fun c us ds H1 nc e1 hc nh rr hd => ?_
  subst hd
  -- for other in near
  refine q_forLF (K := K) (α := Int) (PL := fun ns => Near ties rm ns) enc_int (ef_call (ea_cons (ed_var rfl (r1.le e1)) (ea_cons (ed_var rfl (r3.le e1)) ea_nil)) fun H2 _ => ⟨ms, ties, rm, rfl, ok.len, rfl⟩) fun ns a as H2 hp na e2 ha nha => ?_
  have hin : ∀ {i : Nat} {o : Int}, ns[i]? = some o → 0 ≤ o ∧ o < ms.length := fun h => near_in ok (hp.perm.mem_iff.mp (List.mem_of_getElem? h))
  have hca : c ≠ a := ne_of_none hc na
  have hnl : ns.length ≤ 8 := by
    rw [hp.perm.length_eq]
    exact near_le ok h8 h0 h1
  have hol : (ownL ms st rm).length ≤ 30 := Nat.le_trans (List.length_take_le _ _) (by omega)
  have hfl : ∀ l : List Int, (l.flatMap fun o => shownL (stAt st o)).length ≤ l.length := fun l => by
    have := flatMap_len (fun o => shownL (stAt st o)) 1 l fun o _ => by
      unfold shownL
      split
      · exact List.length_take_le _ _
      · exact Nat.zero_le _
    omega
  refine ⟨fun i σ H' => ∃ y ws, σ = [some v1, some v2, some v3, some (.ref c), y] ∧ Le H H' ∧ LeT H2 H' ∧ H' a = some (.lst as) ∧ H' c = some (.lst ws) ∧ i ≤ ns.length ∧ Rps K H' ws (((ownL ms st rm) ++ (ns.take i).flatMap fun o => shownL (stAt st o)).map D.int), ?_, ?_, ?_, ?_⟩
  · refine ⟨none, us, rfl, e1.trans e2, LeT.refl _, ha, e2.lst hc nh, Nat.zero_le _, ?_⟩
    rw [List.take_zero, List.flatMap_nil, List.append_nil]
    exact rr.le e2
  · rintro i σ' H' _ ⟨y, ws, rfl, _, lt, ha', _⟩
    exact ⟨lt, ha'⟩
  · rintro i o v σ' H' ho rv ⟨y, ws, rfl, e, lt, ha', hc', _, rr'⟩
    have ev := rp_int rv
    subst ev
    obtain ⟨o0, o1⟩ := hin ho
    have hi : i < ns.length := (List.getElem?_eq_some_iff.mp ho).1
    have nh' : NotH ws := (enc_int.un _).notH rr'
    have tk : (ns.take (i + 1)).flatMap (fun o => shownL (stAt st o)) = (ns.take i).flatMap (fun o => shownL (stAt st o)) ++ shownL (stAt st o) := by
      rw [List.take_add_one, ho, List.flatMap_append]
      simp
    -- if state[other][0]
    refine s_ifB (b := (stAt st o).1) (et_B (K := K) (ed_ixT (ds := [_, _]) (ed_ixL (ed_var rfl (r2.le e)) (ed_var rfl (.int o)) o0 (hst o0 o1)) ed_int (by decide) rfl)) (fun hb H3 e3 => ?_) (fun hb H3 e3 => ?_)
    · have hne := sok.shown _ (st_mem o0 (by omega)) hb
      obtain ⟨t, ts, hts⟩ : ∃ t ts, (stAt st o).2 = t :: ts := by
        cases h : (stAt st o).2 with
        | nil => exact absurd h hne
        | cons t ts => exact ⟨t, ts, rfl⟩
      refine s_app (K := K) (P := is (.int t)) (e3.lst hc' nh') nh' (ed_var rfl (.obj _)) (fun H4 e4 => ?_) ?_ fun y d H4 e4 p ry hc4 => ?_
      · refine ed_ixT (ds := (stAt st o).2.map D.int) (ed_ixT (ds := [_, _]) (ed_ixL (d := eR (stAt st o)) (ed_var rfl (r2.le ((e.trans e3).trans e4))) (ed_var rfl (.int o)) o0 (hst o0 o1)) ed_int (by decide) rfl) ed_int (by decide) ?_
        rw [hts]
        rfl
      · rw [rr'.len, List.length_map, List.length_append]
        have := hfl (ns.take i)
        have := List.length_take_le i ns
        omega
      · have p' : d = .int t := p
        subst p'
        have sh : shownL (stAt st o) = [t] := by
          unfold shownL
          rw [hb, hts]
          rfl
        refine ⟨_, ws ++ [y], rfl, ((e.trans e3).trans e4).mut nc, (lt.trans (e3.trans e4).t).trans (LeT.upd hc4), by rw [upd_ne hca.symm]; exact (e3.trans e4).lst ha' nha, upd_same, hi, ?_⟩
        rw [tk, sh, ← List.append_assoc, List.map_append]
        exact ((rr'.le (e3.trans e4)).upd hc4 (enc_int.nl _)).app (.cons (ry.upd hc4 (.int _)) .nil)
    · have sh : shownL (stAt st o) = [] := by
        unfold shownL
        rw [hb]
        rfl
      refine ⟨_, ws, rfl, e.trans e3, lt.trans e3.t, e3.lst ha' nha, e3.lst hc' nh', hi, ?_⟩
      rw [tk, sh, List.append_nil]
      exact rr'.le e3
  · rintro σ' H' ⟨y, ws, rfl, e, lt, ha', hc', _, rr'⟩
    rw [List.take_length] at rr'
    have nh' : NotH ws := (enc_int.un _).notH rr'
    refine s_ret (EP.weak (ep_tupOf (PL := fun es => ∃ ns' : List Int, es = ns'.map .int ∧ Bars ms ties st rm ns') (EP.weak (ep_sortedSet (w := w) (ns := (ownL ms st rm) ++ ns.flatMap fun o => shownL (stAt st o)) ?_ (ed_var rfl (.lst hc' nh' rr'))) fun d H3 _ p => ?_)) fun d H3 _ p => ?_) fun v d H3 e3 p r => q v d H3 (e.trans e3) p r
    · rw [List.length_append]
      have := hfl ns
      omega
    · obtain ⟨ns', rfl, hs, hm⟩ := p
      refine ⟨_, rfl, ns', rfl, hs, fun k => ?_⟩
      rw [hm k, List.mem_append, List.mem_flatMap]
      refine or_congr Iff.rfl ⟨?_, ?_⟩
      · rintro ⟨o, ho, hk⟩
        exact ⟨o, hp.perm.mem_iff.mp ho, hk⟩
      · rintro ⟨o, ho, hk⟩
        exact ⟨o, hp.perm.mem_iff.mpr ho, hk⟩
    · obtain ⟨es, rfl, ns', rfl, hb⟩ := p
      exact ⟨ns', rfl, hb⟩
end
end W1

set_option maxRecDepth 100000
set_option maxHeartbeats 4000000
namespace W1
open PySem PyProof.Rows L2
local macro_rules | `(tactic| walk_at "rp") => `(tactic| first | assumption | exact Rp.int _ | exact Rp.bl _ | exact Rp.str _ | exact Rp.non | exact Rp.obj _ | (refine Rp.le (by assumption) ?_; walk_at "rp"))
local macro_rules | `(tactic| walk_at "ed") => `(tactic| first
  | exact ed_int | exact ed_str | exact ed_bl | exact ed_non
  | (refine ed_var rfl ?_; walk_at "rp")
  | (refine ed_ixT (ds := [_, _]) ?_ ed_int (by decide) rfl; walk_at "ed")
  | (refine ed_I0 ?_ ?_ <;> walk_at "ed")
  | (refine ed_B0 ?_ ?_ <;> walk_at "ed")
  | (refine ed_eqS ?_ ?_ rfl rfl rfl <;> walk_at "ed")
  | assumption)
local macro_rules | `(tactic| walk_at "ea") => `(tactic| first | exact ea_nil | (refine ea_cons ?_ ?_; walk_at "ed"; walk_at "ea"))

abbrev s__law_past : Stmt := topS 51
abbrev N__law_past : List Str := ["_law_hand_here", "_law_parts_here", "_law_k", "_law_many", "_law_careful", "_law_state", "_law_past_here", "_law_turn", "_law_deed", "_law_left", "_law_tag"]
theorem sc__law_past : FnScope N__law_past ["_law_hand_here", "_law_parts_here", "_law_k", "_law_many", "_law_careful"] (defScope s__law_past) := ⟨rfl, rfl, rfl, by decide +kernel, rfl, by decide +kernel, by decide +kernel⟩
abbrev s__law_deep_parts : Stmt := topS 58
abbrev N__law_deep_parts : List Str := ["_law_hand_here", "_law_most", "_law_many", "_law_memories", "_law_room"]
theorem sc__law_deep_parts : FnScope N__law_deep_parts ["_law_hand_here", "_law_most"] (defScope s__law_deep_parts) := ⟨rfl, rfl, rfl, by decide +kernel, rfl, by decide +kernel, by decide +kernel⟩
/-! ### runs: pasts with the states that they lead to -/
inductive Run (n : Nat) (k : Int) : List Deed → St1 → Prop
  | nil : Run n k [] (List.replicate n (false, []))
  | give {p : List Deed} {st : St1} {r t : Int} : Run n k p st → 0 ≤ r → r < n → (stAt st r).1 = false → 0 ≤ t → t < k → Run n k (p ++ [.give r t]) (doneL st (.give r t))
  | back {p : List Deed} {st : St1} {r : Int} : Run n k p st → 0 ≤ r → r < n → (stAt st r).1 = true → Run n k (p ++ [.back r]) (doneL st (.back r))
theorem mem_set_of {α : Type} {l : List α} {i : Nat} {a x : α} (h : x ∈ l.set i a) : x = a ∨ x ∈ l := by
  rcases List.mem_or_eq_of_mem_set h with h | h
  · exact .inr h
  · exact .inl h
theorem Run.ok {n : Nat} {k : Int} {p : List Deed} {st : St1} (h : Run n k p st) : st.length = n ∧ (∀ x ∈ st, x.1 = true → x.2 ≠ []) ∧ ∀ x ∈ st, x.2.length ≤ p.length := by
  induction h with
  | nil =>
    refine ⟨List.length_replicate, fun x hx => ?_, fun x hx => ?_⟩
    · rw [List.eq_of_mem_replicate hx]
      exact fun h => nomatch h
    · rw [List.eq_of_mem_replicate hx]
      exact Nat.le_refl _
  | @give p st r t h h0 h1 hf t0 t1 ih =>
    obtain ⟨a, b, c⟩ := ih
    refine ⟨by rw [doneL_len, a], fun x hx => ?_, fun x hx => ?_⟩
    · rcases mem_set_of hx with rfl | hx
      · exact fun _ e => nomatch e
      · exact b x hx
    · rw [List.length_append]
      rcases mem_set_of hx with rfl | hx
      · have := c _ (st_mem h0 (by omega))
        show (stAt st r).2.length + 1 ≤ p.length + 1
        omega
      · have := c x hx
        omega
  | @back p st r h h0 h1 hf ih =>
    obtain ⟨a, b, c⟩ := ih
    refine ⟨by rw [doneL_len, a], fun x hx => ?_, fun x hx => ?_⟩
    · rcases mem_set_of hx with rfl | hx
      · exact fun e => nomatch e
      · exact b x hx
    · rw [List.length_append]
      rcases mem_set_of hx with rfl | hx
      · have := c _ (st_mem h0 (by omega))
        show (stAt st r).2.length ≤ p.length + 1
        omega
      · have := c x hx
        omega
theorem Run.sok {n : Nat} {k : Int} {p : List Deed} {st : St1} (h : Run n k p st) (hn : n ≤ 60) (hp : p.length ≤ 5000) : StOk st := by
  obtain ⟨a, b, c⟩ := h.ok
  exact ⟨by omega, b, fun x hx => Nat.le_trans (c x hx) hp⟩
theorem mem_asks {st : St1} {a : Bool × Nat} (h : a ∈ asksL st) : a.2 < st.length ∧ (stAt st a.2).1 = a.1 := by
  have e : ∀ i : Nat, heldN st i = (stAt st (i : Int)).1 := fun i => by
    unfold heldN stAt
    rw [Int.toNat_natCast]
  rcases List.mem_append.mp h with h | h
  · obtain ⟨i, hi, rfl⟩ := List.mem_map.mp h
    obtain ⟨h1, h2⟩ := List.mem_filter.mp hi
    exact ⟨List.mem_range.mp h1, (e i).symm.trans h2⟩
  · obtain ⟨i, hi, rfl⟩ := List.mem_map.mp h
    obtain ⟨h1, h2⟩ := List.mem_filter.mp hi
    refine ⟨List.mem_range.mp h1, (e i).symm.trans ?_⟩
    simpa using h2
theorem asks_ne {st : St1} (h : 1 ≤ st.length) : asksL st ≠ [] := fun e => by
  have hr : 0 ∈ List.range st.length := List.mem_range.mpr (by omega)
  unfold asksL at e
  obtain ⟨e1, e2⟩ := List.append_eq_nil_iff.mp e
  cases hh : heldN st 0 with
  | true =>
    have : (0 : Nat) ∈ (List.range st.length).filter fun i => heldN st i := List.mem_filter.mpr ⟨hr, hh⟩
    have h2 := List.mem_map_of_mem (f := fun i => (true, i)) this
    rw [e1] at h2
    cases h2
  | false =>
    have : (0 : Nat) ∈ (List.range st.length).filter fun i => !heldN st i := List.mem_filter.mpr ⟨hr, by simp [hh]⟩
    have h2 := List.mem_map_of_mem (f := fun i => (false, i)) this
    rw [e2] at h2
    cases h2
theorem asks_len {st : St1} : (asksL st).length ≤ 2 * st.length := by
  unfold asksL
  rw [List.length_append]
  have a1 := fm_len (List.range st.length) (fun i => heldN st i) (fun i => (true, i))
  have a2 := fm_len (List.range st.length) (fun i => !heldN st i) (fun i => (false, i))
  rw [List.length_range] at a1 a2
  omega
section
variable {P : Program} {w : World} {K : PySem.W.Frag} {mg : Str → Option Value} {base : Heap}
/-! ### _law_deep_parts -/
theorem ep_any {σ : L2.St} {H : Hp} {E : XK} {h : Addr} {ta : TA} {PX : List D → Prop} (hh : Hand H h) (ha : EA K ta σ H (fun ds _ => ∃ xs, ds = [.obj (.ref h), .lst xs] ∧ PX xs)) (hne : ∀ xs, PX xs → xs ≠ [] ∧ xs.length ≤ 100000) :
    EP K (tCall (spD K R_any) [] E ta) σ H (fun d _ => ∃ xs, PX xs ∧ d ∈ xs) :=
  ep_call ha fun ds H2 e ⟨xs, ed, px⟩ => ⟨fun d _ => d ∈ xs, ⟨h, xs, ed, hh.le e, (hne xs px).1, (hne xs px).2, rfl⟩, fun d H3 _ hd => ⟨xs, px, hd⟩⟩
def R_deep : List D → Hp → Pd → Prop := fun ds H P => ∃ (h : Addr) (most : Int), ds = [.obj (.ref h), .int most] ∧ Hand H h ∧ 1 ≤ most ∧ most ≤ 60 ∧
  P = fun d _ => ∃ ms ties, d = eW ms ties ∧ PartsOk ms ties ∧ (ms.length : Int) ≤ most
theorem ok_deep (T : Txt mg) (g : GDef K mg "_law_deep_parts" s__law_deep_parts ["_law_hand_here", "_law_most"]) (G_law_draw : Def P w K mg base 1 "_law_draw" ["_law_hand_here", "_law_many"] (spD K R_draw))
    (G_law_any : Def P w K mg base 2 "_law_any" ["_law_hand_here", "_law_items"] (spD K R_any)) (G_law_pairs : Def P w K mg base 1 "_law_pairs" ["_law_many"] (spD K R_pairs)) : Def P w K mg base 3 "_law_deep_parts" ["_law_hand_here", "_law_most"] (spD K R_deep) := by
  refine defD g sc__law_deep_parts (fun ds H Pd h => ?_) fun cdv A outer s f H vs ds Pd Q E hr r h q => ?_
  · obtain ⟨h, a, rfl, _⟩ := h
    rfl
  obtain ⟨h, most, rfl, hh, m1, m2, rfl⟩ := h
  obtain ⟨v1, v2, rfl, r1, r2⟩ := rps2 r
  have hv1 : v1 = .ref h := rp_obj r1
  have hv2 : v2 = .int most := rp_int r2
  subst hv1 hv2
  refine ⟨_, (pss_cons (ps_set (i := 2) sc__law_deep_parts.nd rfl (Or.inl rfl) (pe_op op_add pe_int (pe_def G_law_draw (hr.mono (by decide)) (pa_cons (pv 0) (pa_cons (pv 1) pa_nil)))))
    (pss_cons (ps_setLc (i := 3) (own := [("_law_room", 4)]) rfl sc__law_deep_parts.nd rfl rfl (sw_true rfl rfl rfl (by decide +kernel)) (pi_range1 (by rfl) T.n_range (pa_cons (pv 2) pa_nil)) (blkOk_by (N := N__law_deep_parts) (sc := defScope s__law_deep_parts) (by decide +kernel)) (fun _ _ _ _ _ => (pg_name (i := 4) sc__law_deep_parts.nd rfl (Or.inl rfl))) (fun _ _ _ _ _ => pts_nil) (fun _ _ _ _ _ => (pe_def G_law_any (hr.mono (by decide)) (pa_cons (pv 0) (pa_cons (pe_lst (pa_cons pe_int (pa_cons pe_int (pa_cons pe_int (pa_cons pe_int (pa_cons pe_int (pa_cons (pe_op op_add pe_int (pe_def G_law_draw (hr.mono (by decide)) (pa_cons (pv 0) (pa_cons pe_int pa_nil)))) pa_nil))))))) pa_nil)))))
    (pss_one (ps_ret (pe_tup (pa_cons (pe_callTy (kc_tuple (K := K)) (by rfl) T.n_tuple boot_tuple (pa_cons (pv 3) pa_nil)) (pa_cons (pe_ifExp (pt_cmpR op_gt (pe_def G_law_draw (hr.mono (by decide)) (pa_cons (pv 0) (pa_cons pe_int pa_nil))) pe_int (nomark _)) (pe_callTy (kc_tuple (K := K)) (by rfl) T.n_tuple boot_tuple (pa_cons (pe_def G_law_pairs (hr.mono (by decide)) (pa_cons (pv 2) pa_nil)) pa_nil)) (pe_tup pa_nil)) pa_nil))))))), ?_⟩
  refine q_asg (K := K) (ep_plus (ep_draw hh (ea_cons (ed_var rfl r1) (ea_cons (ed_var rfl r2) ea_nil)) (by omega))) fun v d H1 e1 p1 q1 => ?_
  obtain ⟨many, rfl, n1, n2⟩ := p1
  obtain ⟨n, rfl⟩ : ∃ n : Nat, many = (n : Int) := ⟨many.toNat, by omega⟩
  have ev := rp_int q1
  subst ev
  refine q_asg (K := K) (ep_lcR enc_int (n := n) (fun z => 0 ≤ z ∧ z ≤ 30) (ea_cons (ed_var rfl (.int _)) ea_nil) (by omega) (fun _ => rfl) fun i H2 e2 hi => ?_) ?_
  · refine EP.weak (ep_any (K := K) (PX := fun xs => xs.length = 6 ∧ ∀ d ∈ xs, ∃ z : Int, d = .int z ∧ 0 ≤ z ∧ z ≤ 30) (hh.le (e1.trans e2)) ?_ (fun xs h => ⟨fun e => (by rw [e] at h; exact absurd h.1 (by decide)), (by have := h.1; omega)⟩)) ?_
    · refine EA_weak (ep_cons (ed_var rfl (.obj (.ref h))) (ep_cons (ep_lst (P := fun d _ => ∃ xs, d = .lst xs ∧ xs.length = 6 ∧ ∀ d ∈ xs, ∃ z : Int, d = .int z ∧ 0 ≤ z ∧ z ≤ 30) (PA := fun xs _ => xs.length = 6 ∧ ∀ d ∈ xs, ∃ z : Int, d = .int z ∧ 0 ≤ z ∧ z ≤ 30) ?_ ?_ ?_ ?_) ea_nil)) ?_
      · refine EA_weak (ep_cons ed_int (ep_cons ed_int (ep_cons ed_int (ep_cons ed_int (ep_cons ed_int (ep_cons (ep_plus (ep_draw (hh.le (e1.trans e2)) (ea_cons (ed_var rfl (.obj (.ref h))) (ea_cons ed_int ea_nil)) (by omega))) ea_nil)))))) ?_
        rintro ds H3 ⟨d1, r1, _, rfl, _, rfl, d2, r2, _, rfl, _, rfl, d3, r3, _, rfl, _, rfl, d4, r4, _, rfl, _, rfl, d5, r5, _, rfl, _, rfl, d6, r6, _, rfl, _, ⟨z, rfl, z1, z2⟩, rfl⟩
        refine ⟨rfl, fun d hd => ?_⟩
        simp only [List.mem_cons, List.not_mem_nil, or_false] at hd
        rcases hd with rfl | rfl | rfl | rfl | rfl | rfl
        · exact ⟨_, rfl, by decide, by decide⟩
        · exact ⟨_, rfl, by decide, by decide⟩
        · exact ⟨_, rfl, by decide, by decide⟩
        · exact ⟨_, rfl, by decide, by decide⟩
        · exact ⟨_, rfl, by decide, by decide⟩
        · exact ⟨_, rfl, by omega, by omega⟩
      · rintro ds H3 ⟨h6, _⟩
        omega
      · rintro ds H3 xs ⟨h6, _⟩ rr
        exact notH_len (by rw [rr.len]; omega)
      · rintro ds H3 hp H4 _
        exact ⟨ds, rfl, hp⟩
      · rintro ds H3 ⟨d1, r1, _, rfl, _, rfl, d2, r2, _, rfl, _, ⟨xs, rfl, hx⟩, rfl⟩
        exact ⟨xs, rfl, hx⟩
    · rintro d H3 _ ⟨xs, hx, hd⟩
      exact hx.2 d hd
  rintro v d H2 e2 ⟨zs, rfl, hl, hz⟩ r3
  have hh2 := hh.le (e1.trans e2)
  refine s_ret (K := K) (P := fun d _ => ∃ ties : List (Int × Int), d = eW zs ties ∧ ties.Sublist (pairsL n)) ?_ ?_
  · refine ep_tup (EA_weak (ep_cons (ed_tupOf (ed_var rfl r3)) (ep_cons (P := fun d _ => ∃ ties : List (Int × Int), d = .tup (ties.map eP) ∧ ties.Sublist (pairsL n)) ?_ ea_nil)) (P2 := fun ds _ => ∃ ties : List (Int × Int), ds = [.tup (zs.map .int), .tup (ties.map eP)] ∧ ties.Sublist (pairsL n)) ?_) ?_ ?_
    · intro H3 e3 Q' q'
      refine et_cmp (K := K) (EP.anyI (ep_draw hh2 (ea_cons (ed_var rfl (.obj (.ref h))) (ea_cons ed_int ea_nil)) (by omega))) (EP.weak ed_int fun d _ _ p => ⟨_, p⟩) H3 e3 _ fun b H4 e4 _ => ?_
      cases b with
      | true => exact ed_tupOf (K := K) (ed_call (P := is (.lst ((pairsL n).map eP))) (ea_cons (ed_var rfl (.int (n : Int))) ea_nil) fun H5 _ => ⟨n, rfl, by omega, rfl⟩) H4 (Le.refl _) Q' fun v d H5 e5 p r => q' v d H5 (e4.trans e5) ⟨_, p, List.Sublist.refl _⟩ r
      | false => exact ed_tup (K := K) (σ := [some (.ref h), some (.int most), some (.int (n : Int)), some v, none]) ea_nil (by decide) H4 (Le.refl _) Q' fun v d H5 e5 p r => q' v d H5 (e4.trans e5) ⟨[], p, List.nil_sublist _⟩ r
    · rintro ds H3 ⟨d1, r1, _, rfl, _, rfl, d2, r2, _, rfl, _, ⟨ties, rfl, hs⟩, rfl⟩
      exact ⟨ties, rfl, hs⟩
    · rintro ds H3 ⟨ties, rfl, _⟩
      show 2 ≤ 100000
      decide
    · rintro ds H3 ⟨ties, rfl, hs⟩ H4 _
      exact ⟨ties, rfl, hs⟩
  · rintro v d H3 e3 ⟨ties, rfl, hs⟩ r
    exact q v _ H3 ((e1.trans e2).trans e3) ⟨zs, ties, rfl, ⟨by omega, by omega, hz, by rw [hl]; exact hs⟩, by omega⟩ r
end
end W1

set_option maxRecDepth 100000
set_option maxHeartbeats 4000000
namespace W1
open PySem PyProof.Rows L2 RZ
local macro_rules | `(tactic| walk_at "rp") => `(tactic| first | assumption | exact Rp.int _ | exact Rp.bl _ | exact Rp.str _ | exact Rp.non | exact Rp.obj _ | (refine Rp.le (by assumption) ?_; walk_at "rp"))
local macro_rules | `(tactic| walk_at "ed") => `(tactic| first
  | exact ed_int | exact ed_str | exact ed_bl | exact ed_non
  | (refine ed_var rfl ?_; walk_at "rp")
  | (refine ed_ixT (ds := [_, _]) ?_ ed_int (by decide) rfl; walk_at "ed")
  | (refine ed_I0 ?_ ?_ <;> walk_at "ed")
  | (refine ed_B0 ?_ ?_ <;> walk_at "ed")
  | (refine ed_eqS ?_ ?_ rfl rfl rfl <;> walk_at "ed")
  | assumption)
local macro_rules | `(tactic| walk_at "ea") => `(tactic| first | exact ea_nil | (refine ea_cons ?_ ?_; walk_at "ed"; walk_at "ea"))

abbrev s__law_nested : Stmt := topS 41
abbrev N__law_nested : List Str := ["_law_hand_here", "_law_thing", "_law_turn"]
theorem sc__law_nested : FnScope N__law_nested ["_law_hand_here"] (defScope s__law_nested) := ⟨rfl, rfl, rfl, by decide +kernel, rfl, by decide +kernel, by decide +kernel⟩
section
variable {P : Program} {w : World} {K : PySem.W.Frag} {mg : Str → Option Value} {base : Heap}
def NT (d : D) : Prop := ∀ a b t, d ≠ .tup [a, b, .int t]
/-- what is nested -/
structure Ns (d : D) : Prop where
  nt : NT d
  it : ∀ xs, d = .tup xs → xs.length ≤ 1 ∧ ∀ x ∈ xs, NT x
theorem ns_not {d : D} (h : ∀ xs, d ≠ .tup xs) : Ns d := ⟨fun _ _ _ => h _, fun xs e => absurd e (h xs)⟩
theorem ns_one {d : D} (h : NT d) : Ns (.tup [d]) := ⟨fun _ _ _ e => (nomatch e), fun xs e => by
  injection e with e
  subst e
  exact ⟨Nat.le_refl _, fun x hx => by rw [List.mem_singleton.mp hx]; exact h⟩⟩
def R_nested : List D → Hp → Pd → Prop := fun ds H P => ∃ h : Addr, ds = [.obj (.ref h)] ∧ Hand H h ∧ P = fun d H2 => Th H2 d ∧ Ns d
theorem ok_nested (T : STxt mg) (g : GDef K mg "_law_nested" s__law_nested ["_law_hand_here"]) (G_law_any : Def P w K mg base 2 "_law_any" ["_law_hand_here", "_law_items"] (spD K R_any)) : Def P w K mg base 3 "_law_nested" ["_law_hand_here"] (spD K R_nested) := by
  refine defD g sc__law_nested (fun ds H Pd h => ?_) fun cdv A outer s f H vs ds Pd Q E hr r h q => ?_
  · obtain ⟨h, rfl, _⟩ := h
    rfl
  obtain ⟨h, rfl, hh, rfl⟩ := h
  obtain ⟨v1, rfl, r1⟩ := rps1 r
  have ev := rp_obj r1
  subst ev
  refine ⟨_, (pss_cons (ps_set (i := 1) sc__law_nested.nd rfl (Or.inl rfl) (pe_def G_law_any (hr.mono (by decide)) (pa_cons (pv 0) (pa_cons (pe_lst (pa_cons (pe_tup pa_nil) (pa_cons pe_int (pa_cons pe_str (pa_cons pe_non pa_nil))))) pa_nil))))
    (pss_cons (ps_for PassesOwn.never rfl (pi_range1 (by rfl) T.n_range (pa_cons pe_int pa_nil)) (pg_name (i := 2) sc__law_nested.nd rfl (Or.inl rfl))
      (pss_one (ps_set (i := 1) sc__law_nested.nd rfl (Or.inl rfl) (pe_ifExp (pt_cmpR op_eq (pe_op op_mod (pe_callTy call_int1 (by rfl) T.n_int boot_int (pa_cons (pv 2) pa_nil)) pe_int) pe_int (nomark _)) (pe_lst (pa_cons (pv 1) pa_nil)) (pe_tup (pa_cons (pv 1) pa_nil))))))
    (pss_one (ps_ret (pv 1))))), ?_⟩
  refine q_asg (K := K) (ep_any (K := K) (PX := fun xs => xs = [.tup [], .int 0, .str "a", .non]) hh (EA_weak (ea_cons (ed_var rfl (.obj (.ref h))) (ea_cons (ed_lst (ea_cons (ed_tup ea_nil (by decide)) (ea_cons ed_int (ea_cons ed_str (ea_cons ed_non ea_nil)))) (by show 4 ≤ 100000; decide) rfl) ea_nil)) fun ds H2 p => ⟨_, p, rfl⟩) fun xs hx => by rw [hx]; exact ⟨(fun h => nomatch h), by show 4 ≤ 100000; decide⟩) fun v d H1 e1 p r2 => ?_
  have hd : ∀ H', Th H' d ∧ Ns d := by
    obtain ⟨xs, rfl, hm⟩ := p
    simp only [List.mem_cons, List.not_mem_nil, or_false] at hm
    intro H'
    rcases hm with rfl | rfl | rfl | rfl
    · exact ⟨.tup (Nat.zero_le _) fun x hx => (nomatch hx), ⟨fun _ _ _ e => (nomatch e), fun xs e => by injection e with e; subst e; exact ⟨Nat.zero_le _, fun x hx => nomatch hx⟩⟩⟩
    · exact ⟨.sc rfl, ns_not fun _ e => nomatch e⟩
    · exact ⟨.sc rfl, ns_not fun _ e => nomatch e⟩
    · exact ⟨.sc rfl, ns_not fun _ e => nomatch e⟩
  refine q_forR1 (K := K) (n := 36) (ea_cons ed_int ea_nil) (by omega) fun H2 e2 => ?_
  refine ⟨fun i σ H' => ∃ v y d, σ = [some (.ref h), some v, y] ∧ Le H H' ∧ Rp K H' v d ∧ Th H' d ∧ Ns d, ⟨v, none, d, rfl, e1.trans e2, r2.le e2, hd _⟩, ?_, ?_⟩
  · rintro i σ' H3 hi ⟨v, y, d, rfl, e, r2, hd, hs⟩
    refine s_asg (K := K) (P := fun d' H4 => Th H4 d' ∧ Ns d') (ep_if (et_test (K := K) (ed_eqS (d2 := .int 4) (ed_I (f := fun i j => i % j) (ed_int1 (ed_var rfl (.int (i : Int)))) ed_int (by show (0 : Int) < 5; decide)) ed_int rfl rfl rfl)) (fun _ => ?_) fun _ => ?_) fun v' d' H4 e4 p r => ⟨v', _, d', rfl, e.trans e4, r, p⟩
    · refine EP.weak (ep_lstO (P := fun ds _ => ds = [d]) (ea_cons (ed_var rfl r2) ea_nil) (fun ds H4 p => by rw [p]; show 1 ≤ 100000; decide)) fun d' H4 _ p => ?_
      obtain ⟨u, rfl, ho⟩ := p
      exact ⟨.ob ho, ns_not fun _ e => nomatch e⟩
    · refine EP.weak (ed_tup (ea_cons (ed_var rfl r2) ea_nil) (by show 1 ≤ 100000; decide)) fun d' H4 e4 p => ?_
      have p' : d' = .tup [d] := p
      subst p'
      exact ⟨.tup (by show 1 ≤ 50000; decide) fun x hx => by rw [List.mem_singleton.mp hx]; exact hd.le e4, ns_one hs.nt⟩
  · rintro σ' H3 ⟨v, y, d, rfl, e, r2, hd, hs⟩
    exact s_ret (K := K) (P := fun d' H4 => Th H4 d' ∧ Ns d') (EP.weak (ed_var rfl r2) fun d' H4 e4 p => by
      have p' : d' = d := p
      subst p'
      exact ⟨hd.le e4, hs⟩) fun v' d' H4 e4 p r => q v' d' H4 (e.trans e4) p r
end
end W1

set_option maxRecDepth 100000
set_option maxHeartbeats 4000000
namespace W1
open PySem PyProof.Rows L2
local macro_rules | `(tactic| walk_at "rp") => `(tactic| first | assumption | exact Rp.int _ | exact Rp.bl _ | exact Rp.str _ | exact Rp.non | exact Rp.obj _ | (refine Rp.le (by assumption) ?_; walk_at "rp"))
local macro_rules | `(tactic| walk_at "ed") => `(tactic| first
  | exact ed_int | exact ed_str | exact ed_bl | exact ed_non
  | (refine ed_var rfl ?_; walk_at "rp")
  | (refine ed_ixT (ds := [_, _]) ?_ ed_int (by decide) rfl; walk_at "ed")
  | (refine ed_I0 ?_ ?_ <;> walk_at "ed")
  | (refine ed_B0 ?_ ?_ <;> walk_at "ed")
  | (refine ed_eqS ?_ ?_ rfl rfl rfl <;> walk_at "ed")
  | assumption)
local macro_rules | `(tactic| walk_at "ea") => `(tactic| first | exact ea_nil | (refine ea_cons ?_ ?_; walk_at "ed"; walk_at "ea"))

section
variable {P : Program} {w : World} {K : PySem.W.Frag} {mg : Str → Option Value} {base : Heap}
def R_past : List D → Hp → Pd → Prop := fun ds H P => ∃ (h : Addr) (ms : List Int) (ties : List (Int × Int)) (k m c : Int), ds = [.obj (.ref h), eW ms ties, .int k, .int m, .int c] ∧ Hand H h ∧ PartsOk ms ties ∧ ms.length ≤ 8 ∧ 1 ≤ k ∧ k ≤ 200 ∧ 0 ≤ m ∧ m ≤ 1000 ∧ 1 ≤ c ∧ c ≤ 1000 ∧
  P = fun d _ => ∃ past st, d = .tup (past.map eD) ∧ Run ms.length k past st ∧ (past.length : Int) = m
theorem ok_past (T : Txt mg) (g : GDef K mg "_law_past" s__law_past ["_law_hand_here", "_law_parts_here", "_law_k", "_law_many", "_law_careful"]) (G_law_draw : Def P w K mg base 1 "_law_draw" ["_law_hand_here", "_law_many"] (spD K R_draw))
    (G_law_any : Def P w K mg base 2 "_law_any" ["_law_hand_here", "_law_items"] (spD K R_any)) (G_law_start : Def P w K mg base 1 "_law_start" ["_law_parts_here"] (spD K R_start)) (G_law_asks : Def P w K mg base 1 "_law_asks" ["_law_state"] (spD K R_asks))
    (G_law_bars : Def P w K mg base 2 "_law_bars" ["_law_parts_here", "_law_state", "_law_room"] (spD K R_bars)) (G_law_done : Def P w K mg base 1 "_law_done" ["_law_state", "_law_deed"] (spF K R_done)) :
    Def P w K mg base 3 "_law_past" ["_law_hand_here", "_law_parts_here", "_law_k", "_law_many", "_law_careful"] (spD K R_past) := by
  refine defD g sc__law_past (fun ds H Pd h => ?_) fun cdv A outer s f H vs ds Pd Q E hr r h q => ?_
  · obtain ⟨h, ms, ties, k, m, c, rfl, _⟩ := h
    rfl
  obtain ⟨h, ms, ties, k, m, c, rfl, hh, ok, h8, k1, k2, m0, m1, c1, c2, rfl⟩ := h
  obtain ⟨v1, v2, v3, v4, v5, rfl, r1, r2, r3, r4, r5⟩ : ∃ v1 v2 v3 v4 v5, vs = [v1, v2, v3, v4, v5] ∧ Rp K H v1 (.obj (.ref h)) ∧ Rp K H v2 (eW ms ties) ∧ Rp K H v3 (.int k) ∧ Rp K H v4 (.int m) ∧ Rp K H v5 (.int c) := by
    cases r with
    | cons a1 r =>
      cases r with
      | cons a2 r =>
        obtain ⟨b1, b2, b3, rfl, x1, x2, x3⟩ := rps3 r
        exact ⟨_, _, _, _, _, rfl, a1, a2, x1, x2, x3⟩
  have hv1 := rp_obj r1
  have hv3 := rp_int r3
  have hv4 := rp_int r4
  have hv5 := rp_int r5
  subst hv1 hv3 hv4 hv5
  refine ⟨_, (pss_cons (ps_asg (pe_tup (pa_cons (pe_def G_law_start (hr.mono (by decide)) (pa_cons (pv 1) pa_nil)) (pa_cons (pe_tup pa_nil) pa_nil))) (kpg_tup (K := K) (n := 2) rfl (pgs_cons (pg_name (i := 5) sc__law_past.nd rfl (Or.inr rfl)) (pgs_cons (pg_name (i := 6) sc__law_past.nd rfl (Or.inl rfl)) pgs_nil))))
    (pss_cons (ps_for PassesOwn.never rfl (pi_range1 (by rfl) T.n_range (pa_cons (pv 3) pa_nil)) (pg_name (i := 7) sc__law_past.nd rfl (Or.inl rfl))
      (pss_cons (ps_set (i := 8) sc__law_past.nd rfl (Or.inr rfl) (pe_def G_law_any (hr.mono (by decide)) (pa_cons (pv 0) (pa_cons (pe_def G_law_asks (hr.mono (by decide)) (pa_cons (pv 5) pa_nil)) pa_nil))))
    (Evl.pss_cut (ps_if (pt_cmpR op_eq (pe_ix (kix_tup (K := K)) (pv 8) pe_int (fun _ _ => rfl)) pe_str (nomark _))
      (pss_cons (ps_setLc (i := 9) (own := [("_law_tag", 10)]) rfl sc__law_past.nd rfl rfl (sw_true rfl rfl rfl (by decide +kernel)) (pi_range1 (by rfl) T.n_range (pa_cons (pv 2) pa_nil)) (blkOk_by (N := N__law_past) (sc := defScope s__law_past) (by decide +kernel)) (fun _ _ _ _ _ => (pg_name (i := 10) sc__law_past.nd rfl (Or.inl rfl))) (fun _ _ _ _ _ => (pts_one (pt_cmpR (kop_nin (K := K)) (pv 10) (pe_def G_law_bars (hr.mono (by decide)) (pa_cons (pv 1) (pa_cons (pv 5) (pa_cons (pe_ix (kix_tup (K := K)) (pv 8) pe_int (fun _ _ => rfl)) pa_nil)))) (by rfl)))) (fun _ _ _ _ _ => (pv 10)))
    (pss_cons (ps_set (i := 10) sc__law_past.nd rfl (Or.inl rfl) (pe_def G_law_draw (hr.mono (by decide)) (pa_cons (pv 0) (pa_cons (pv 2) pa_nil))))
    (Evl.pss_cut (ps_if (PW.pt (pw_and (pt_cmpR op_gt (pe_callB (kc_len (K := K)) (by rfl) T.n_len boot_len (pa_cons (pv 9) pa_nil)) pe_int (nomark _)) (pw_and1 (pt_cmpR op_gt (pe_def G_law_draw (hr.mono (by decide)) (pa_cons (pv 0) (pa_cons (pv 4) pa_nil))) pe_int (nomark _)))))
      (pss_one (ps_set (i := 10) sc__law_past.nd rfl (Or.inl rfl) (pe_def G_law_any (hr.mono (by decide)) (pa_cons (pv 0) (pa_cons (pv 9) pa_nil)))))
      pss_nil)
    (pss_one (ps_set (i := 8) sc__law_past.nd rfl (Or.inr rfl) (pe_op (kop_catA (K := K)) (pv 8) (pe_tup (pa_cons (pv 10) pa_nil))))))))
      pss_nil)
    (pss_one (ps_asg (pe_tup (pa_cons (pe_op (kop_catA (K := K)) (pv 6) (pe_tup (pa_cons (pv 8) pa_nil))) (pa_cons (pe_def G_law_done (hr.mono (by decide)) (pa_cons (pv 5) (pa_cons (pv 8) pa_nil))) pa_nil))) (kpg_tup (K := K) (n := 2) rfl (pgs_cons (pg_name (i := 6) sc__law_past.nd rfl (Or.inl rfl)) (pgs_cons (pg_name (i := 5) sc__law_past.nd rfl (Or.inr rfl)) pgs_nil))))))))
    (pss_one (ps_ret (pv 6))))), ?_⟩
  have ms1 := ok.some
  -- state, past = (start(parts), ())
  refine q_tup2 (K := K) (d1 := eS (List.replicate ms.length (false, []))) (d2 := .tup []) (ed_tup (ea_cons (ed_call (ea_cons (ed_var rfl r2) ea_nil) fun H1 _ => ⟨ms, ties, rfl, by omega, rfl⟩) (ea_cons (ed_tup ea_nil (by decide)) ea_nil)) (by show 2 ≤ 100000; decide)) fun v6 v7 H1 e1 r6 r7 => ?_
  refine q_forR1 (K := K) (n := m) (ea_cons (ed_var rfl (.int m)) ea_nil) (by omega) fun H2 e2 => ?_
  refine ⟨fun i σ H' => ∃ st past v6 v7 y8 y9 y10 y11, σ = [some (.ref h), some v2, some (.int k), some (.int m), some (.int c), some v6, some v7, y8, y9, y10, y11] ∧ Le H H' ∧ Rp K H' v6 (eS st) ∧ Rp K H' v7 (.tup (List.map eD past)) ∧ Run ms.length k past st ∧ past.length = i ∧ (i : Int) ≤ m,
    ⟨_, [], v6, v7, none, none, none, none, rfl, e1.trans e2, r6.le e2, r7.le e2, .nil, rfl, by omega⟩, ?_, ?_⟩
  · rintro i σ H3 hi ⟨st, past, v6, v7, y8, y9, y10, y11, rfl, e, r6, r7, run, hp, _⟩
    obtain ⟨sl, _, _⟩ := run.ok
    have sok := run.sok (by omega) (by omega)
    have hh3 := hh.le e
    -- deed = any(hand, asks(state))
    refine q_asg (K := K) (ep_any (K := K) (PX := fun xs => xs = (asksL st).map eA) hh3 (EA_weak (ep_cons (ed_var rfl (.obj (.ref h))) (ep_cons (ed_call (P := is (.lst ((asksL st).map eA))) (ea_cons (ed_var rfl r6) ea_nil) fun H4 _ => ⟨st, rfl, by omega, rfl⟩) ea_nil)) ?_) ?_) ?_
    · rintro ds H4 ⟨d1, r1, _, rfl, _, rfl, d2, r2, _, rfl, _, rfl, rfl⟩
      exact ⟨_, rfl, rfl⟩
    · rintro xs rfl
      refine ⟨fun e => asks_ne (st := st) (by omega) (List.map_eq_nil_iff.mp e), ?_⟩
      rw [List.length_map]
      have := asks_len (st := st)
      omega
    rintro v9 d H4 e4 ⟨xs, rfl, hd⟩ r9
    obtain ⟨⟨b, j⟩, ha, rfl⟩ := List.mem_map.mp hd
    obtain ⟨j1, j2⟩ := mem_asks ha
    dsimp only at j1 j2
    have hh4 := hh3.le e4
    -- if deed[0] == 'give'
    refine q_cut (M := fun σ H' => ∃ dd v9 y10 y11, σ = [some (.ref h), some v2, some (.int k), some (.int m), some (.int c), some v6, some v7, some (.int (i : Int)), some v9, y10, y11] ∧ Le H4 H' ∧ Rp K H' v9 (eD dd) ∧ dd.room = (j : Int) ∧ Run ms.length k (past ++ [dd]) (doneL st dd)) ?_ ?_
    · cases b with
      | true =>
        refine s_ifB (b := false) (eb_eq (et_test (K := K) (ed_eqS (d1 := .str "back") (d2 := .str "give") ?_ ed_str rfl rfl rfl)) (by decide +kernel)) (fun hb => nomatch hb) (fun _ H5 e5 => ?_)
        · exact ed_ixT (ds := [_, _]) (ed_var rfl r9) ed_int (by decide) rfl
        · exact ⟨.back (j : Int), v9, _, _, rfl, e5, r9.le e5, rfl, run.back (by omega) (by omega) j2⟩
      | false =>
        refine s_ifB (b := true) (eb_eq (et_test (K := K) (ed_eqS (d1 := .str "give") (d2 := .str "give") ?_ ed_str rfl rfl rfl)) (by decide +kernel)) (fun _ H5 e5 => ?_) (fun hb => nomatch hb)
        · exact ed_ixT (ds := [_, _]) (ed_var rfl r9) ed_int (by decide) rfl
        obtain ⟨n, rfl⟩ : ∃ n : Nat, k = (n : Int) := ⟨k.toNat, by omega⟩
        -- left
        refine q_asg (K := K) (ep_lcRS (n := n) (ea_cons (ed_var rfl (.int (n : Int))) ea_nil) (by omega) (fun _ => rfl) (fun t H6 e6 ht => ?_) (fun t H6 e6 ht => ed_var rfl (.int _))) ?_
        · refine et_testp (K := K) (ep_op (P1 := is (.int (t : Int))) (P2 := fun d _ => ∃ ns : List Int, d = .tup (ns.map .int)) (ed_var rfl (.int _)) ?_ ?_)
          · refine EP.weak (ed_call (K := K) (P := fun d _ => ∃ ns : List Int, d = .tup (ns.map .int) ∧ Bars ms ties st (j : Int) ns) (ea_cons (ed_var rfl (r2.le (((e.trans e4).trans e5).trans e6))) (ea_cons (ed_var rfl (r6.le ((e4.trans e5).trans e6))) (ea_cons (ed_ixT (ds := [_, _]) (ed_var rfl (r9.le (e5.trans e6))) ed_int (by decide) rfl) ea_nil))) fun H7 _ => ⟨ms, ties, st, _, rfl, ok, sok, by omega, h8, by omega, by omega, rfl⟩) fun d H7 _ ⟨ns, e, _⟩ => ⟨ns, e⟩
          · rintro x y d1 d2 H7 H8 _ _ rfl ⟨ns, rfl⟩ q1 q2 Q' q'
            obtain ⟨a, us, rfl, s, rr⟩ := rp_tup q2
            have ex := ints_rps rr
            subst ex
            rw [rp_int q1]
            exact ⟨a, _, rfl, .inr s, rfl, flat_ints ns, q' _ (.bl _) H8 (Le.refl _) ⟨_, rfl⟩ (.bl _)⟩
        rintro v10 d10 H6 e6 ⟨left, rfl, ll, hleft⟩ r10
        have hh6 := hh4.le (e5.trans e6)
        -- tag = draw(hand, k)
        refine q_asg (K := K) (ep_draw hh6 (ea_cons (ed_var rfl (.obj (.ref h))) (ea_cons (ed_var rfl (.int _)) ea_nil)) (by omega)) ?_
        rintro v11 d11 H7 e7 ⟨tag, rfl, t0, t1⟩ r11
        -- if .. tag = any(hand, left)
        refine q_cut (M := fun σ H' => ∃ (tag : Int), σ = [some (.ref h), some v2, some (.int (n : Int)), some (.int m), some (.int c), some v6, some v7, some (.int (i : Int)), some v9, some v10, some (.int tag)] ∧ Le H7 H' ∧ 0 ≤ tag ∧ tag < n) ?_ ?_
        · have ev := rp_int r11
          subst ev
          refine s_if (P := fun b => b = true → left ≠ []) (et_weak (et_and (P1 := fun b => b = decide (0 < (left.map D.int).length)) (P2 := fun _ => True) ?_ (fun _ => ?_)) ?_) (fun hl H8 e8 => ?_) (fun _ H8 e8 => ?_)
          · refine et_weak (et_test (K := K) (ed_B0 (f := fun i j => decide (j < i)) (ed_lenL (ed_var rfl (r10.le e7))) ed_int)) fun b hb => ?_
            rw [hb]
            simp
          · exact et_cmp (K := K) (EP.anyI (ep_draw (hh6.le e7) (ea_cons (ed_var rfl (.obj (.ref h))) (ea_cons (ed_var rfl (.int c)) ea_nil)) (by omega))) (EP.weak ed_int fun d _ _ p => ⟨_, p⟩)
          · rintro b (⟨rfl, h1, _⟩ | ⟨rfl, _⟩) hb
            · intro hn
              rw [hn] at h1
              simp at h1
            · cases hb
          · have hne := hl rfl
            refine s_asg (K := K) (ep_any (K := K) (PX := fun xs => xs = left.map D.int) ((hh6.le e7).le e8) (EA_weak (ea_cons (ed_var rfl (.obj (.ref h))) (ea_cons (ed_var rfl (r10.le (e7.trans e8))) ea_nil)) fun ds H9 p => ⟨_, p, rfl⟩) ?_) ?_
            · rintro xs rfl
              refine ⟨fun e => hne (List.map_eq_nil_iff.mp e), ?_⟩
              rw [List.length_map]
              omega
            · rintro v d H9 e9 ⟨xs, rfl, hd⟩ r
              obtain ⟨z, hz, rfl⟩ := List.mem_map.mp hd
              have ev := rp_int r
              subst ev
              have := hleft z hz
              exact ⟨z, rfl, e8.trans e9, this.1, this.2⟩
          · exact ⟨tag, rfl, e8, t0, t1⟩
        rintro σ H8 ⟨tag, rfl, e8, t0, t1⟩
        -- deed = deed + (tag,)
        refine s_asgD (K := K) (d := eD (.give (j : Int) tag)) (ed_catA (ds := [.str "give", .int (j : Int)]) (es := [.int tag]) (ed_var rfl (r9.le (((e5.trans e6).trans e7).trans e8))) (ed_tup (ea_cons (ed_var rfl (.int _)) ea_nil) (by show 1 ≤ 100000; decide)) (by show 2 + 1 ≤ 100000; decide)) fun v H9 e9 r => ?_
        exact ⟨.give (j : Int) tag, v, _, _, rfl, (((e5.trans e6).trans e7).trans e8).trans e9, r, rfl, run.give (by omega) (by omega) j2 t0 t1⟩
    rintro σ H5 ⟨dd, v9, y10, y11, rfl, e5, r9, hroom, run2⟩
    have e05 := (e4.trans e5)
    -- past, state = (past + (deed,), done(state, deed))
    refine s_tup2 (K := K) (d1 := .tup ((past ++ [dd]).map eD)) (d2 := eS (doneL st dd)) (ed_tup (ea_cons (ed_eq (ed_catA (ds := past.map eD) (es := [eD dd]) (ed_var rfl (r7.le e05)) (ed_tup (ea_cons (ed_var rfl r9) ea_nil) (by show 1 ≤ 100000; decide)) ?_) ?_)
      (ea_cons (EFD.ed (ef_call (ea_cons (ed_var rfl (r6.le e05)) (ea_cons (ed_var rfl r9) ea_nil)) fun H6 _ => ⟨st, dd, rfl, sok, by omega, by omega, rfl⟩)) ea_nil)) (by show 2 ≤ 100000; decide)) fun w1 w2 H6 e6 q1 q2 => ?_
    · rw [List.length_map]
      show past.length + 1 ≤ 100000
      omega
    · rw [List.map_append]
      rfl
    · exact ⟨doneL st dd, past ++ [dd], w2, w1, _, _, _, _, rfl, ((e.trans e05).trans e6), q2, q1, run2, by rw [List.length_append, hp]; rfl, by omega⟩
  · rintro σ H3 ⟨st, past, v6, v7, y8, y9, y10, y11, rfl, e, r6, r7, run, hp, _⟩
    refine s_retD (ed_var rfl r7) fun v H4 e4 r8 => q v _ H4 (e.trans e4) ⟨past, st, rfl, run, by omega⟩ r8
end
end W1

set_option maxRecDepth 100000
set_option maxHeartbeats 4000000
namespace W1
open PySem PyProof.Rows L2
local macro_rules | `(tactic| walk_at "rp") => `(tactic| first | assumption | exact Rp.int _ | exact Rp.bl _ | exact Rp.str _ | exact Rp.non | exact Rp.obj _ | (refine Rp.le (by assumption) ?_; walk_at "rp"))
local macro_rules | `(tactic| walk_at "ed") => `(tactic| first
  | exact ed_int | exact ed_str | exact ed_bl | exact ed_non
  | (refine ed_var rfl ?_; walk_at "rp")
  | (refine ed_ixT (ds := [_, _]) ?_ ed_int (by decide) rfl; walk_at "ed")
  | (refine ed_I0 ?_ ?_ <;> walk_at "ed")
  | (refine ed_B0 ?_ ?_ <;> walk_at "ed")
  | (refine ed_eqS ?_ ?_ rfl rfl rfl <;> walk_at "ed")
  | assumption)
local macro_rules | `(tactic| walk_at "ea") => `(tactic| first | exact ea_nil | (refine ea_cons ?_ ?_; walk_at "ed"; walk_at "ea"))

abbrev s_is_integer : Stmt := topS 8
abbrev N_is_integer : List Str := ["thing"]
theorem sc_is_integer : FnScope N_is_integer ["thing"] (defScope s_is_integer) := ⟨rfl, rfl, rfl, by decide +kernel, rfl, by decide +kernel, by decide +kernel⟩
abbrev s_is_between : Stmt := topS 10
abbrev N_is_between : List Str := ["least", "most", "thing"]
theorem sc_is_between : FnScope N_is_between ["least", "most", "thing"] (defScope s_is_between) := ⟨rfl, rfl, rfl, by decide +kernel, rfl, by decide +kernel, by decide +kernel⟩
abbrev s_check_memories : Stmt := topS 16
abbrev N_check_memories : List Str := ["memories", "memory"]
theorem sc_check_memories : FnScope N_check_memories ["memories"] (defScope s_check_memories) := ⟨rfl, rfl, rfl, by decide +kernel, rfl, by decide +kernel, by decide +kernel⟩
abbrev s_is_tie : Stmt := topS 18
abbrev N_is_tie : List Str := ["many", "thing", "room"]
theorem sc_is_tie : FnScope N_is_tie ["many", "thing"] (defScope s_is_tie) := ⟨rfl, rfl, rfl, by decide +kernel, rfl, by decide +kernel, by decide +kernel⟩
abbrev s_check_ties : Stmt := topS 17
abbrev N_check_ties : List Str := ["many", "ties", "at", "tie"]
theorem sc_check_ties : FnScope N_check_ties ["many", "ties"] (defScope s_check_ties) := ⟨rfl, rfl, rfl, by decide +kernel, rfl, by decide +kernel, by decide +kernel⟩
structure GTxt (mg : Str → Option Value) : Prop extends Txt mg where
  g_rooms : ∃ u, mg "MOST_ROOMS" = some u ∧ RelV (.int 60) u
  g_memory : ∃ u, mg "MOST_MEMORY" = some u ∧ RelV (.int 30) u
section
variable {P : Program} {w : World} {K : PySem.W.Frag} {mg : Str → Option Value} {base : Heap}
def R_isint : List D → Hp → Pd → Prop := fun ds H P => ∃ d, ds = [d] ∧ Tk H d ∧ P = is (.bl (isI d))
theorem ok_isint (T : Txt mg) (g : GDef K mg "is_integer" s_is_integer ["thing"]) : Def P w K mg base 1 "is_integer" ["thing"] (spD K R_isint) := by
  refine defD g sc_is_integer (fun ds H Pd h => ?_) fun cdv A outer s f H vs ds Pd Q E hr r h q => ?_
  · obtain ⟨d, rfl, _⟩ := h
    rfl
  obtain ⟨d, rfl, hn, rfl⟩ := h
  obtain ⟨v1, rfl, r1⟩ := rps1 r
  refine ⟨_, (pss_one (ps_ret (pe_and (pe_callB (kc_isi (K := K)) (by rfl) T.n_isinstance boot_isinstance (pa_cons (pv 0) (pa_cons (pe_bltn (v := V.ty "int") (by rfl) T.n_int boot_int rfl) pa_nil))) (pe_one (pe_not (pe_callB (kc_isi (K := K)) (by rfl) T.n_isinstance boot_isinstance (pa_cons (pv 0) (pa_cons (pe_bltn (v := V.ty "bool") (by rfl) T.n_bool boot_bool rfl) pa_nil)))))))), ?_⟩
  refine s_retD (ed_eq (ed_andV (ed_isInt (ed_var rfl r1) hn) fun _ => ed_notV (ed_isBool (ed_var rfl r1) hn)) ?_) fun v H1 e1 r => q v _ H1 e1 rfl r
  cases d <;> rfl
def R_btw : List D → Hp → Pd → Prop := fun ds H P => ∃ l m d, ds = [.int l, .int m, d] ∧ Tk H d ∧ P = is (.bl (btw l m d))
theorem ok_btw (T : Txt mg) (g : GDef K mg "is_between" s_is_between ["least", "most", "thing"]) (Gis_integer : Def P w K mg base 1 "is_integer" ["thing"] (spD K R_isint)) : Def P w K mg base 2 "is_between" ["least", "most", "thing"] (spD K R_btw) := by
  refine defD g sc_is_between (fun ds H Pd h => ?_) fun cdv A outer s f H vs ds Pd Q E hr r h q => ?_
  · obtain ⟨l, m, d, rfl, _⟩ := h
    rfl
  obtain ⟨l, m, d, rfl, hn, rfl⟩ := h
  obtain ⟨v1, v2, v3, rfl, r1, r2, r3⟩ := rps3 r
  refine ⟨_, (pss_one (ps_ret (pe_and (pe_def Gis_integer (hr.mono (by decide)) (pa_cons (pv 2) pa_nil)) (pe_one (pe_chain op_le op_le (pv 0) (pv 2) (pv 1)))))), ?_⟩
  have hc : ED K (tCall (spD K R_isint) [] E0 (tCons (tVar 2) tNil)) [some v1, some v2, some v3] H (.bl (isI d)) := ed_call (ea_cons (ed_var rfl r3) ea_nil) fun H1 e => ⟨d, rfl, hn.le e, rfl⟩
  have fin : isI d = false → btw l m d = false := fun h => by
    cases d <;> first | rfl | cases h
  cases hi : isI d with
  | false =>
    rw [hi] at hc
    refine s_retD (ed_andV (b := true) hc fun h => nomatch h) fun v H1 e1 r => q v _ H1 e1 (by rw [fin hi]; rfl) r
  | true =>
    rw [hi] at hc
    obtain ⟨i, rfl⟩ : ∃ i, d = .int i := by
      cases d with
      | int i => exact ⟨i, rfl⟩
      | _ => cases hi
    refine s_retD (ed_andV hc fun _ => ed_chain (f := fun i j => decide (i ≤ j)) (g := fun i j => decide (i ≤ j)) (ed_var rfl r1) (ed_var rfl r3) (ed_var rfl r2)) fun v H1 e1 r => q v _ H1 e1 rfl r
/-- a call of is_between -/
theorem ed_btw {σ : L2.St} {H : Hp} {ta tb tc : TE} {E : XK} {l m : Int} {d : D} (ha : ED K ta σ H (.int l)) (hb : ED K tb σ H (.int m)) (hc : ED K tc σ H d) (hn : noObj d = true) : ED K (tCall (spD K R_btw) [] E (tCons ta (tCons tb (tCons tc tNil)))) σ H (.bl (btw l m d)) :=
  ed_call (ea_cons ha (ea_cons hb (ea_cons hc ea_nil))) fun H1 _ => ⟨l, m, d, rfl, .inl hn, rfl⟩
theorem ed_btwK {σ : L2.St} {H : Hp} {ta tb tc : TE} {E : XK} {l m : Int} {d : D} (ha : ED K ta σ H (.int l)) (hb : ED K tb σ H (.int m)) (hc : ED K tc σ H d) (hn : Tk H d) : ED K (tCall (spD K R_btw) [] E (tCons ta (tCons tb (tCons tc tNil)))) σ H (.bl (btw l m d)) :=
  ed_call (ea_cons ha (ea_cons hb (ea_cons hc ea_nil))) fun H1 e => ⟨l, m, d, rfl, hn.le e, rfl⟩
theorem all_true {α : Type} {f : α → Bool} : ∀ {xs : List α}, (∀ x ∈ xs, f x = true) → ((xs.map f).all id) = true
  | [], _ => rfl
  | x :: xs, h => by
    rw [List.map_cons, List.all_cons, all_true fun y hy => h y (List.mem_cons_of_mem _ hy)]
    simp [h x (List.mem_cons_self ..)]
def R_cmem : List D → Hp → Pd → Prop := fun ds _ P => ∃ ms : List Int, ds = [.tup (ms.map .int)] ∧ 1 ≤ ms.length ∧ ms.length ≤ 60 ∧ (∀ m ∈ ms, 0 ≤ m ∧ m ≤ 30) ∧ P = is .non
theorem ok_cmem (T : GTxt mg) (g : GDef K mg "check_memories" s_check_memories ["memories"]) (Gis_between : Def P w K mg base 2 "is_between" ["least", "most", "thing"] (spD K R_btw)) : Def P w K mg base 3 "check_memories" ["memories"] (spD K R_cmem) := by
  refine defD g sc_check_memories (fun ds H Pd h => ?_) fun cdv A outer s f H vs ds Pd Q E hr r h q => ?_
  · obtain ⟨ms, rfl, _⟩ := h
    rfl
  obtain ⟨ms, rfl, h1, h2, hm, rfl⟩ := h
  obtain ⟨v1, rfl, r1⟩ := rps1 r
  refine ⟨_, (pss_cons (ps_if (PW.pt (pw_or (pt_not (pt_val (pe_callB (kc_isi (K := K)) (by rfl) T.n_isinstance boot_isinstance (pa_cons (pv 0) (pa_cons (pe_bltn (v := V.ty "tuple") (by rfl) T.n_tuple boot_tuple rfl) pa_nil))))) (pw_or1 (pt_not (pt_val (pe_def Gis_between (hr.mono (by decide)) (pa_cons pe_int (pa_cons (pe_gl T.g_rooms) (pa_cons (pe_callB (kc_len (K := K)) (by rfl) T.n_len boot_len (pa_cons (pv 0) pa_nil)) pa_nil)))))))))
      (pss_one ps_never)
      pss_nil)
    (pss_one (ps_if (pt_not (pt_val (pe_callB (kc_all (K := K) rfl) (by rfl) T.n_all boot_all (pa_cons (pe_lc (own := [("memory", 1)]) rfl sc_check_memories.nd (kpi_tup (K := K) (pv 0)) (blkOk_by (N := N_check_memories) (sc := defScope s_check_memories) (by decide +kernel)) (fun _ _ _ _ _ => (pg_name (i := 1) sc_check_memories.nd rfl (Or.inl rfl))) (fun _ _ _ _ _ => pts_nil) (fun _ _ _ _ _ => (pe_def Gis_between (hr.mono (by decide)) (pa_cons pe_int (pa_cons (pe_gl T.g_memory) (pa_cons (pv 1) pa_nil)))))) pa_nil))))
      (pss_one ps_never)
      pss_nil))), ?_⟩
  refine q_no (eb_or (eb_not (et_B (ed_isi (d := .tup (ms.map .int)) (ed_var rfl r1) (noObj_ne rfl) (kit_tup rfl)))) fun _ => eb_not (et_B (ed_btw ed_int ed_int (ed_lenT (ed_var rfl r1)) rfl))) ?_ fun H1 e1 => ?_
  · have e : btw 1 60 (.int (((ms.map D.int).length : Nat) : Int)) = true := by
      rw [List.length_map]
      show (decide _ && decide _) = true
      rw [decide_eq_true (by omega), decide_eq_true (by omega)]
      rfl
    rw [e]
    rfl
  refine s_no (eb_not (et_B (ed_all (bs := ms.map fun m => btw 0 30 (.int m)) (ed_eq (ed_lcT enc_bl (encS := .int) ms (fun _ => true) (fun m => btw 0 30 (.int m)) (ed_var rfl (r1.le e1)) (by omega) (fun _ => rfl) (fun b v H2 e hb r => et_yes) fun b v H2 e hb r _ => ed_btw ed_int ed_int (ed_var rfl r) rfl) ?_)))) ?_ fun H2 e2 => q _ .non H2 (e1.trans e2) rfl .non
  · rw [List.filter_eq_self.mpr (fun _ _ => rfl)]
  · rw [all_true]
    · rfl
    · intro m hm2
      have := hm m hm2
      show (decide _ && decide _) = true
      rw [decide_eq_true (by omega), decide_eq_true (by omega)]
      rfl
def R_istie : List D → Hp → Pd → Prop := fun ds _ P => ∃ n p, ds = [.int n, eP p] ∧ 0 ≤ p.1 ∧ p.1 < p.2 ∧ p.2 < n ∧ P = is (.bl true)
theorem ok_istie (T : Txt mg) (g : GDef K mg "is_tie" s_is_tie ["many", "thing"]) (Gis_between : Def P w K mg base 2 "is_between" ["least", "most", "thing"] (spD K R_btw)) : Def P w K mg base 3 "is_tie" ["many", "thing"] (spD K R_istie) := by
  refine defD g sc_is_tie (fun ds H Pd h => ?_) fun cdv A outer s f H vs ds Pd Q E hr r h q => ?_
  · obtain ⟨n, p, rfl, _⟩ := h
    rfl
  obtain ⟨n, p, rfl, h1, h2, h3, rfl⟩ := h
  obtain ⟨v1, v2, rfl, r1, r2⟩ := rps2 r
  refine ⟨_, (pss_cons (ps_if (PW.pt (pw_or (pt_not (pt_val (pe_callB (kc_isi (K := K)) (by rfl) T.n_isinstance boot_isinstance (pa_cons (pv 1) (pa_cons (pe_bltn (v := V.ty "tuple") (by rfl) T.n_tuple boot_tuple rfl) pa_nil))))) (pw_or1 (pt_cmpR op_ne (pe_callB (kc_len (K := K)) (by rfl) T.n_len boot_len (pa_cons (pv 1) pa_nil)) pe_int (nomark _)))))
      (pss_one (ps_ret pe_bl))
      pss_nil)
    (pss_cons (ps_if (pt_not (pt_val (pe_callB (kc_all (K := K) rfl) (by rfl) T.n_all boot_all (pa_cons (pe_lc (own := [("room", 2)]) rfl sc_is_tie.nd (kpi_tup (K := K) (pv 1)) (blkOk_by (N := N_is_tie) (sc := defScope s_is_tie) (by decide +kernel)) (fun _ _ _ _ _ => (pg_name (i := 2) sc_is_tie.nd rfl (Or.inl rfl))) (fun _ _ _ _ _ => pts_nil) (fun _ _ _ _ _ => (pe_def Gis_between (hr.mono (by decide)) (pa_cons pe_int (pa_cons (pe_op op_sub (pv 0) pe_int) (pa_cons (pv 2) pa_nil)))))) pa_nil))))
      (pss_one (ps_ret pe_bl))
      pss_nil)
    (pss_one (ps_ret (pe_cmpR op_lt (pe_ix (kix_tup (K := K)) (pv 1) pe_int (fun _ _ => rfl)) (pe_ix (kix_tup (K := K)) (pv 1) pe_int (fun _ _ => rfl)) (nomark _)))))), ?_⟩
  refine q_no (eb_or (eb_not (et_B (ed_isi (d := eP p) (ed_var rfl r2) (noObj_ne rfl) (kit_tup rfl)))) fun _ => et_test (ed_neS (d2 := .int 2) (ed_lenT (ds := [_, _]) (ed_var rfl r2)) ed_int rfl rfl rfl)) (by show (!true || !decide _) = false; simp [vOf]) fun H1 e1 => ?_
  refine q_no (eb_not (et_B (ed_all (bs := [p.1, p.2].map fun m => btw 0 (n - 1) (.int m)) (ed_eq (ed_lcT enc_bl (encS := .int) [p.1, p.2] (fun _ => true) (fun m => btw 0 (n - 1) (.int m)) (ed_var rfl (r2.le e1)) (by show 2 ≤ 50000; decide) (fun _ => rfl) (fun b v H2 e hb r => et_yes) fun b v H2 e hb r _ => ed_btw ed_int (ed_I0 (f := fun i j => i - j) (ed_var rfl (r1.le (e1.trans e))) ed_int) (ed_var rfl r) rfl) ?_)))) ?_ fun H2 e2 => ?_
  · rw [List.filter_eq_self.mpr (fun _ _ => rfl)]
  · rw [all_true]
    · rfl
    · intro m hm2
      simp only [List.mem_cons, List.not_mem_nil, or_false] at hm2
      show (decide _ && decide _) = true
      rcases hm2 with rfl | rfl
      · rw [decide_eq_true (by omega), decide_eq_true (by omega)]
        rfl
      · rw [decide_eq_true (by omega), decide_eq_true (by omega)]
        rfl
  · have r2' := r2.le (e1.trans e2)
    refine s_retD (ed_eq (ed_B0 (f := fun i j => decide (i < j)) (i := p.1) (j := p.2) (ed_ixT (ds := [_, _]) (ed_var rfl r2') ed_int (by decide) rfl) (ed_ixT (ds := [_, _]) (ed_var rfl r2') ed_int (by decide) rfl)) ?_) fun v H3 e3 r => q v _ H3 ((e1.trans e2).trans e3) rfl r
    rw [decide_eq_true h2]
end
end W1

set_option maxRecDepth 100000
set_option maxHeartbeats 4000000
namespace W1
open PySem PyProof.Rows L2
local macro_rules | `(tactic| walk_at "rp") => `(tactic| first | assumption | exact Rp.int _ | exact Rp.bl _ | exact Rp.str _ | exact Rp.non | exact Rp.obj _ | (refine Rp.le (by assumption) ?_; walk_at "rp"))
local macro_rules | `(tactic| walk_at "ed") => `(tactic| first
  | exact ed_int | exact ed_str | exact ed_bl | exact ed_non
  | (refine ed_var rfl ?_; walk_at "rp")
  | (refine ed_ixT (ds := [_, _]) ?_ ed_int (by decide) rfl; walk_at "ed")
  | (refine ed_I0 ?_ ?_ <;> walk_at "ed")
  | (refine ed_B0 ?_ ?_ <;> walk_at "ed")
  | (refine ed_eqS ?_ ?_ rfl rfl rfl <;> walk_at "ed")
  | assumption)
local macro_rules | `(tactic| walk_at "ea") => `(tactic| first | exact ea_nil | (refine ea_cons ?_ ?_; walk_at "ed"; walk_at "ea"))

abbrev s_near_lots : Stmt := topS 19
abbrev N_near_lots : List Str := ["many", "ties", "near", "one", "other", "_", "rooms"]
theorem sc_near_lots : FnScope N_near_lots ["many", "ties"] (defScope s_near_lots) := ⟨rfl, rfl, rfl, by decide +kernel, rfl, by decide +kernel, by decide +kernel⟩
/-! ### the ties ascend -/
def ltP (p q : Int × Int) : Prop := p.1 < q.1 ∨ (p.1 = q.1 ∧ p.2 < q.2)
theorem pairs_row (n : Nat) (i : Nat) : ((List.range ((n : Int) - ((i : Int) + 1)).toNat).map fun j : Nat => ((i : Int), (i : Int) + 1 + (j : Int))).Pairwise ltP := by
  rw [List.pairwise_map]
  exact (List.pairwise_lt_range).imp fun {a b} h => .inr ⟨rfl, by dsimp only; omega⟩
theorem pairs_up (n : Nat) : ∀ m : Nat, ((List.range m).flatMap fun i : Nat => (List.range ((n : Int) - ((i : Int) + 1)).toNat).map fun j : Nat => ((i : Int), (i : Int) + 1 + (j : Int))).Pairwise ltP
  | 0 => by simp
  | m + 1 => by
    rw [List.range_succ, List.flatMap_append, List.pairwise_append]
    refine ⟨pairs_up n m, ?_, fun a ha b hb => ?_⟩
    · rw [List.flatMap_cons, List.flatMap_nil, List.append_nil]
      exact pairs_row n m
    · rw [List.flatMap_cons, List.flatMap_nil, List.append_nil] at hb
      obtain ⟨i, hi, ha⟩ := List.mem_flatMap.mp ha
      obtain ⟨j, _, rfl⟩ := List.mem_map.mp ha
      obtain ⟨l, _, rfl⟩ := List.mem_map.mp hb
      have := List.mem_range.mp hi
      exact .inl (by dsimp only; omega)
theorem PartsOk.up {ms : List Int} {ties : List (Int × Int)} (ok : PartsOk ms ties) : ties.Pairwise ltP := (pairs_up ms.length ms.length).sublist ok.sub
theorem PartsOk.tie {ms : List Int} {ties : List (Int × Int)} (ok : PartsOk ms ties) {p : Int × Int} (h : p ∈ ties) : 0 ≤ p.1 ∧ p.1 < p.2 ∧ p.2 < ms.length := mem_pairsL.mp (ok.sub.subset h)
section
variable {P : Program} {w : World} {K : PySem.W.Frag} {mg : Str → Option Value} {base : Heap}
theorem ed_leP {σ : L2.St} {H : Hp} {ta tb : TE} {p q : Int × Int} (ha : ED K ta σ H (eP p)) (hb : ED K tb σ H (eP q)) (h : ltP q p) : ED K (tOp (rLeT K) ta tb) σ H (.bl false) :=
  ed_op ha hb fun x y H2 _ r1 r2 Q q' => by
    obtain ⟨a, xs, rfl, s, rr⟩ := rp_tup r1
    obtain ⟨b, ys, rfl, s2, rr2⟩ := rp_tup r2
    have e1 := ints_rps (ns := [p.1, p.2]) rr
    have e2 := ints_rps (ns := [q.1, q.2]) rr2
    subst e1 e2
    refine ⟨a, b, [p.1, p.2], [q.1, q.2], rfl, rfl, s, s2, ?_⟩
    have e : Ob.lexAt (fun j => decide ([p.1, p.2].getD j 0 = [q.1, q.2].getD j 0)) (fun j => decide ([p.1, p.2].getD j 0 ≤ [q.1, q.2].getD j 0)) (decide ([p.1, p.2].length ≤ [q.1, q.2].length)) 0 (min [p.1, p.2].length [q.1, q.2].length) = false := by
      show (if decide (p.1 = q.1) = true then (if decide (p.2 = q.2) = true then _ else decide (p.2 ≤ q.2)) else decide (p.1 ≤ q.1)) = false
      rcases h with h | ⟨h, h2⟩
      · rw [if_neg (by simp; omega)]
        exact decide_eq_false (by omega)
      · rw [if_pos (by simp; omega), if_neg (by simp; omega)]
        exact decide_eq_false (by omega)
    rw [e]
    exact q' _ _ H2 (Le.refl _) rfl (.bl _)
def R_cties : List D → Hp → Pd → Prop := fun ds _ P => ∃ ms ties, ds = [.int ((ms : List Int).length : Int), .tup (ties.map eP)] ∧ PartsOk ms ties ∧ P = is .non
theorem ok_cties (T : GTxt mg) (g : GDef K mg "check_ties" s_check_ties ["many", "ties"]) (Gis_tie : Def P w K mg base 3 "is_tie" ["many", "thing"] (spD K R_istie)) : Def P w K mg base 4 "check_ties" ["many", "ties"] (spD K R_cties) := by
  refine defD g sc_check_ties (fun ds H Pd h => ?_) fun cdv A outer s f H vs ds Pd Q E hr r h q => ?_
  · obtain ⟨ms, ties, rfl, _⟩ := h
    rfl
  obtain ⟨ms, ties, rfl, ok, rfl⟩ := h
  obtain ⟨v1, v2, rfl, r1, r2⟩ := rps2 r
  refine ⟨_, (pss_cons (ps_if (pt_not (pt_val (pe_callB (kc_isi (K := K)) (by rfl) T.n_isinstance boot_isinstance (pa_cons (pv 1) (pa_cons (pe_bltn (v := V.ty "tuple") (by rfl) T.n_tuple boot_tuple rfl) pa_nil)))))
      (pss_one ps_never)
      pss_nil)
    (pss_one (ps_for PassesOwn.never rfl (kpi_enumT (K := K) (by rfl) T.n_enumerate (pa_cons (pv 1) pa_nil)) (kpg_tup (K := K) (n := 2) rfl (pgs_cons (pg_name (i := 2) sc_check_ties.nd rfl (Or.inl rfl)) (pgs_cons (pg_name (i := 3) sc_check_ties.nd rfl (Or.inl rfl)) pgs_nil)))
      (pss_cons (ps_if (pt_not (pt_val (pe_def Gis_tie (hr.mono (by decide)) (pa_cons (pv 0) (pa_cons (pv 3) pa_nil)))))
      (pss_one ps_never)
      pss_nil)
    (pss_one (ps_if (PW.pt (pw_and (pt_cmpR op_gt (pv 2) pe_int (nomark _)) (pw_and1 (pt_cmpR (kop_leT (K := K) hr.units0) (pv 3) (pe_ix (kix_tup (K := K)) (pv 1) (pe_op op_sub (pv 2) pe_int) (fun _ _ => rfl)) (nomark _)))))
      (pss_one ps_never)
      pss_nil)))))), ?_⟩
  refine q_no (eb_not (et_B (ed_isi (d := .tup (ties.map eP)) (ed_var rfl r2) (noObj_ne rfl) (kit_tup rfl)))) rfl fun H1 e1 => ?_
  refine s_forE (K := K) (ds := ties.map eP) (ea_cons (ed_var rfl (r2.le e1)) ea_nil) (enc_P.nl _) fun H2 e2 => ?_
  refine ⟨fun i σ H' => ∃ y1 y2, σ = [some v1, some v2, y1, y2] ∧ Le H2 H', ⟨none, none, rfl, Le.refl _⟩, fun i σ H' _ ⟨_, _, _, e⟩ => e.t, ?_, ?_⟩
  · rintro i d v σ' H' H3 hd ⟨y1, y2, rfl, e⟩ e3 rv
    obtain ⟨p, hp, rfl⟩ := map_at hd
    obtain ⟨h1, h2, h3⟩ := ok.tie (List.mem_of_getElem? hp)
    have hil : i < ties.length := (List.getElem?_eq_some_iff.mp hp).1
    refine ⟨rfl, ?_⟩
    have e03 := ((e1.trans e2).trans e).trans e3
    refine q_no (eb_not (et_B (K := K) (b := true) (ed_call (ea_cons (ed_var rfl (r1.le e03)) (ea_cons (ed_var rfl rv) ea_nil)) fun H4 _ => ⟨_, p, rfl, h1, h2, h3, rfl⟩))) rfl fun H4 e4 => ?_
    refine s_no (eb_and (b := false) (et_test (K := K) (ed_B0 (f := fun i j => decide (j < i)) (ed_var rfl (.int (i : Int))) ed_int)) fun hi => ?_) (Bool.and_false _) fun H5 e5 => ⟨_, _, rfl, ((e.trans e3).trans e4).trans e5⟩
    have hi2 : 0 < i := by
      have := of_decide_eq_true hi
      omega
    obtain ⟨p0, hp0⟩ : ∃ p0, ties[i - 1]? = some p0 := ⟨ties[i - 1], List.getElem?_eq_getElem (by omega)⟩
    have hlt : ltP p0 p := by
      have h := List.pairwise_iff_getElem.mp ok.up (i - 1) i (by omega) hil (by omega)
      rw [List.getElem?_eq_getElem (by omega)] at hp0
      rw [List.getElem?_eq_getElem hil] at hp
      rw [Option.some.inj hp0, Option.some.inj hp] at h
      exact h
    refine et_test (K := K) (ed_leP (p := p) (q := p0) (ed_var rfl (rv.le e4)) (ed_ixT (ds := ties.map eP) (ed_var rfl (r2.le (e03.trans e4))) (ed_I0 (f := fun i j => i - j) (ed_var rfl (.int (i : Int))) ed_int) (by omega) ?_) hlt)
    have en : ((i : Int) - 1).toNat = i - 1 := by omega
    rw [en]
    exact map_get hp0
  · rintro σ' H' ⟨y1, y2, rfl, e⟩
    exact q _ .non H' ((e1.trans e2).trans e) rfl .non
end
end W1

set_option maxRecDepth 100000
set_option maxHeartbeats 4000000
namespace W1
open PySem PyProof.Rows L2
local macro_rules | `(tactic| walk_at "rp") => `(tactic| first | assumption | exact Rp.int _ | exact Rp.bl _ | exact Rp.str _ | exact Rp.non | exact Rp.obj _ | (refine Rp.le (by assumption) ?_; walk_at "rp"))
local macro_rules | `(tactic| walk_at "ed") => `(tactic| first
  | exact ed_int | exact ed_str | exact ed_bl | exact ed_non
  | (refine ed_var rfl ?_; walk_at "rp")
  | (refine ed_ixT (ds := [_, _]) ?_ ed_int (by decide) rfl; walk_at "ed")
  | (refine ed_I0 ?_ ?_ <;> walk_at "ed")
  | (refine ed_B0 ?_ ?_ <;> walk_at "ed")
  | (refine ed_eqS ?_ ?_ rfl rfl rfl <;> walk_at "ed")
  | assumption)
local macro_rules | `(tactic| walk_at "ea") => `(tactic| first | exact ea_nil | (refine ea_cons ?_ ?_; walk_at "ed"; walk_at "ea"))

/-- a list of lists of ints, each a list of its own -/
structure Rows (H : Hp) (L : Addr) (as : List Addr) (f : Nat → List Int) (H0 : Hp) : Prop where
  top : H L = some (.lst (as.map V.ref))
  row : ∀ (i : Nat) a, as[i]? = some a → H a = some (.lst ((f i).map V.int))
  new : ∀ a ∈ as, H0 a = none
  nd : as.Nodup
  nL : L ∉ as
  nL0 : H0 L = none
  le : Le H0 H
theorem notH_refs (as : List Addr) : NotH (as.map V.ref) := notH_of fun v hv i e => by
  rw [List.getElem?_map] at hv
  cases h : as[1]? with
  | none =>
    rw [h] at hv
    cases hv
  | some a =>
    rw [h] at hv
    have := Option.some.inj hv
    rw [e] at this
    cases this
theorem Rows.le2 {H H' H0 : Hp} {L : Addr} {as : List Addr} {f : Nat → List Int} (r : Rows H L as f H0) (e : Le H H') : Rows H' L as f H0 :=
  ⟨e.lst r.top (notH_refs as), fun i a h => e.lst (r.row i a h) (notH_ints _), r.new, r.nd, r.nL, r.nL0, r.le.trans e⟩
theorem Rows.put {H H0 : Hp} {L a : Addr} {as : List Addr} {f : Nat → List Int} {i : Nat} {z : Int} (r : Rows H L as f H0) (h : as[i]? = some a) :
    Rows (upd H a (.lst ((f i).map V.int ++ [.int z]))) L as (fun j => if j = i then f i ++ [z] else f j) H0 := by
  have hm := List.mem_of_getElem? h
  have ne : L ≠ a := fun e => r.nL (e ▸ hm)
  refine ⟨by rw [upd_ne ne]; exact r.top, fun j b hb => ?_, r.new, r.nd, r.nL, r.nL0, r.le.mut (r.new a hm)⟩
  by_cases hj : j = i
  · subst hj
    cases hb.symm.trans h
    rw [if_pos rfl, upd_same, List.map_append]
    rfl
  · have nb : b ≠ a := fun e => hj (nd_ix r.nd hb (e ▸ h))
    rw [if_neg hj, upd_ne nb]
    exact r.row j b hb
theorem Rows.leT {H H' H0 : Hp} {L : Addr} {as : List Addr} {f f' : Nat → List Int} (r : Rows H L as f H0) (r' : Rows H' L as f' H0) : Le H0 H' := r'.le
section
variable {P : Program} {w : World} {K : PySem.W.Frag} {mg : Str → Option Value} {base : Heap}
theorem raw_more {l : List (Int × Int)} {p : Int × Int} {i : Int} : rawNear (l ++ [p]) i = rawNear l i ++ (if i ∈ [p.1, p.2] then [p.1 + p.2 - i] else []) := by
  unfold rawNear
  rw [List.filter_append, List.map_append]
  congr 1
  by_cases h : i ∈ [p.1, p.2]
  · rw [if_pos h, List.filter_cons, if_pos (decide_eq_true h)]
    rfl
  · rw [if_neg h, List.filter_cons, if_neg (by rw [decide_eq_false h]; exact Bool.false_ne_true)]
    rfl
def nearD (ms : List Int) (ties : List (Int × Int)) : D := .tup ((List.range ms.length).map fun i : Nat => .tup ((rawNear ties (i : Int)).map .int))
def R_nlots : List D → Hp → Pd → Prop := fun ds _ P => ∃ ms ties, ds = [.int ((ms : List Int).length : Int), .tup (ties.map eP)] ∧ PartsOk ms ties ∧ P = is (nearD ms ties)
theorem ok_nlots (T : GTxt mg) (g : GDef K mg "near_lots" s_near_lots ["many", "ties"]) : Def P w K mg base 1 "near_lots" ["many", "ties"] (spD K R_nlots) := by
  refine defD g sc_near_lots (fun ds H Pd h => ?_) fun cdv A outer s f H vs ds Pd Q E hr r h q => ?_
  · obtain ⟨ms, ties, rfl, _⟩ := h
    rfl
  obtain ⟨ms, ties, rfl, ok, rfl⟩ := h
  obtain ⟨v1, v2, rfl, r1, r2⟩ := rps2 r
  have hv1 := rp_int r1
  subst hv1
  generalize hn : ms.length = n at *
  have n60 : n ≤ 60 := by rw [← hn]; exact ok.few
  refine ⟨_, (pss_cons (ps_setLc (i := 2) (own := [("_", 5)]) rfl sc_near_lots.nd rfl rfl (sw_true rfl rfl rfl (by decide +kernel)) (pi_range1 (by rfl) T.n_range (pa_cons (pv 0) pa_nil)) (blkOk_by (N := N_near_lots) (sc := defScope s_near_lots) (by decide +kernel)) (fun _ _ _ _ _ => (pg_name (i := 5) sc_near_lots.nd rfl (Or.inl rfl))) (fun _ _ _ _ _ => pts_nil) (fun _ _ _ _ _ => (pe_lst pa_nil)))
    (pss_cons (ps_for PassesOwn.never rfl (kpi_tup (K := K) (pv 1)) (kpg_tup (K := K) (n := 2) rfl (pgs_cons (pg_name (i := 3) sc_near_lots.nd rfl (Or.inl rfl)) (pgs_cons (pg_name (i := 4) sc_near_lots.nd rfl (Or.inl rfl)) pgs_nil)))
      (pss_cons (ps_expr (pe_bm PySem.F.plainAttrs_list PySem.F.slot_list_append PySem.F.type_list_append mt_append (pe_ix (kix_list (K := K)) (pv 2) (pv 3) (fun _ _ => rfl)) (pa_cons (pv 4) pa_nil)))
    (pss_one (ps_expr (pe_bm PySem.F.plainAttrs_list PySem.F.slot_list_append PySem.F.type_list_append mt_append (pe_ix (kix_list (K := K)) (pv 2) (pv 4) (fun _ _ => rfl)) (pa_cons (pv 3) pa_nil))))))
    (pss_one (ps_ret (pe_callTy (kc_tuple (K := K)) (by rfl) T.n_tuple boot_tuple (pa_cons (pe_lc (own := [("rooms", 6)]) rfl sc_near_lots.nd (kpi_list (K := K) (pv 2)) (blkOk_by (N := N_near_lots) (sc := defScope s_near_lots) (by decide +kernel)) (fun _ _ _ _ _ => (pg_name (i := 6) sc_near_lots.nd rfl (Or.inl rfl))) (fun _ _ _ _ _ => pts_nil) (fun _ _ _ _ _ => (pe_callTy (kc_tuple (K := K)) (by rfl) T.n_tuple boot_tuple (pa_cons (pv 6) pa_nil)))) pa_nil)))))), ?_⟩
  -- near = [[] for _ in range(many)]
  refine ⟨_, rfl, (n : Int), rfl, by omega, by omega, fun L hL => lc_it (walk_range (lo := 0) (n := n)) (fun i H' => ∃ as, Rows H' L as (fun _ => []) H ∧ as.length = i ∧ i ≤ n) ⟨[], ⟨upd_same, fun i a h => by simp at h, fun a h => by simp at h, List.nodup_nil, by simp, hL, Le.new hL⟩, rfl, Nat.zero_le _⟩ (fun _ _ _ _ => trivial) ?_ ?_⟩
  · rintro i x H1 _ hi ⟨as, R, hl, _⟩ ⟨rfl, rfl⟩
    refine ⟨rfl, ?_⟩
    unfold tYes
    dsimp only
    rw [if_pos rfl]
    refine ⟨Nat.zero_le _, fun p np => ?_⟩
    have npL : L ≠ p := ne_of_none R.top np
    have nas : ∀ a ∈ as, a ≠ p := fun a ha => by
      obtain ⟨j, hj⟩ := List.mem_iff_getElem?.mp ha
      exact ne_of_none (R.row j a hj) np
    refine ⟨as.map V.ref, by rw [upd_ne npL]; exact R.top, by rw [List.length_map, hl]; exact Evl.sz_lt (by omega), as ++ [p], ⟨?_, fun j a hj => ?_, fun a ha => ?_, ?_, ?_, hL, ?_⟩, by rw [List.length_append, hl]; rfl, hi⟩
    · rw [upd_same, List.map_append]
      rfl
    · have ha : a ∈ as ++ [p] := List.mem_of_getElem? hj
      have hne : a ≠ L := by
        rcases List.mem_append.mp ha with ha | ha
        · exact fun e => R.nL (e ▸ ha)
        · rw [List.mem_singleton.mp ha]
          exact npL.symm
      rw [upd_ne hne]
      rcases List.mem_append.mp ha with ha | ha
      · rw [upd_ne (nas a ha)]
        obtain ⟨j2, hj2⟩ := List.mem_iff_getElem?.mp ha
        exact R.row j2 a hj2
      · rw [List.mem_singleton.mp ha]
        exact upd_same
    · rcases List.mem_append.mp ha with ha | ha
      · exact R.new a ha
      · rw [List.mem_singleton.mp ha]
        exact R.le.fresh np
    · rw [List.nodup_append]
      exact ⟨R.nd, by simp, fun a ha b hb => by rw [List.mem_singleton.mp hb]; exact nas a ha⟩
    · intro h
      rcases List.mem_append.mp h with h | h
      · exact R.nL h
      · exact npL (List.mem_singleton.mp h)
    · exact (R.le.trans (Le.new np)).mut hL
  rintro H1 ⟨as, R, hl, _⟩
  -- for one, other in ties
  refine q_forT (K := K) (ds := ties.map eP) (ed_var rfl (r2.le R.le)) (enc_P.nl _) fun H2 e2 => ?_
  refine ⟨fun i σ H' => ∃ y3 y4, σ = [some (.int (n : Int)), some v2, some (.ref L), y3, y4, none, none] ∧ LeT H2 H' ∧ Rows H' L as (fun j => rawNear (ties.take i) (j : Int)) H, ⟨none, none, rfl, LeT.refl _, R.le2 e2⟩, fun i σ H' _ ⟨_, _, _, e, _⟩ => e, ?_, ?_⟩
  · rintro i d v σ' H' hd rv ⟨y3, y4, rfl, et, R⟩
    obtain ⟨p, hp, rfl⟩ := map_at hd
    obtain ⟨h1, h2, h3⟩ := ok.tie (List.mem_of_getElem? hp)
    rw [hn] at h3
    obtain ⟨t, xs, rfl, st, rr⟩ := rp_tup rv
    obtain ⟨w1, w2, rfl, q1, q2⟩ := rps2 rr
    have e1 := rp_int q1
    have e2' := rp_int q2
    subst e1 e2'
    obtain ⟨a, ha⟩ : ∃ a, as[p.1.toNat]? = some a := ⟨as[p.1.toNat], List.getElem?_eq_getElem (by omega)⟩
    obtain ⟨b, hb⟩ : ∃ b, as[p.2.toNat]? = some b := ⟨as[p.2.toNat], List.getElem?_eq_getElem (by omega)⟩
    have len1 : ∀ l : List (Int × Int), ∀ i : Int, l.length ≤ 3600 → (rawNear l i).length ≤ 3600 := fun l i hl => by
      unfold rawNear
      rw [List.length_map]
      exact Nat.le_trans (List.length_filter_le _ _) hl
    have tl : (ties.take i).length ≤ 3600 := Nat.le_trans (List.length_take_le' _ _) ok.len
    refine ⟨t, _, rfl, st, rfl, _, _, rfl, _, _, rfl, rfl, ?_⟩
    -- near[one].append(other)
    refine ⟨_, rfl, _, rfl, L, _, p.1, .ref a, rfl, rfl, SqL.of R.top, ?_, .inl ⟨rfl, _, SqL.of (R.row _ _ ha)⟩, _, rfl, a, _, .int p.2, rfl, rfl, R.row _ _ ha, ?_, ?_⟩
    · exact at_of (j := p.1.toNat) (by omega) (by rw [List.getElem?_map, ha]; rfl)
    · rw [List.length_map]
      exact Evl.sz_lt (Nat.lt_of_le_of_lt (len1 _ _ tl) (by decide))
    have R1 := R.put (z := p.2) ha
    have lt1 := LeT.upd (o := .lst ((rawNear (ties.take i) ((p.1.toNat : Nat) : Int)).map V.int ++ [.int p.2])) (R.row _ _ ha)
    -- near[other].append(one)
    refine ⟨_, rfl, _, rfl, L, _, p.2, .ref b, rfl, rfl, SqL.of R1.top, ?_, .inl ⟨rfl, _, SqL.of (R1.row _ _ hb)⟩, _, rfl, b, _, .int p.1, rfl, rfl, R1.row _ _ hb, ?_, ?_⟩
    · exact at_of (j := p.2.toNat) (by omega) (by rw [List.getElem?_map, hb]; rfl)
    · rw [List.length_map, if_neg (by omega)]
      exact Evl.sz_lt (Nat.lt_of_le_of_lt (len1 _ _ tl) (by decide))
    have R2 := R1.put (z := p.1) hb
    refine ⟨_, _, rfl, (et.trans lt1).trans (LeT.upd (R1.row _ _ hb)), ?_⟩
    have ef : (fun j : Nat => rawNear (ties.take (i + 1)) (j : Int)) = fun j => if j = p.2.toNat then (if p.2.toNat = p.1.toNat then rawNear (ties.take i) ((p.1.toNat : Nat) : Int) ++ [p.2] else rawNear (ties.take i) ((p.2.toNat : Nat) : Int)) ++ [p.1] else if j = p.1.toNat then rawNear (ties.take i) ((p.1.toNat : Nat) : Int) ++ [p.2] else rawNear (ties.take i) (j : Int) := by
      funext j
      have tk : ties.take (i + 1) = ties.take i ++ [p] := by
        rw [List.take_add_one, hp]
        rfl
      rw [tk, raw_more]
      by_cases hj2 : j = p.2.toNat
      · subst hj2
        rw [if_pos rfl, if_neg (show ¬ p.2.toNat = p.1.toNat by omega)]
        have ej : ((p.2.toNat : Nat) : Int) = p.2 := by omega
        rw [ej, if_pos (by simp)]
        congr 1
        congr 1
        omega
      · rw [if_neg hj2]
        by_cases hj1 : j = p.1.toNat
        · subst hj1
          rw [if_pos rfl]
          have ej : ((p.1.toNat : Nat) : Int) = p.1 := by omega
          rw [ej, if_pos (by simp)]
          congr 1
          congr 1
          omega
        · rw [if_neg hj1, if_neg (by simp; omega), List.append_nil]
    rw [ef]
    exact R2
  · rintro σ' H' ⟨y3, y4, rfl, et, R⟩
    have etk : ties.take (ties.map eP).length = ties := by rw [List.length_map, List.take_length]
    rw [etk] at R
    -- return tuple([tuple(rooms) for rooms in near])
    refine s_retD (K := K) (d := nearD ms ties) (ed_tupOf (ds := (List.range ms.length).map fun i : Nat => D.tup ((rawNear ties (i : Int)).map .int)) ?_) fun v H3 e3 r3 => q v _ H3 (R.le.trans e3) rfl r3
    intro H3 e3 Q' q'
    have R3 := R.le2 e3
    refine ⟨_, rfl, L, rfl, ⟨_, SqL.of R3.top⟩, fun M hM => lc_it (walk_list (xs := as.map V.ref)) (fun i H' => H3 M = none ∧ Le H3 H' ∧ ∃ us, H' M = some (.lst us) ∧ Rps K H' us ((List.range i).map fun i : Nat => D.tup ((rawNear ties (i : Int)).map .int))) ⟨hM, Le.new hM, [], upd_same, .nil⟩ (fun i H' _ c => SqL.of (R3.le2 c.2.1).top) ?_ ?_⟩
    · rintro i x H4 _ hi ⟨_, e4, us, hus, rr⟩ ⟨rfl, hx⟩
      rw [List.length_map] at hi
      have ha : as[i]? = some as[i] := List.getElem?_eq_getElem hi
      rw [List.getElem?_map, ha] at hx
      have ex := Option.some.inj hx
      subst ex
      have hrow := (R3.le2 e4).row i _ ha
      have U : Uni ((List.range i).map fun i : Nat => D.tup ((rawNear ties (i : Int)).map .int)) := (enc_tup (f := fun i : Nat => (rawNear ties (i : Int)).map D.int) fun a => noL_ints _).un _
      have NL := (enc_tup (f := fun i : Nat => (rawNear ties (i : Int)).map D.int) fun a => noL_ints _).nl (List.range i)
      refine ⟨rfl, ?_⟩
      unfold tYes
      dsimp only
      rw [if_pos rfl]
      refine ⟨_, rfl, as[i], _, rfl, .inl ⟨SqL.of hrow, fun l hl2 => ?_⟩⟩
      have h5 := (Le.new (o := .tup ((rawNear ties (i : Int)).map V.int)) hl2).lst hus (U.notH rr)
      refine ⟨us, h5, ?_, hM, (e4.trans (Le.new hl2)).mut hM, us ++ [.ref l], upd_same, ?_⟩
      · rw [rr.len, List.length_map, List.length_range]
        exact Evl.sz_lt (by omega)
      · rw [List.range_succ, List.map_append]
        refine ((rr.le (Le.new hl2)).upd h5 NL).app (.cons ?_ .nil)
        exact Rp.upd h5 (.tup (noL_ints _)) (.tup (Evl.st_of upd_same) (rps_ints _))
    · rintro H4 ⟨_, e4, us, hus, rr⟩
      rw [List.length_map, hl] at rr
      have U : Uni ((List.range n).map fun i : Nat => D.tup ((rawNear ties (i : Int)).map .int)) := (enc_tup (f := fun i : Nat => (rawNear ties (i : Int)).map D.int) fun a => noL_ints _).un _
      exact q' _ (.lst ((List.range n).map fun i : Nat => D.tup ((rawNear ties (i : Int)).map .int))) H4 e4 (by rw [hn]) (.lst hus (U.notH rr) rr)
end
end W1

set_option maxRecDepth 100000
set_option maxHeartbeats 4000000
namespace W1
open PySem PyProof.Rows L2
local macro_rules | `(tactic| walk_at "rp") => `(tactic| first | assumption | exact Rp.int _ | exact Rp.bl _ | exact Rp.str _ | exact Rp.non | exact Rp.obj _ | (refine Rp.le (by assumption) ?_; walk_at "rp"))
local macro_rules | `(tactic| walk_at "ed") => `(tactic| first
  | exact ed_int | exact ed_str | exact ed_bl | exact ed_non
  | (refine ed_var rfl ?_; walk_at "rp")
  | (refine ed_ixT (ds := [_, _]) ?_ ed_int (by decide) rfl; walk_at "ed")
  | (refine ed_I0 ?_ ?_ <;> walk_at "ed")
  | (refine ed_B0 ?_ ?_ <;> walk_at "ed")
  | (refine ed_eqS ?_ ?_ rfl rfl rfl <;> walk_at "ed")
  | assumption)
local macro_rules | `(tactic| walk_at "ea") => `(tactic| first | exact ea_nil | (refine ea_cons ?_ ?_; walk_at "ed"; walk_at "ea"))

abbrev s_Web___init__ : Stmt := inClass (topS 15) 0
abbrev N_Web___init__ : List Str := ["self", "memories", "ties"]
theorem sc_Web___init__ : FnScope N_Web___init__ ["self", "memories", "ties"] (defScope s_Web___init__) := ⟨rfl, rfl, rfl, by decide +kernel, rfl, by decide +kernel, by decide +kernel⟩
abbrev s__law_made : Stmt := topS 44
abbrev N__law_made : List Str := ["_law_parts_here"]
theorem sc__law_made : FnScope N__law_made ["_law_parts_here"] (defScope s__law_made) := ⟨rfl, rfl, rfl, by decide +kernel, rfl, by decide +kernel, by decide +kernel⟩
abbrev s_is_room : Stmt := topS 20
abbrev N_is_room : List Str := ["web", "thing"]
theorem sc_is_room : FnScope N_is_room ["web", "thing"] (defScope s_is_room) := ⟨rfl, rfl, rfl, by decide +kernel, rfl, by decide +kernel, by decide +kernel⟩
abbrev s_check_room : Stmt := topS 21
abbrev N_check_room : List Str := ["web", "room"]
theorem sc_check_room : FnScope N_check_room ["web", "room"] (defScope s_check_room) := ⟨rfl, rfl, rfl, by decide +kernel, rfl, by decide +kernel, by decide +kernel⟩
abbrev s_tied : Stmt := topS 22
abbrev N_tied : List Str := ["web", "room"]
theorem sc_tied : FnScope N_tied ["web", "room"] (defScope s_tied) := ⟨rfl, rfl, rfl, by decide +kernel, rfl, by decide +kernel, by decide +kernel⟩
section
variable {K : PySem.W.Frag} {H H' : Hp}
/-- what no data names may change: an instance -/
theorem sqt_ins {a l C dx : Addr} {fs : List (Str × V)} {xs : List V} {o : HO} (hl : H l = some (.ins C dx fs)) (h : SqT K H a xs) : SqT K (upd H l o) a xs :=
  sqt_upd (fun ys e => by rw [hl] at e; cases e) (fun ob u e => by rw [hl] at e; cases e) h
mutual
theorem Rp.ins {l C dx : Addr} {fs : List (Str × V)} {o : HO} (hl : H l = some (.ins C dx fs)) {v : V} {d : D} : Rp K H v d → Rp K (L2.upd H l o) v d
  | .non => .non
  | .bl b => .bl b
  | .int i => .int i
  | .str x => .str x
  | .obj v => .obj v
  | .tup h r => .tup (sqt_ins hl h) (Rps.ins hl r)
  | .lst (a := a) h n r => .lst (by
      have ne : a ≠ l := fun e => by
        rw [e, hl] at h
        cases h
      rw [upd_ne ne]
      exact h) n (Rps.ins hl r)
theorem Rps.ins {l C dx : Addr} {fs : List (Str × V)} {o : HO} (hl : H l = some (.ins C dx fs)) {vs : List V} {ds : List D} : Rps K H vs ds → Rps K (L2.upd H l o) vs ds
  | .nil => .nil
  | .cons h r => .cons (Rp.ins hl h) (Rps.ins hl r)
end
end
structure WebAt (K : PySem.W.Frag) (C : Addr) (H : Hp) (a : Addr) (ms : List Int) (ties : List (Int × Int)) : Prop where
  ob : ∃ dx m t n, H a = some (.ins C dx (webFs m t n)) ∧ Rp K H m (.tup (ms.map .int)) ∧ Rp K H t (.tup (ties.map eP)) ∧ Rp K H n (nearD ms ties)
theorem WebAt.le {K : PySem.W.Frag} {C a : Addr} {H H' : Hp} {ms : List Int} {ties : List (Int × Int)} (e : Le H H') (x : WebAt K C H a ms ties) : WebAt K C H' a ms ties := by
  obtain ⟨dx, m, t, n, h, h1, h2, h3⟩ := x
  exact ⟨dx, m, t, n, e.ins h, h1.le e, h2.le e, h3.le e⟩
section
variable {K : PySem.W.Frag} {σ : L2.St} {H H' : Hp} {C a : Addr} {ms : List Int} {ties : List (Int × Int)} {te : TE}
theorem ed_mem (T : WTxt K C) (x : WebAt K C H a ms ties) (h : ED K te σ H (.obj (.ref a))) : ED K (tFld K te "memories") σ H (.tup (ms.map .int)) := fun H1 e Q q => h H1 e _ fun v d H2 e2 p r => by
  have p' : d = .obj (.ref a) := p
  subst p'
  have ev := rp_obj r
  subst ev
  obtain ⟨dx, m, t, n, h, h1, h2, h3⟩ := x.le (e.trans e2)
  exact ⟨a, C, dx, _, _, rfl, h, T.cl, T.nM, web_m m t n, q _ _ H2 e2 rfl h1⟩
theorem ed_near (T : WTxt K C) (x : WebAt K C H a ms ties) (h : ED K te σ H (.obj (.ref a))) : ED K (tFld K te "near") σ H (nearD ms ties) := fun H1 e Q q => h H1 e _ fun v d H2 e2 p r => by
  have p' : d = .obj (.ref a) := p
  subst p'
  have ev := rp_obj r
  subst ev
  obtain ⟨dx, m, t, n, h, h1, h2, h3⟩ := x.le (e.trans e2)
  exact ⟨a, C, dx, _, _, rfl, h, T.cl, T.nN, web_n m t n, q _ _ H2 e2 rfl h3⟩
def spWeb (K : PySem.W.Frag) (C : Addr) : Sp := fun vs H Q _ => ∃ a dx v1 v2 ms ties, vs = [.ref a, v1, v2] ∧ H a = some (.ins C dx []) ∧ Rp K H v1 (.tup (List.map D.int ms)) ∧ Rp K H v2 (.tup (List.map eP ties)) ∧ PartsOk ms ties ∧
  ∀ H', (∀ H0, Le H0 H → H0 a = none → Le H0 H') → WebAt K C H' a ms ties → Q .non H'
end
section
variable {P : Program} {w : World} {K : PySem.W.Frag} {mg : Str → Option Value} {base : Heap} {C : Addr}
theorem ok_web {f : Addr} {fd : FuncData} (T : GTxt mg) (W : WTxt K C) (F : Fun K "__init__" "Web.__init__" s_Web___init__ f fd) (Gcheck_memories : Def P w K mg base 3 "check_memories" ["memories"] (spD K R_cmem))
    (Gcheck_ties : Def P w K mg base 4 "check_ties" ["many", "ties"] (spD K R_cties)) (Gnear_lots : Def P w K mg base 1 "near_lots" ["many", "ties"] (spD K R_nlots)) : FnOk P w K mg base CX0 5 f fd ["self", "memories", "ties"] (spWeb K C) := by
  refine F.ok sc_Web___init__ (fun vs H Q E h => ?_) (fun cdv A outer s H vs Q E hr h => ?_)
  · obtain ⟨a, dx, v1, v2, ms, ties, rfl, _⟩ := h
    rfl
  obtain ⟨a, dx, v1, v2, ms, ties, rfl, ha, r1, r2, ok, q⟩ := h
  refine ⟨_, (pss_cons (ps_expr (pe_def Gcheck_memories (hr.mono (by decide)) (pa_cons (pv 1) pa_nil)))
    (pss_cons (ps_expr (pe_def Gcheck_ties (hr.mono (by decide)) (pa_cons (pe_callB (kc_len (K := K)) (by rfl) T.n_len boot_len (pa_cons (pv 1) pa_nil)) (pa_cons (pv 2) pa_nil))))
    (pss_cons (ps_fld (pv 0) (pv 1) rfl)
    (pss_cons (ps_fld (pv 0) (pv 2) rfl)
    (pss_one (ps_fld (pv 0) (pe_def Gnear_lots (hr.mono (by decide)) (pa_cons (pe_callB (kc_len (K := K)) (by rfl) T.n_len boot_len (pa_cons (pv 1) pa_nil)) (pa_cons (pv 2) pa_nil))) rfl)))))), ?_⟩
  have hlen : ∀ {H1 : Hp} {σ : L2.St}, Rp K H1 v1 (.tup (List.map D.int ms)) → σ[1]? = some (some v1) → ED K (tCB (fun xs H Q => ∃ p ys, xs = [.ref p] ∧ (SqL K H p ys ∨ SqT K H p ys) ∧ Q (.int ys.length) H) (tCons (tVar 1) tNil)) σ H1 (.int (ms.length : Int)) := fun r h0 => ed_eq (ed_lenT (ed_var h0 r)) (by rw [List.length_map])
  refine q_drop (K := K) (P := is .non) (ed_call (ea_cons (ed_var rfl r1) ea_nil) fun H1 _ => ⟨ms, rfl, ok.some, ok.few, ok.mem, rfl⟩) fun H1 e1 => ?_
  refine q_drop (K := K) (P := is .non) (ed_call (ea_cons (hlen (r1.le e1) rfl) (ea_cons (ed_var rfl (r2.le e1)) ea_nil)) fun H2 _ => ⟨ms, ties, rfl, ok, rfl⟩) fun H2 e2 => ?_
  have a2 := (e1.trans e2).ins ha
  refine ⟨_, rfl, _, rfl, a, C, dx, [], rfl, a2, W.cl, W.nM, (by show 0 < 1000; decide), ?_⟩
  refine ⟨_, rfl, _, rfl, a, C, dx, _, rfl, upd_same, W.cl, W.nT, (by show 1 < 1000; decide), ?_⟩
  have r1' := ((r1.le (e1.trans e2)).ins a2 (o := .ins C dx (putF "memories" v1 []))).ins upd_same (o := .ins C dx (putF "ties" v2 (putF "memories" v1 [])))
  have r2' := ((r2.le (e1.trans e2)).ins a2 (o := .ins C dx (putF "memories" v1 []))).ins upd_same (o := .ins C dx (putF "ties" v2 (putF "memories" v1 [])))
  refine ed_call (K := K) (P := is (nearD ms ties)) (ea_cons (hlen r1' rfl) (ea_cons (ed_var rfl r2') ea_nil)) (fun H3 _ => ⟨ms, ties, rfl, ok, rfl⟩) _ (Le.refl _) _ fun v d H3 e3 p r3 => ?_
  have p' : d = nearD ms ties := p
  subst p'
  have a3 := e3.ins upd_same
  refine ⟨_, rfl, a, C, dx, _, rfl, a3, W.cl, W.nN, ?_, ?_⟩
  · show (putF "ties" v2 (putF "memories" v1 [])).length < 1000
    show ((if ("memories" : Str) = "ties" then [(("memories" : Str), v2)] else (("memories" : Str), v1) :: putF "ties" v2 []) : List (Str × V)).length < 1000
    rw [if_neg mt_]
    show 2 < 1000
    decide
  · refine q _ (fun H0 e0 h0 => ?_) ⟨dx, v1, v2, v, upd_same, (r1'.le e3).ins a3, (r2'.le e3).ins a3, r3.ins a3⟩
    exact ((((e0.trans (e1.trans e2)).mut h0).mut h0).trans e3).mut h0
structure WMk (P : Program) (w : World) (K : PySem.W.Frag) (mg : Str → Option Value) (base : Heap) (C : Addr) : Prop where
  mgC : mg "Web" = some (.ref C)
  ex : ∃ f fd, Mk K C f ∧ FnOk P w K mg base CX0 5 f fd ["self", "memories", "ties"] (spWeb K C) ∧ Binds K fd ["self", "memories", "ties"] []
def R_made (K : PySem.W.Frag) (C : Addr) : List D → Hp → Pd → Prop := fun ds _ P => ∃ ms ties, ds = [eW ms ties] ∧ PartsOk ms ties ∧ P = fun d H => ∃ a, d = .obj (.ref a) ∧ WebAt K C H a ms ties
theorem ok_made (M : WMk P w K mg base C) (g : GDef K mg "_law_made" s__law_made ["_law_parts_here"]) : Def P w K mg base 7 "_law_made" ["_law_parts_here"] (spD K (R_made K C)) := by
  refine defD g sc__law_made (fun ds H Pd h => ?_) fun cdv A outer s f H vs ds Pd Q E hr r h q => ?_
  · obtain ⟨ms, ties, rfl, _⟩ := h
    rfl
  obtain ⟨ms, ties, rfl, ok, rfl⟩ := h
  obtain ⟨v1, rfl, r1⟩ := rps1 r
  obtain ⟨fi, fdi, mk, F, hb⟩ := M.ex
  refine ⟨_, pss_one (ps_ret (pe_make mk F hr (by rfl) M.mgC hb .nil pass0 (pa_cons (pe_ix (kix_tup (K := K)) (pv 0) pe_int (fun _ _ => rfl)) (pa_cons (pe_ix (kix_tup (K := K)) (pv 0) pe_int (fun _ _ => rfl)) pa_nil)))), ?_⟩
  have hA : EDA K (tCons (tOp (rIxT K) (tVar 0) (tC (.int 0))) (tCons (tOp (rIxT K) (tVar 0) (tC (.int 1))) tNil)) (L2.start N__law_made [v1]) H [.tup (ms.map .int), .tup (ties.map eP)] := ea_cons (ed_ixT (ds := [_, _]) (ed_var rfl r1) ed_int (by decide) rfl) (ea_cons (ed_ixT (ds := [_, _]) (ed_var rfl r1) ed_int (by decide) rfl) ea_nil)
  unfold tRet tMake
  refine hA H (Le.refl _) _ fun vs es H1 e1 p rr => ?_
  have p' : es = [.tup (ms.map .int), .tup (ties.map eP)] := p
  subst p'
  obtain ⟨w1, w2, rfl, q1, q2⟩ := rps2 rr
  intro x dx hx hdx hne
  have l1 : Le H1 (upd (upd H1 dx (.own x)) x (.ins C dx [])) := (Le.new hdx).mut hx
  refine ⟨x, dx, w1, w2, ms, ties, rfl, upd_same, q1.le l1, q2.le l1, ok, fun H2 k W => ⟨rfl, ?_⟩⟩
  exact q _ (.obj (.ref x)) H2 (e1.trans (k _ l1 hx)) ⟨x, rfl, W⟩ (.obj _)
def R_isroom (K : PySem.W.Frag) (C : Addr) : List D → Hp → Pd → Prop := fun ds H P => ∃ a ms ties d, ds = [.obj (.ref a), d] ∧ WebAt K C H a ms ties ∧ Tk H d ∧ P = is (.bl (btw 0 ((ms.length : Int) - 1) d))
theorem ok_isroom (T : GTxt mg) (W : WTxt K C) (g : GDef K mg "is_room" s_is_room ["web", "thing"]) (Gis_between : Def P w K mg base 2 "is_between" ["least", "most", "thing"] (spD K R_btw)) : Def P w K mg base 3 "is_room" ["web", "thing"] (spD K (R_isroom K C)) := by
  refine defD g sc_is_room (fun ds H Pd h => ?_) fun cdv A outer s f H vs ds Pd Q E hr r h q => ?_
  · obtain ⟨a, ms, ties, d, rfl, _⟩ := h
    rfl
  obtain ⟨a, ms, ties, d, rfl, x, hk, rfl⟩ := h
  obtain ⟨v1, v2, rfl, r1, r2⟩ := rps2 r
  refine ⟨_, (pss_one (ps_ret (pe_def Gis_between (hr.mono (by decide)) (pa_cons pe_int (pa_cons (pe_op op_sub (pe_callB (kc_len (K := K)) (by rfl) T.n_len boot_len (pa_cons (kpe_fld (K := K) (pv 0) rfl) pa_nil)) pe_int) (pa_cons (pv 1) pa_nil)))))), ?_⟩
  refine s_retD (ed_eq (ed_btwK ed_int (ed_I0 (f := fun i j => i - j) (ed_lenT (ed_mem W x (ed_var rfl r1))) ed_int) (ed_var rfl r2) hk) ?_) fun v H1 e1 r => q v _ H1 e1 rfl r
  rw [List.length_map]
theorem btw_room {n r : Int} (h0 : 0 ≤ r) (h1 : r < n) : btw 0 (n - 1) (.int r) = true := by
  show (decide _ && decide _) = true
  rw [decide_eq_true h0, decide_eq_true (by omega)]
  rfl
def R_chroom (K : PySem.W.Frag) (C : Addr) : List D → Hp → Pd → Prop := fun ds H P => ∃ a ms ties r, ds = [.obj (.ref a), .int r] ∧ WebAt K C H a ms ties ∧ 0 ≤ r ∧ r < ms.length ∧ P = is .non
theorem ok_chroom (g : GDef K mg "check_room" s_check_room ["web", "room"]) (Gis_room : Def P w K mg base 3 "is_room" ["web", "thing"] (spD K (R_isroom K C))) : Def P w K mg base 4 "check_room" ["web", "room"] (spD K (R_chroom K C)) := by
  refine defD g sc_check_room (fun ds H Pd h => ?_) fun cdv A outer s f H vs ds Pd Q E hr r h q => ?_
  · obtain ⟨a, ms, ties, r, rfl, _⟩ := h
    rfl
  obtain ⟨a, ms, ties, rm, rfl, x, h0, h1, rfl⟩ := h
  obtain ⟨v1, v2, rfl, r1, r2⟩ := rps2 r
  refine ⟨_, (pss_one (ps_if (pt_not (pt_val (pe_def Gis_room (hr.mono (by decide)) (pa_cons (pv 0) (pa_cons (pv 1) pa_nil)))))
      (pss_one ps_never)
      pss_nil)), ?_⟩
  exact s_no (eb_not (et_B (K := K) (b := true) (ed_call (ea_cons (ed_var rfl r1) (ea_cons (ed_var rfl r2) ea_nil)) fun H1 e1 => ⟨a, ms, ties, .int rm, rfl, x.le e1, .inl rfl, by rw [btw_room h0 h1]⟩))) rfl fun H1 e1 => q _ .non H1 e1 rfl .non
def R_tied (K : PySem.W.Frag) (C : Addr) : List D → Hp → Pd → Prop := fun ds H P => ∃ a ms ties r, ds = [.obj (.ref a), .int r] ∧ WebAt K C H a ms ties ∧ 0 ≤ r ∧ r < ms.length ∧ P = is (.tup ((rawNear ties r).map .int))
theorem ok_tied (W : WTxt K C) (g : GDef K mg "tied" s_tied ["web", "room"]) (Gcheck_room : Def P w K mg base 4 "check_room" ["web", "room"] (spD K (R_chroom K C))) : Def P w K mg base 5 "tied" ["web", "room"] (spD K (R_tied K C)) := by
  refine defD g sc_tied (fun ds H Pd h => ?_) fun cdv A outer s f H vs ds Pd Q E hr r h q => ?_
  · obtain ⟨a, ms, ties, r, rfl, _⟩ := h
    rfl
  obtain ⟨a, ms, ties, rm, rfl, x, h0, h1, rfl⟩ := h
  obtain ⟨v1, v2, rfl, r1, r2⟩ := rps2 r
  refine ⟨_, (pss_cons (ps_expr (pe_def Gcheck_room (hr.mono (by decide)) (pa_cons (pv 0) (pa_cons (pv 1) pa_nil))))
    (pss_one (ps_ret (pe_ix (kix_tup (K := K)) (kpe_fld (K := K) (pv 0) rfl) (pv 1) (fun _ _ => rfl))))), ?_⟩
  refine q_drop (K := K) (P := is .non) (ed_call (ea_cons (ed_var rfl r1) (ea_cons (ed_var rfl r2) ea_nil)) fun H1 e1 => ⟨a, ms, ties, rm, rfl, x.le e1, h0, h1, rfl⟩) fun H1 e1 => ?_
  refine s_retD (d := .tup ((rawNear ties rm).map .int)) (ed_ixT (K := K) (ed_near W (x.le e1) (ed_var rfl (r1.le e1))) (ed_var rfl (r2.le e1)) h0 ?_) fun v H2 e2 r => q v _ H2 (e1.trans e2) rfl r
  rw [List.getElem?_map, List.getElem?_range (by omega)]
  have er : ((rm.toNat : Nat) : Int) = rm := by omega
  show some (D.tup ((rawNear ties ((rm.toNat : Nat) : Int)).map .int)) = _
  rw [er]
end
end W1

set_option maxRecDepth 100000
set_option maxHeartbeats 4000000
namespace W1
open PySem PyProof.Rows L2
local macro_rules | `(tactic| walk_at "rp") => `(tactic| first | assumption | exact Rp.int _ | exact Rp.bl _ | exact Rp.str _ | exact Rp.non | exact Rp.obj _ | (refine Rp.le (by assumption) ?_; walk_at "rp"))
local macro_rules | `(tactic| walk_at "ed") => `(tactic| first
  | exact ed_int | exact ed_str | exact ed_bl | exact ed_non
  | (refine ed_var rfl ?_; walk_at "rp")
  | (refine ed_ixT (ds := [_, _]) ?_ ed_int (by decide) rfl; walk_at "ed")
  | (refine ed_I0 ?_ ?_ <;> walk_at "ed")
  | (refine ed_B0 ?_ ?_ <;> walk_at "ed")
  | (refine ed_eqS ?_ ?_ rfl rfl rfl <;> walk_at "ed")
  | assumption)
local macro_rules | `(tactic| walk_at "ea") => `(tactic| first | exact ea_nil | (refine ea_cons ?_ ?_; walk_at "ed"; walk_at "ea"))

abbrev s_begun : Stmt := topS 24
abbrev N_begun : List Str := ["web"]
theorem sc_begun : FnScope N_begun ["web"] (defScope s_begun) := ⟨rfl, rfl, rfl, by decide +kernel, rfl, by decide +kernel, by decide +kernel⟩
abbrev s_with_deed : Stmt := topS 28
abbrev N_with_deed : List Str := ["web", "standing", "deed", "room", "tags"]
theorem sc_with_deed : FnScope N_with_deed ["web", "standing", "deed"] (defScope s_with_deed) := ⟨rfl, rfl, rfl, by decide +kernel, rfl, by decide +kernel, by decide +kernel⟩
abbrev s_kept_tags : Stmt := topS 29
abbrev N_kept_tags : List Str := ["web", "room"]
theorem sc_kept_tags : FnScope N_kept_tags ["web", "room"] (defScope s_kept_tags) := ⟨rfl, rfl, rfl, by decide +kernel, rfl, by decide +kernel, by decide +kernel⟩
abbrev s_newest : Stmt := topS 31
abbrev N_newest : List Str := ["tags", "many"]
theorem sc_newest : FnScope N_newest ["tags", "many"] (defScope s_newest) := ⟨rfl, rfl, rfl, by decide +kernel, rfl, by decide +kernel, by decide +kernel⟩
abbrev s_barred : Stmt := topS 32
abbrev N_barred : List Str := ["web", "standing", "room", "shown", "own", "other"]
theorem sc_barred : FnScope N_barred ["web", "standing", "room"] (defScope s_barred) := ⟨rfl, rfl, rfl, by decide +kernel, rfl, by decide +kernel, by decide +kernel⟩
abbrev s_gives_barred : Stmt := topS 33
abbrev N_gives_barred : List Str := ["web", "standing", "deed"]
theorem sc_gives_barred : FnScope N_gives_barred ["web", "standing", "deed"] (defScope s_gives_barred) := ⟨rfl, rfl, rfl, by decide +kernel, rfl, by decide +kernel, by decide +kernel⟩
/-! ### standings -/
abbrev eT (st : St1) : D := .tup (st.map eR)
def keptN (ms : List Int) (r : Int) : Nat := (if (ms[r.toNat]?).getD 0 > 1 then (ms[r.toNat]?).getD 0 else 1).toNat
def wdL (ms : List Int) (st : St1) : Deed → St1
  | .give r t => st.set r.toNat (true, (t :: (stAt st r).2).take (keptN ms r))
  | .back r => st.set r.toNat (false, (stAt st r).2)
theorem wdL_len (ms : List Int) (st : St1) (dd : Deed) : (wdL ms st dd).length = st.length := by
  cases dd <;> simp [wdL]
theorem kept_pos (ms : List Int) (r : Int) : 1 ≤ keptN ms r := by
  unfold keptN
  split <;> omega
def barsL (ms : List Int) (ties : List (Int × Int)) (st : St1) (r : Int) : List Int := ownL ms st r ++ (rawNear ties r).flatMap fun o => shownL (stAt st o)
theorem Bars.in {ms : List Int} {ties : List (Int × Int)} {st : St1} {r : Int} {ns : List Int} (b : Bars ms ties st r ns) (k : Int) : k ∈ ns ↔ k ∈ barsL ms ties st r := by
  rw [b.mem k]
  unfold barsL
  rw [List.mem_append, List.mem_flatMap]
def isG : Deed → Bool
  | .give _ _ => true
  | .back _ => false
theorem vs_gg : decide (vOf (.str "give") = vOf (.str "give")) = true := by decide +kernel
theorem vs_bg : decide (vOf (.str "back") = vOf (.str "give")) = false := by decide +kernel
def ntL (ms : List Int) (st : St1) : Deed → List Int
  | .give r t => (t :: (stAt st r).2).take (keptN ms r)
  | .back r => (stAt st r).2
theorem wdL_eq (ms : List Int) (st : St1) (dd : Deed) : wdL ms st dd = st.set dd.room.toNat (isG dd, ntL ms st dd) := by cases dd <;> rfl
theorem set_cut {α : Type} {l : List α} {i : Nat} {a : α} (h : i < l.length) : l.set i a = l.take i ++ [a] ++ l.drop (i + 1) := by
  rw [List.set_eq_take_append_cons_drop, if_pos h, List.append_assoc]
  rfl
def bad (ms : List Int) (ties : List (Int × Int)) (st : St1) : Deed → Bool
  | .give r t => decide (t ∈ barsL ms ties st r)
  | .back _ => false
section
variable {P : Program} {w : World} {K : PySem.W.Frag} {mg : Str → Option Value} {base : Heap} {C : Addr}
def R_begun (K : PySem.W.Frag) (C : Addr) : List D → Hp → Pd → Prop := fun ds H P => ∃ a ms ties, ds = [.obj (.ref a)] ∧ WebAt K C H a ms ties ∧ 1 ≤ ms.length ∧ ms.length ≤ 60 ∧ P = is (eT (List.replicate ms.length (false, [])))
theorem ok_begun (T : GTxt mg) (W : WTxt K C) (g : GDef K mg "begun" s_begun ["web"]) : Def P w K mg base 1 "begun" ["web"] (spD K (R_begun K C)) := by
  refine defD g sc_begun (fun ds H Pd h => ?_) fun cdv A outer s f H vs ds Pd Q E hr r h q => ?_
  · obtain ⟨a, ms, ties, rfl, _⟩ := h
    rfl
  obtain ⟨a, ms, ties, rfl, x, h1, h2, rfl⟩ := h
  obtain ⟨v1, rfl, r1⟩ := rps1 r
  refine ⟨_, (pss_one (ps_ret (pe_op (kop_rep1 (K := K)) (pe_tup (pa_cons (pe_tup (pa_cons pe_bl (pa_cons (pe_tup pa_nil) pa_nil))) pa_nil)) (pe_callB (kc_len (K := K)) (by rfl) T.n_len boot_len (pa_cons (kpe_fld (K := K) (pv 0) rfl) pa_nil))))), ?_⟩
  have eq : (List.replicate ((ms.map D.int).length : Int).toNat [eR (false, [])]).flatten = (List.replicate ms.length (false, [])).map eR := by
    rw [rep_flat, Int.toNat_natCast, List.length_map, List.map_replicate]
  refine s_retD (ed_eq (ed_rep1 (K := K) (ds := [eR (false, [])]) (k := ((ms.map D.int).length : Int)) ?_ (ed_lenT (ed_mem W x (ed_var rfl r1))) (by simp) ?_ (by show 1 ≤ 1000; decide)) (congrArg D.tup eq)) fun v H1 e1 r => q v _ H1 e1 rfl r
  · exact ed_tup (ea_cons (ed_tup (ea_cons ed_bl (ea_cons (ed_tup ea_nil (by decide)) ea_nil)) (by show 2 ≤ 100000; decide)) ea_nil) (by show 1 ≤ 100000; decide)
  · rw [List.length_map]
    omega
def R_kept (K : PySem.W.Frag) (C : Addr) : List D → Hp → Pd → Prop := fun ds H P => ∃ a ms ties r, ds = [.obj (.ref a), .int r] ∧ WebAt K C H a ms ties ∧ 0 ≤ r ∧ r < ms.length ∧ P = is (.int (keptN ms r : Int))
theorem ok_kept (T : GTxt mg) (W : WTxt K C) (g : GDef K mg "kept_tags" s_kept_tags ["web", "room"]) : Def P w K mg base 1 "kept_tags" ["web", "room"] (spD K (R_kept K C)) := by
  refine defD g sc_kept_tags (fun ds H Pd h => ?_) fun cdv A outer s f H vs ds Pd Q E hr r h q => ?_
  · obtain ⟨a, ms, ties, r, rfl, _⟩ := h
    rfl
  obtain ⟨a, ms, ties, rm, rfl, x, h0, h1, rfl⟩ := h
  obtain ⟨v1, v2, rfl, r1, r2⟩ := rps2 r
  refine ⟨_, (pss_one (ps_ret (pe_callB (call_max2 rfl) (by rfl) T.n_max boot_max (pa_cons pe_int (pa_cons (pe_ix (kix_tup (K := K)) (kpe_fld (K := K) (pv 0) rfl) (pv 1) (fun _ _ => rfl)) pa_nil))))), ?_⟩
  have hm : ms[rm.toNat]? = some ((ms[rm.toNat]?).getD 0) := by
    rw [List.getElem?_eq_getElem (by omega)]
    rfl
  refine s_retD (ed_eq (ed_max2 (K := K) ed_int (ed_ixT (ed_mem W x (ed_var rfl r1)) (ed_var rfl r2) h0 (map_get hm))) ?_) fun v H1 e1 r => q v _ H1 e1 rfl r
  unfold keptN
  congr 1
  split <;> omega
def R_wd (K : PySem.W.Frag) (C : Addr) : List D → Hp → Pd → Prop := fun ds H P => ∃ a ms ties st dd, ds = [.obj (.ref a), eT st, eD dd] ∧ WebAt K C H a ms ties ∧ StOk st ∧ st.length = ms.length ∧ 0 ≤ dd.room ∧ dd.room < ms.length ∧ P = is (eT (wdL ms st dd))
theorem ok_wd (T : GTxt mg) (W : WTxt K C) (g : GDef K mg "with_deed" s_with_deed ["web", "standing", "deed"]) (Gkept_tags : Def P w K mg base 1 "kept_tags" ["web", "room"] (spD K (R_kept K C))) : Def P w K mg base 2 "with_deed" ["web", "standing", "deed"] (spD K (R_wd K C)) := by
  refine defD g sc_with_deed (fun ds H Pd h => ?_) fun cdv A outer s f H vs ds Pd Q E hr r h q => ?_
  · obtain ⟨a, ms, ties, st, dd, rfl, _⟩ := h
    rfl
  obtain ⟨a, ms, ties, st, dd, rfl, x, sok, hl, h0, h1, rfl⟩ := h
  obtain ⟨v1, v2, v3, rfl, r1, r2, r3⟩ := rps3 r
  refine ⟨_, (pss_cons (ps_set (i := 3) sc_with_deed.nd rfl (Or.inl rfl) (pe_ix (kix_tup (K := K)) (pv 2) pe_int (fun _ _ => rfl)))
    (pss_cons (ps_set (i := 4) sc_with_deed.nd rfl (Or.inl rfl) (pe_ix (kix_tup (K := K)) (pe_ix (kix_tup (K := K)) (pv 1) (pv 3) (fun _ _ => rfl)) pe_int (fun _ _ => rfl)))
    (Evl.pss_cut (ps_if (pt_cmpR op_eq (pe_ix (kix_tup (K := K)) (pv 2) pe_int (fun _ _ => rfl)) pe_str (nomark _))
      (pss_one (ps_set (i := 4) sc_with_deed.nd rfl (Or.inl rfl) (pe_slice (ksl_tup (K := K)) (pe_op (kop_catA (K := K)) (pe_tup (pa_cons (pe_ix (kix_tup (K := K)) (pv 2) pe_int (fun _ _ => rfl)) pa_nil)) (pv 4)) po_none (po_some (pe_def Gkept_tags (hr.mono (by decide)) (pa_cons (pv 0) (pa_cons (pv 3) pa_nil)))))))
      pss_nil)
    (pss_one (ps_ret (pe_op (kop_catA (K := K)) (pe_op (kop_catA (K := K)) (pe_slice (ksl_tup (K := K)) (pv 1) po_none (po_some (pv 3))) (pe_tup (pa_cons (pe_tup (pa_cons (pe_cmpR op_eq (pe_ix (kix_tup (K := K)) (pv 2) pe_int (fun _ _ => rfl)) pe_str (nomark _)) (pa_cons (pv 4) pa_nil))) pa_nil))) (pe_slice (ksl_tup (K := K)) (pv 1) (po_some (pe_op op_add (pv 3) pe_int)) po_none))))))), ?_⟩
  have hroom : ∀ {H1 : Hp} {σ : L2.St}, Le H H1 → σ[2]? = some (some v3) → ED K (tOp (rIxT K) (tVar 2) (tC (.int 1))) σ H1 (.int dd.room) := by
    intro H1 σ e hs
    cases dd with
    | give r t => exact ed_ixT (ds := [_, _, _]) (ed_var hs (r3.le e)) ed_int (by decide) rfl
    | back r => exact ed_ixT (ds := [_, _]) (ed_var hs (r3.le e)) ed_int (by decide) rfl
  have hg := st_get h0 (show dd.room < st.length by omega)
  have hgive : ∀ {H1 : Hp} {σ : L2.St}, Le H H1 → σ[2]? = some (some v3) → ED K (tOp rEq (tOp (rIxT K) (tVar 2) (tC (.int 0))) (tC (.str "give"))) σ H1 (.bl (isG dd)) := by
    intro H1 σ e hs
    cases dd with
    | give r t => exact ed_eq (ed_eqS (d1 := .str "give") (d2 := .str "give") (ed_ixT (ds := [_, _, _]) (ed_var hs (r3.le e)) ed_int (by decide) rfl) ed_str rfl rfl rfl) (congrArg D.bl vs_gg)
    | back r => exact ed_eq (ed_eqS (d1 := .str "back") (d2 := .str "give") (ed_ixT (ds := [_, _]) (ed_var hs (r3.le e)) ed_int (by decide) rfl) ed_str rfl rfl rfl) (congrArg D.bl vs_bg)
  -- room = deed[1]
  refine q_asgD (K := K) (hroom (Le.refl _) rfl) fun v4 H1 e1 r4 => ?_
  -- tags = standing[room][1]
  refine q_asgD (K := K) (d := .tup ((stAt st dd.room).2.map .int)) (ed_ixT (ds := [_, _]) (ed_ixT (d := eR (stAt st dd.room)) (ed_var rfl (r2.le e1)) (ed_var rfl r4) h0 (map_get hg)) ed_int (by decide) rfl) fun v5 H2 e2 r5 => ?_
  refine q_cut (M := fun σ H' => ∃ v5, σ = [some v1, some v2, some v3, some v4, some v5] ∧ Le H2 H' ∧ Rp K H' v5 (.tup ((ntL ms st dd).map .int))) ?_ ?_
  · refine s_ifB (et_test (K := K) (hgive (σ := [some v1, some v2, some v3, some v4, some v5]) (e1.trans e2) rfl)) (fun hb H3 e3 => ?_) (fun hb H3 e3 => ?_)
    · cases dd with
      | back r => cases hb
      | give rm t =>
        have e03 := (e1.trans e2).trans e3
        have tl := sok.tags _ (st_mem h0 (show (Deed.give rm t).room < st.length by omega))
        refine s_asgD (K := K) (d := .tup ((ntL ms st (.give rm t)).map .int)) (ed_eq (ed_slT (lo := none) (hi := some ((keptN ms rm : Nat) : Int)) (ed_catA (ds := [.int t]) (es := (stAt st rm).2.map D.int) (ed_tup (ea_cons (ed_ixT (ds := [_, _, _]) (ed_var rfl (r3.le e03)) ed_int (by decide) rfl) ea_nil) (by show 1 ≤ 100000; decide)) (ed_var rfl (r5.le e3)) ?_) eo_none (eo_some (ed_call (ea_cons (ed_var rfl (r1.le e03)) (ea_cons (ed_var rfl (r4.le (e2.trans e3))) ea_nil)) fun H4 e4 => ⟨a, ms, ties, rm, rfl, x.le (e03.trans e4), h0, h1, rfl⟩))) ?_) fun v H4 e4 r => ⟨v, rfl, e3.trans e4, r⟩
        · rw [List.length_map]
          have e5 : (Deed.give rm t).room = rm := rfl
          rw [e5] at tl
          show 1 + _ ≤ 100000
          omega
        · rw [cutG_hi _ _ (by omega), Int.toNat_natCast]
          show D.tup (((t :: (stAt st rm).2).map D.int).take _) = _
          rw [← List.map_take]
          rfl
    · cases dd with
      | give rm t => cases hb
      | back rm => exact ⟨v5, rfl, e3, r5.le e3⟩
  rintro σ H3 ⟨v5, rfl, e3, r5⟩
  have e03 := (e1.trans e2).trans e3
  have hlt : dd.room.toNat < st.length := by omega
  refine s_retD (K := K) (d := eT (wdL ms st dd)) (ed_eq (ed_catA (ds := (st.map eR).take dd.room.toNat ++ [eR (isG dd, ntL ms st dd)]) (es := (st.map eR).drop (dd.room.toNat + 1)) (ed_catA (ds := (st.map eR).take dd.room.toNat) (es := [eR (isG dd, ntL ms st dd)]) (ed_eq (ed_slT (lo := none) (hi := some dd.room) (ed_var rfl (r2.le e03)) eo_none (eo_some (ed_var rfl (r4.le (e2.trans e3))))) ?_)
    (ed_tup (ea_cons (ed_tup (ea_cons (hgive e03 rfl) (ea_cons (ed_var rfl r5) ea_nil)) (by show 2 ≤ 100000; decide)) ea_nil) (by show 1 ≤ 100000; decide)) ?_)
    (ed_eq (ed_slT (lo := some (dd.room + 1)) (hi := none) (ed_var rfl (r2.le e03)) (eo_some (ed_I0 (f := fun i j => i + j) (ed_var rfl (r4.le (e2.trans e3))) ed_int)) eo_none) ?_) ?_) ?_) fun v H4 e4 r => q v _ H4 (e03.trans e4) rfl r
  · rw [cutG_hi _ _ h0]
  · have := sok.few
    have := List.length_take_le dd.room.toNat (st.map eR)
    rw [List.length_take, List.length_map]
    show _ + 1 ≤ 100000
    omega
  · have e7 : (dd.room + 1).toNat = dd.room.toNat + 1 := by omega
    rw [cutG_lo _ _ (by omega), e7]
  · have := sok.few
    rw [List.length_append, List.length_take, List.length_drop, List.length_map]
    show _ + 1 + _ ≤ 100000
    omega
  · rw [wdL_eq, set_cut hlt]
    show D.tup _ = D.tup _
    rw [List.map_append, List.map_append, List.map_take, List.map_drop]
    rfl
/-! ### newest -/
theorem cutG_neg {α : Type} (xs : List α) (k : Nat) (h : 1 ≤ k) : cutG xs (some (-(k : Int))) none = xs.drop (xs.length - k) := by
  have e1 : HT.sIx xs.length 0 (some (-(k : Int))) = xs.length - k := by
    show (if (-(k : Int)) < 0 then ((-(k : Int)) + (xs.length : Int)).toNat else min (-(k : Int)).toNat xs.length) = xs.length - k
    rw [if_pos (by omega)]
    omega
  have e2 : HT.sIx xs.length xs.length none = xs.length := rfl
  unfold cutG
  rw [e1, e2]
  exact List.take_of_length_le (by rw [List.length_drop]; omega)
def R_newest : List D → Hp → Pd → Prop := fun ds _ P => ∃ (ns : List Int) (k : Nat), ds = [.lst (ns.map .int), .int (k : Int)] ∧ 1 ≤ k ∧ P = is (.tup ((ns.reverse.take k).map .int))
theorem ok_newest (T : GTxt mg) (g : GDef K mg "newest" s_newest ["tags", "many"]) : Def P w K mg base 1 "newest" ["tags", "many"] (spD K R_newest) := by
  refine defD g sc_newest (fun ds H Pd h => ?_) fun cdv A outer s f H vs ds Pd Q E hr r h q => ?_
  · obtain ⟨ns, k, rfl, _⟩ := h
    rfl
  obtain ⟨ns, k, rfl, hk, rfl⟩ := h
  obtain ⟨v1, v2, rfl, r1, r2⟩ := rps2 r
  refine ⟨_, (pss_one (ps_ret (pe_callTy (kc_tuple (K := K)) (by rfl) T.n_tuple boot_tuple (pa_cons (kpe_revL (K := K) (pe_slice (ksl_list (K := K)) (pv 0) (po_some (pe_un un_neg (pv 1))) po_none)) pa_nil)))), ?_⟩
  have eq : cutG (ns.map D.int) (some (-(k : Int))) none = (ns.drop (ns.length - k)).map D.int := by
    rw [cutG_neg _ _ hk, List.length_map, List.map_drop]
  have er : ((ns.drop (ns.length - k)).map D.int).reverse = (ns.reverse.take k).map D.int := by
    rw [← List.map_reverse, List.take_reverse]
  refine s_retD (K := K) (d := .tup ((ns.reverse.take k).map .int)) (ed_tupOf (ed_eq (ed_revL (ed_eq (ed_slL (ed_var rfl r1) (eo_some (ed_neg (ed_var rfl r2))) eo_none ?_) (congrArg D.lst eq)) ?_) (congrArg D.lst er))) fun v H1 e1 r => q v _ H1 e1 rfl r
  · rw [eq]
    exact enc_int.un _
  · rw [er]
    exact enc_int.un _
/-! ### barred -/
theorem mem_shown {st : St1} {l : List Int} {k : Int} (hs : ∀ o ∈ l, (stAt st o).1 = true → (stAt st o).2 ≠ []) : k ∈ (l.filter fun o => (stAt st o).1).map (fun o => ((stAt st o).2).headD 0) ↔ ∃ o ∈ l, k ∈ shownL (stAt st o) := by
  constructor
  · intro h
    obtain ⟨o, ho, rfl⟩ := List.mem_map.mp h
    obtain ⟨h1, h2⟩ := List.mem_filter.mp ho
    refine ⟨o, h1, ?_⟩
    unfold shownL
    rw [if_pos h2]
    have := hs o h1 h2
    cases hh : (stAt st o).2 with
    | nil => exact absurd hh this
    | cons t ts => simp
  · rintro ⟨o, ho, hk⟩
    unfold shownL at hk
    by_cases h2 : (stAt st o).1 = true
    · rw [if_pos h2] at hk
      refine List.mem_map.mpr ⟨o, List.mem_filter.mpr ⟨ho, h2⟩, ?_⟩
      cases hh : (stAt st o).2 with
      | nil =>
        rw [hh] at hk
        cases hk
      | cons t ts =>
        rw [hh] at hk
        simp at hk
        simp [hk]
    · rw [if_neg h2] at hk
      cases hk
def R_barred (K : PySem.W.Frag) (C : Addr) : List D → Hp → Pd → Prop := fun ds H P => ∃ a ms ties st r, ds = [.obj (.ref a), eT st, .int r] ∧ WebAt K C H a ms ties ∧ PartsOk ms ties ∧ ms.length ≤ 8 ∧ StOk st ∧ st.length = ms.length ∧ 0 ≤ r ∧ r < ms.length ∧
  P = fun d _ => ∃ ns : List Int, d = .tup (ns.map .int) ∧ ns.Pairwise (· < ·) ∧ ∀ k, k ∈ ns ↔ k ∈ barsL ms ties st r
theorem ok_barred (T : GTxt mg) (W : WTxt K C) (g : GDef K mg "barred" s_barred ["web", "standing", "room"]) (Gtied : Def P w K mg base 5 "tied" ["web", "room"] (spD K (R_tied K C))) : Def P w K mg base 6 "barred" ["web", "standing", "room"] (spD K (R_barred K C)) := by
  refine defD g sc_barred (fun ds H Pd h => ?_) fun cdv A outer s f H vs ds Pd Q E hr r h q => ?_
  · obtain ⟨a, ms, ties, st, r, rfl, _⟩ := h
    rfl
  obtain ⟨a, ms, ties, st, rm, rfl, x, ok, h8, sok, hl, h0, h1, rfl⟩ := h
  obtain ⟨v1, v2, v3, rfl, r1, r2, r3⟩ := rps3 r
  refine ⟨_, (pss_cons (ps_setLc (i := 3) (own := [("other", 5)]) rfl sc_barred.nd rfl rfl (sw_true rfl rfl rfl (by decide +kernel)) (kpi_tup (K := K) (pe_def Gtied (hr.mono (by decide)) (pa_cons (pv 0) (pa_cons (pv 2) pa_nil)))) (blkOk_by (N := N_barred) (sc := defScope s_barred) (by decide +kernel)) (fun _ _ _ _ _ => (pg_name (i := 5) sc_barred.nd rfl (Or.inl rfl))) (fun _ _ _ _ _ => (pts_one (pt_val (pe_ix (kix_tup (K := K)) (pe_ix (kix_tup (K := K)) (pv 1) (pv 5) (fun _ _ => rfl)) pe_int (fun _ _ => rfl))))) (fun _ _ _ _ _ => (pe_ix (kix_tup (K := K)) (pe_ix (kix_tup (K := K)) (pe_ix (kix_tup (K := K)) (pv 1) (pv 5) (fun _ _ => rfl)) pe_int (fun _ _ => rfl)) pe_int (fun _ _ => rfl))))
    (pss_cons (ps_set (i := 4) sc_barred.nd rfl (Or.inl rfl) (pe_callTy (kc_list (K := K)) (by rfl) T.n_list boot_list (pa_cons (pe_slice (ksl_tup (K := K)) (pe_ix (kix_tup (K := K)) (pe_ix (kix_tup (K := K)) (pv 1) (pv 2) (fun _ _ => rfl)) pe_int (fun _ _ => rfl)) po_none (po_some (pe_ix (kix_tup (K := K)) (kpe_fld (K := K) (pv 0) rfl) (pv 2) (fun _ _ => rfl)))) pa_nil)))
    (pss_one (ps_ret (pe_callTy (kc_tuple (K := K)) (by rfl) T.n_tuple boot_tuple (pa_cons (pe_callB (kc_sortedSet (w := w) rfl) (by rfl) T.n_sorted boot_sorted (pa_cons (pe_callTy (kc_setL (K := K) (w := w) rfl) (by rfl) T.n_set boot_set (pa_cons (pe_op op_cat (pv 3) (pv 4)) pa_nil)) pa_nil)) pa_nil)))))), ?_⟩
  have hin : ∀ o ∈ rawNear ties rm, 0 ≤ o ∧ o < ms.length := fun o h => near_in ok h
  have hst : ∀ {o : Int}, 0 ≤ o → o < ms.length → (st.map eR)[o.toNat]? = some (eR (stAt st o)) := fun a b => map_get (st_get a (by omega))
  have hm : ms[rm.toNat]? = some ((ms[rm.toNat]?).getD 0) := by
    rw [List.getElem?_eq_getElem (by omega)]
    rfl
  have hm0 := ok.mem _ (List.mem_of_getElem? hm)
  have nl := near_le ok h8 h0 h1
  have eq : cutG ((stAt st rm).2.map D.int) none (some ((ms[rm.toNat]?).getD 0)) = (ownL ms st rm).map D.int := by
    rw [cutG_hi _ _ hm0.1, ← List.map_take]
    rfl
  have hsh : ∀ o ∈ rawNear ties rm, (stAt st o).1 = true → (stAt st o).2 ≠ [] := fun o ho => sok.shown _ (st_mem (hin o ho).1 (by have := (hin o ho).2; omega))
  refine q_asgD (K := K) (ed_lcT (encS := .int) enc_int (rawNear ties rm) (fun o => (stAt st o).1) (fun o => ((stAt st o).2).headD 0) (ed_call (ea_cons (ed_var rfl r1) (ea_cons (ed_var rfl r3) ea_nil)) fun H1 e1 => ⟨a, ms, ties, rm, rfl, x.le e1, h0, h1, rfl⟩) (by omega) (fun _ => rfl)
    (fun o v H1 e1 ho rv => et_B (ed_ixT (ds := [_, _]) (ed_ixT (ed_var rfl (r2.le e1)) (ed_var rfl rv) (hin o ho).1 (hst (hin o ho).1 (hin o ho).2)) ed_int (by decide) rfl)) fun o v H1 e1 ho rv hb => ?_) fun v4 H1 e1 r4 => ?_
  · refine ed_ixT (ds := (stAt st o).2.map D.int) (ed_ixT (ds := [_, _]) (ed_ixT (d := eR (stAt st o)) (ed_var rfl (r2.le e1)) (ed_var rfl rv) (hin o ho).1 (hst (hin o ho).1 (hin o ho).2)) ed_int (by decide) rfl) ed_int (by decide) ?_
    have := hsh o ho hb
    cases hh : (stAt st o).2 with
    | nil => exact absurd hh this
    | cons t ts => rfl
  refine q_asgD (K := K) (ed_lstOfT (ds := (ownL ms st rm).map D.int) (ed_eq (ed_slT (ed_ixT (ds := [_, _]) (ed_ixT (d := eR (stAt st rm)) (ed_var rfl (r2.le e1)) (ed_var rfl (r3.le e1)) h0 (hst h0 h1)) ed_int (by decide) rfl) eo_none
    (eo_some (ed_ixT (ed_mem W (x.le e1) (ed_var rfl (r1.le e1))) (ed_var rfl (r3.le e1)) h0 (map_get hm)))) (congrArg D.tup eq)) (enc_int.un _)) fun v5 H2 e2 r5 => ?_
  have hol : (ownL ms st rm).length ≤ 30 := Nat.le_trans (List.length_take_le _ _) (by omega)
  have hfl := fm_len (rawNear ties rm) (fun o => (stAt st o).1) (fun o => ((stAt st o).2).headD 0)
  refine s_ret (K := K) (EP.weak (ep_tupOf (PL := fun es => ∃ ns' : List Int, es = ns'.map .int ∧ ns'.Pairwise (· < ·) ∧ ∀ k, k ∈ ns' ↔ k ∈ barsL ms ties st rm) (EP.weak (ep_sortedSet (w := w) (ns := ((rawNear ties rm).filter fun o => (stAt st o).1).map (fun o => ((stAt st o).2).headD 0) ++ ownL ms st rm) ?_ (ed_eq (ed_cat (ed_var rfl (r4.le e2)) (ed_var rfl r5) ?_ ?_) ?_)) fun d H3 _ p => ?_)) fun d H3 _ p => ?_) fun v d H3 e3 p r => q v d H3 ((e1.trans e2).trans e3) p r
  · rw [List.length_append]
    omega
  · rw [List.length_map (f := D.int), List.length_map (f := D.int)]
    omega
  · rw [← List.map_append]
    exact enc_int.un _
  · rw [List.map_append]
  · obtain ⟨ns', rfl, hs, hm⟩ := p
    refine ⟨_, rfl, ns', rfl, hs, fun k => ?_⟩
    rw [hm k, List.mem_append, mem_shown hsh]
    unfold barsL
    rw [List.mem_append, List.mem_flatMap]
    exact Or.comm
  · obtain ⟨es, rfl, ns', rfl, hb⟩ := p
    exact ⟨ns', rfl, hb.1, hb.2⟩
theorem ep_inT {σ : L2.St} {H : Hp} {ta tb : TE} {x : Int} {PN : List Int → Prop} (h : ED K ta σ H (.int x)) (h2 : EP K tb σ H fun d _ => ∃ ns : List Int, d = .tup (ns.map .int) ∧ PN ns) : EP K (tOp (rIn K false) ta tb) σ H (fun d _ => ∃ ns : List Int, PN ns ∧ d = .bl (decide (x ∈ ns))) :=
  ep_op h h2 fun v w d1 d2 H1 H2 _ _ p1 p2 r1 r2 Q q => by
    have p1' : d1 = .int x := p1
    subst p1'
    obtain ⟨ns, rfl, pn⟩ := p2
    obtain ⟨a, xs, rfl, s, rr⟩ := rp_tup r2
    have ex := ints_rps rr
    subst ex
    rw [rp_int r1]
    refine ⟨a, _, rfl, .inr s, rfl, flat_ints ns, ?_⟩
    rw [inV_ints]
    exact q _ _ H2 (Le.refl _) ⟨ns, pn, rfl⟩ (.bl _)
def R_gb (K : PySem.W.Frag) (C : Addr) : List D → Hp → Pd → Prop := fun ds H P => ∃ a ms ties st dd, ds = [.obj (.ref a), eT st, eD dd] ∧ WebAt K C H a ms ties ∧ PartsOk ms ties ∧ ms.length ≤ 8 ∧ StOk st ∧ st.length = ms.length ∧ 0 ≤ dd.room ∧ dd.room < ms.length ∧
  P = is (.bl (bad ms ties st dd))
theorem ok_gb (T : GTxt mg) (g : GDef K mg "gives_barred" s_gives_barred ["web", "standing", "deed"]) (Gbarred : Def P w K mg base 6 "barred" ["web", "standing", "room"] (spD K (R_barred K C))) : Def P w K mg base 7 "gives_barred" ["web", "standing", "deed"] (spD K (R_gb K C)) := by
  refine defD g sc_gives_barred (fun ds H Pd h => ?_) fun cdv A outer s f H vs ds Pd Q E hr r h q => ?_
  · obtain ⟨a, ms, ties, st, r, rfl, _⟩ := h
    rfl
  obtain ⟨a, ms, ties, st, dd, rfl, x, ok, h8, sok, hl, h0, h1, rfl⟩ := h
  obtain ⟨v1, v2, v3, rfl, r1, r2, r3⟩ := rps3 r
  refine ⟨_, (pss_one (ps_ret (pe_and (pe_cmpR op_eq (pe_ix (kix_tup (K := K)) (pv 2) pe_int (fun _ _ => rfl)) pe_str (nomark _)) (pe_one (pe_cmpR (kop_in (K := K)) (pe_ix (kix_tup (K := K)) (pv 2) pe_int (fun _ _ => rfl)) (pe_def Gbarred (hr.mono (by decide)) (pa_cons (pv 0) (pa_cons (pv 1) (pa_cons (pe_ix (kix_tup (K := K)) (pv 2) pe_int (fun _ _ => rfl)) pa_nil)))) (by rfl)))))), ?_⟩
  cases dd with
  | back rm =>
    refine s_retD (K := K) (d := .bl false) (ed_andV (b := true) (a := false) (ed_eq (ed_eqS (d1 := .str "back") (d2 := .str "give") (ed_ixT (ds := [_, _]) (ed_var rfl r3) ed_int (by decide) rfl) ed_str rfl rfl rfl) (congrArg D.bl vs_bg)) fun hb => nomatch hb) fun v H1 e1 r => q v _ H1 e1 rfl r
  | give rm t =>
    refine s_ret (K := K) (P := is (.bl (bad ms ties st (.give rm t)))) ?_ fun v d H1 e1 p r => q v d H1 e1 p r
    refine ed_eq (ed_andV (b := bad ms ties st (.give rm t)) (a := true) (ed_eq (ed_eqS (d1 := .str "give") (d2 := .str "give") (ed_ixT (ds := [_, _, _]) (ed_var rfl r3) ed_int (by decide) rfl) ed_str rfl rfl rfl) (congrArg D.bl vs_gg)) fun _ => ?_) rfl
    refine EP.weak (ep_inT (x := t) (PN := fun ns => ∀ k, k ∈ ns ↔ k ∈ barsL ms ties st rm) (ed_ixT (ds := [_, _, _]) (ed_var rfl r3) ed_int (by decide) rfl) (EP.weak (ed_call (P := fun d _ => ∃ ns : List Int, d = .tup (ns.map .int) ∧ ns.Pairwise (· < ·) ∧ ∀ k, k ∈ ns ↔ k ∈ barsL ms ties st rm) (ea_cons (ed_var rfl r1) (ea_cons (ed_var rfl r2) (ea_cons (ed_ixT (ds := [_, _, _]) (ed_var rfl r3) ed_int (by decide) rfl) ea_nil))) fun H1 e1 => ⟨a, ms, ties, st, rm, rfl, x.le e1, ok, h8, sok, hl, h0, h1, rfl⟩) fun d H2 _ ⟨ns, e, _, hm⟩ => ⟨ns, e, hm⟩)) fun d H2 _ p => ?_
    obtain ⟨ns, hn, rfl⟩ := p
    show D.bl (decide (t ∈ ns)) = D.bl (decide (t ∈ barsL ms ties st rm))
    rw [decide_eq_decide.mpr (hn t)]
end
end W1

set_option maxRecDepth 100000
set_option maxHeartbeats 4000000
namespace W1
open PySem PyProof.Rows L2
local macro_rules | `(tactic| walk_at "rp") => `(tactic| first | assumption | exact Rp.int _ | exact Rp.bl _ | exact Rp.str _ | exact Rp.non | exact Rp.obj _ | (refine Rp.le (by assumption) ?_; walk_at "rp"))
local macro_rules | `(tactic| walk_at "ed") => `(tactic| first
  | exact ed_int | exact ed_str | exact ed_bl | exact ed_non
  | (refine ed_var rfl ?_; walk_at "rp")
  | (refine ed_ixT (ds := [_, _]) ?_ ed_int (by decide) rfl; walk_at "ed")
  | (refine ed_I0 ?_ ?_ <;> walk_at "ed")
  | (refine ed_B0 ?_ ?_ <;> walk_at "ed")
  | (refine ed_eqS ?_ ?_ rfl rfl rfl <;> walk_at "ed")
  | assumption)
local macro_rules | `(tactic| walk_at "ea") => `(tactic| first | exact ea_nil | (refine ea_cons ?_ ?_; walk_at "ed"; walk_at "ea"))

abbrev s_standing_of : Stmt := topS 30
abbrev N_standing_of : List Str := ["web", "past", "held", "tags", "deed", "room", "_"]
theorem sc_standing_of : FnScope N_standing_of ["web", "past"] (defScope s_standing_of) := ⟨rfl, rfl, rfl, by decide +kernel, rfl, by decide +kernel, by decide +kernel⟩
theorem Rows.base {H H0 H1 : Hp} {L : Addr} {as : List Addr} {f : Nat → List Int} (r : Rows H L as f H1) (e : Le H0 H1) : Rows H L as f H0 :=
  ⟨r.top, r.row, fun a ha => e.fresh (r.new a ha), r.nd, r.nL, e.fresh r.nL0, e.trans r.le⟩
theorem Rows.off {H H0 : Hp} {L h : Addr} {as : List Addr} {f : Nat → List Int} {o : HO} (r : Rows H L as f H0) (n1 : h ≠ L) (n2 : h ∉ as) (n0 : H0 h = none) : Rows (upd H h o) L as f H0 :=
  ⟨by rw [upd_ne n1.symm]; exact r.top, fun i a ha => by
    have ne : a ≠ h := fun e => n2 (e ▸ List.mem_of_getElem? ha)
    rw [upd_ne ne]
    exact r.row i a ha, r.new, r.nd, r.nL, r.nL0, r.le.mut n0⟩
theorem Rows.nil_more {H1 : Hp} {L p : Addr} {as : List Addr} {H : Hp} (R : Rows H1 L as (fun _ => []) H) (np : H1 p = none) : Rows (upd (upd H1 p (.lst [])) L (.lst (as.map V.ref ++ [.ref p]))) L (as ++ [p]) (fun _ => []) H := by
  have npL : L ≠ p := ne_of_none R.top np
  have nas : ∀ a ∈ as, a ≠ p := fun a ha => by
    obtain ⟨j, hj⟩ := List.mem_iff_getElem?.mp ha
    exact ne_of_none (R.row j a hj) np
  refine ⟨?_, fun j a hj => ?_, fun a ha => ?_, ?_, ?_, R.nL0, ?_⟩
  · rw [upd_same, List.map_append]
    rfl
  · have ha : a ∈ as ++ [p] := List.mem_of_getElem? hj
    have hne : a ≠ L := by
      rcases List.mem_append.mp ha with ha | ha
      · exact fun e => R.nL (e ▸ ha)
      · rw [List.mem_singleton.mp ha]
        exact npL.symm
    rw [upd_ne hne]
    rcases List.mem_append.mp ha with ha | ha
    · rw [upd_ne (nas a ha)]
      obtain ⟨j2, hj2⟩ := List.mem_iff_getElem?.mp ha
      exact R.row j2 a hj2
    · rw [List.mem_singleton.mp ha]
      exact upd_same
  · rcases List.mem_append.mp ha with ha | ha
    · exact R.new a ha
    · rw [List.mem_singleton.mp ha]
      exact R.le.fresh np
  · rw [List.nodup_append]
    exact ⟨R.nd, by simp, fun a ha b hb => by rw [List.mem_singleton.mp hb]; exact nas a ha⟩
  · intro h
    rcases List.mem_append.mp h with h | h
    · exact R.nL h
    · exact npL (List.mem_singleton.mp h)
  · exact (R.le.trans (Le.new np)).mut R.nL0
section
variable {K : PySem.W.Frag} {σ : L2.St} {H : Hp} {ta te to ti : TE} {D1 : Ends} {vs : List Nat}
/-- [[] for _ in xs] -/
theorem rows_lcT {ds : List D} {j : Nat} (h : ED K ta σ H (.tup ds)) (hz : ds.length ≤ 50000) (hw : ∀ x, wipe ((wipe σ vs).set j (some x)) vs = wipe σ vs) {Q : VK}
    (k : ∀ L as H2, Rows H2 L as (fun _ => []) H → as.length = ds.length → Q (.ref L) H2) : tLc (iTup K ta) (gName j) tYes (tLst tNil) vs σ H Q := h H (Le.refl _) _ fun v d0 H2 e2 p r => by
  have p' : d0 = .tup ds := p
  subst p'
  obtain ⟨a, xs, rfl, s, rr⟩ := rp_tup r
  refine ⟨a, rfl, ⟨xs, s⟩, fun L hL => lc_it (walk_tup (xs := xs)) (fun i H' => ∃ as, Rows H' L as (fun _ => []) H2 ∧ as.length = i ∧ i ≤ ds.length) ⟨[], ⟨upd_same, fun i a h => by simp at h, fun a h => by simp at h, List.nodup_nil, by simp, hL, Le.new hL⟩, rfl, Nat.zero_le _⟩ (fun i H' _ ⟨as, R, _⟩ => R.le.sqt s) ?_ ?_⟩
  · rintro i x H1 _ hi ⟨as, R, hl, _⟩ ⟨rfl, hx⟩
    refine ⟨hw x, ?_⟩
    unfold tYes
    dsimp only
    rw [if_pos rfl]
    refine ⟨Nat.zero_le _, fun p np => ?_⟩
    have npL : L ≠ p := ne_of_none R.top np
    have hi' : i + 1 ≤ ds.length := by rw [← rr.len]; exact hi
    exact ⟨as.map V.ref, by rw [upd_ne npL]; exact R.top, by rw [List.length_map, hl]; exact Evl.sz_lt (by omega), as ++ [p], R.nil_more np, by rw [List.length_append, hl]; rfl, hi'⟩
  · rintro H1 ⟨as, R, hl, _⟩
    exact k L as H1 (R.base e2) (by rw [hl, rr.len])
theorem s_rows {ds : List D} {i j : Nat} (h : ED K ta σ H (.tup ds)) (hz : ds.length ≤ 50000) (hw : ∀ x, wipe ((wipe σ vs).set j (some x)) vs = wipe σ vs)
    (k : ∀ L as H2, Rows H2 L as (fun _ => []) H → as.length = ds.length → D1.nx (σ.set i (some (.ref L))) H2) : tAsg (tLc (iTup K ta) (gName j) tYes (tLst tNil) vs) (gName i) D1 σ H := rows_lcT (Q := fun v H2 => D1.nx (σ.set i (some v)) H2) h hz hw k
theorem q_rows {tz : TS} {ds : List D} {i j : Nat} (h : ED K ta σ H (.tup ds)) (hz : ds.length ≤ 50000) (hw : ∀ x, wipe ((wipe σ vs).set j (some x)) vs = wipe σ vs)
    (k : ∀ L as H2, Rows H2 L as (fun _ => []) H → as.length = ds.length → tz D1 (σ.set i (some (.ref L))) H2) : tSeq (tAsg (tLc (iTup K ta) (gName j) tYes (tLst tNil) vs) (gName i)) tz D1 σ H := s_rows (D1 := { D1 with nx := tz D1 }) h hz hw k
theorem ed_row {L : Addr} {as : List Addr} {f : Nat → List Int} {H0 : Hp} {i : Int} (R : Rows H L as f H0) (ho : ED K to σ H (.obj (.ref L))) (hi : ED K ti σ H (.int i)) (h0 : 0 ≤ i) (h1 : i.toNat < as.length) : ED K (tOp (rIxL K) to ti) σ H (.lst ((f i.toNat).map .int)) := fun H1 e Q q =>
  ho H1 e _ fun v d H2 e2 p r => hi H2 (e.trans e2) _ fun v2 d2 H3 e3 p2 r2 => by
    have p' : d = .obj (.ref L) := p
    have p2' : d2 = .int i := p2
    subst p' p2'
    have ev := rp_obj r
    have ev2 := rp_int r2
    subst ev ev2
    have R3 := R.le2 ((e.trans e2).trans e3)
    have ha : as[i.toNat]? = some as[i.toNat] := List.getElem?_eq_getElem h1
    exact ⟨L, _, i, .ref as[i.toNat], rfl, rfl, SqL.of R3.top, at_of (j := i.toNat) (by omega) (by rw [List.getElem?_map, ha]; rfl), q _ _ H3 (e2.trans e3) rfl (.lst (R3.row _ _ ha) (notH_ints _) (rps_ints _))⟩
theorem s_appRow {L : Addr} {as : List Addr} {f : Nat → List Int} {H0 : Hp} {i z : Int} (R : Rows H L as f H0) (ho : ED K to σ H (.obj (.ref L))) (hi : ED K ti σ H (.int i)) (h0 : 0 ≤ i) (h1 : i.toNat < as.length) (he : ED K te σ H (.int z)) (hz : (f i.toNat).length < 100000)
    (k : ∀ H1 a, Le H H1 → as[i.toNat]? = some a → H1 a = some (.lst ((f i.toNat).map V.int)) → Rows (upd H1 a (.lst ((f i.toNat).map V.int ++ [.int z]))) L as (fun j => if j = i.toNat then f i.toNat ++ [z] else f j) H0 → D1.nx σ (upd H1 a (.lst ((f i.toNat).map V.int ++ [.int z])))) :
    tDrop (tBM K "list" rAppend (tOp (rIxL K) to ti) (tCons te tNil)) D1 σ H := ho H (Le.refl _) _ fun v d H2 e2 p r => hi H2 e2 _ fun v2 d2 H3 e3 p2 r2 => by
    have p' : d = .obj (.ref L) := p
    have p2' : d2 = .int i := p2
    subst p' p2'
    have ev := rp_obj r
    have ev2 := rp_int r2
    subst ev ev2
    have R3 := R.le2 (e2.trans e3)
    have ha : as[i.toNat]? = some as[i.toNat] := List.getElem?_eq_getElem h1
    refine ⟨L, _, i, .ref as[i.toNat], rfl, rfl, SqL.of R3.top, at_of (j := i.toNat) (by omega) (by rw [List.getElem?_map, ha]; rfl), .inl ⟨rfl, _, SqL.of (R3.row _ _ ha)⟩, he H3 (e2.trans e3) _ fun y d3 H4 e4 p3 r3 => ?_⟩
    have p3' : d3 = .int z := p3
    subst p3'
    have ev3 := rp_int r3
    subst ev3
    have R4 := R3.le2 e4
    exact ⟨as[i.toNat], _, .int z, rfl, rfl, R4.row _ _ ha, by rw [List.length_map]; exact Evl.sz_lt hz, k H4 _ ((e2.trans e3).trans e4) ha (R4.row _ _ ha) (R4.put ha)⟩
end
section
variable {K : PySem.W.Frag} {σ : L2.St} {H : Hp} {ta te : TE} {tt : TT} {vs : List Nat}
theorem ef_lcT {ds : List D} {j : Nat} {I : Nat → List D → Prop} {PT : Nat → D → Bool → Prop} (G : Good I) (h : ED K ta σ H (.tup ds)) (hw : ∀ x, wipe ((wipe σ vs).set j (some x)) vs = wipe σ vs) (h0 : I 0 [])
    (ht : ∀ (i : Nat) d v acc H1, Le H H1 → ds[i]? = some d → Rp K H1 v d → I i acc → ET tt ((wipe σ vs).set j (some v)) H1 (PT i d))
    (he : ∀ (i : Nat) d v acc H1, Le H H1 → ds[i]? = some d → Rp K H1 v d → I i acc → PT i d true → EP K te ((wipe σ vs).set j (some v)) H1 (fun d' _ => I (i + 1) (acc ++ [d']) ∧ NoL d'))
    (hf : ∀ (i : Nat) d acc, ds[i]? = some d → I i acc → PT i d false → I (i + 1) acc) : EF K (tLc (iTup K ta) (gName j) tt te vs) σ H (fun acc => I ds.length acc) := fun H1 e Q q => h H1 e _ fun v d0 H2 e2 p r => by
  have p' : d0 = .tup ds := p
  subst p'
  obtain ⟨a, xs, rfl, s, rr⟩ := rp_tup r
  refine ⟨a, rfl, ⟨xs, s⟩, fun L hL => lc_it (walk_tup (xs := xs)) (CI K H2 L I) (ci_start hL h0) (fun i H' _ c => c.2.1.sqt s) ?_ (fun H' c => ?_)⟩
  · rintro i x H' _ hi c ⟨rfl, hx⟩
    obtain ⟨d, h1, h2⟩ := rr.at' hx
    exact ⟨hw x, ci_turn G c (fun acc ia => ht i d x acc H2 (e.trans e2) h1 h2 ia) (fun acc ia pt => he i d x acc H2 (e.trans e2) h1 h2 ia pt) (fun acc ia pt => hf i d acc h1 ia pt)⟩
  · rw [rr.len] at c
    obtain ⟨q1, q2, ws, acc, q3, q4, q5⟩ := c
    exact q L ws acc H' (e2.fresh q1) (e2.trans q2) q3 ((G.uni _ acc q5).notH q4) q4 q5
theorem ed_give {dd : Deed} (h : ED K te σ H (eD dd)) : ED K (tOp rEq (tOp (rIxT K) te (tC (.int 0))) (tC (.str "give"))) σ H (.bl (isG dd)) := by
  cases dd with
  | give r t => exact ed_eq (ed_eqS (d1 := .str "give") (d2 := .str "give") (ed_ixT (ds := [_, _, _]) h ed_int (by decide) rfl) ed_str rfl rfl rfl) (congrArg D.bl vs_gg)
  | back r => exact ed_eq (ed_eqS (d1 := .str "back") (d2 := .str "give") (ed_ixT (ds := [_, _]) h ed_int (by decide) rfl) ed_str rfl rfl rfl) (congrArg D.bl vs_bg)
theorem ed_droom {dd : Deed} (h : ED K te σ H (eD dd)) : ED K (tOp (rIxT K) te (tC (.int 1))) σ H (.int dd.room) := by
  cases dd with
  | give r t => exact ed_ixT (ds := [_, _, _]) h ed_int (by decide) rfl
  | back r => exact ed_ixT (ds := [_, _]) h ed_int (by decide) rfl
theorem ed_dtag {r t : Int} (h : ED K te σ H (eD (.give r t))) : ED K (tOp (rIxT K) te (tC (.int 2))) σ H (.int t) := ed_ixT (ds := [_, _, _]) h ed_int (by decide) rfl
end
/-! ### states behind pasts -/
def stF (n : Nat) (p : List Deed) : St1 := p.foldl doneL (List.replicate n (false, []))
theorem stF_len (n : Nat) (p : List Deed) : (stF n p).length = n := by
  have : ∀ (p : List Deed) (st : St1), (p.foldl doneL st).length = st.length := by
    intro p
    induction p with
    | nil => exact fun _ => rfl
    | cons d p ih => exact fun st => (ih _).trans (doneL_len _ _)
  exact (this p _).trans List.length_replicate
theorem stF_more (n : Nat) (p : List Deed) (d : Deed) : stF n (p ++ [d]) = doneL (stF n p) d := by
  unfold stF
  rw [List.foldl_append]
  rfl
theorem take_more {α : Type} {p : List α} {i : Nat} {d : α} (h : p[i]? = some d) : p.take (i + 1) = p.take i ++ [d] := by
  rw [List.take_add_one, h]
  rfl
def cutSt (ms : List Int) (st : St1) : St1 := (List.range st.length).map fun i : Nat => ((stAt st (i : Int)).1, (stAt st (i : Int)).2.take (keptN ms (i : Int)))
theorem st_at_rep (n : Nat) (r : Int) : stAt (List.replicate n (false, [])) r = (false, []) := by
  unfold stAt
  rw [List.getElem?_replicate]
  split <;> rfl
theorem st_at_set {st : St1} {r j : Int} {x : Bool × List Int} (h0 : 0 ≤ r) (h1 : r < st.length) (hj : 0 ≤ j) : stAt (st.set r.toNat x) j = if j = r then x else stAt st j := by
  unfold stAt
  by_cases h : j = r
  · subst h
    rw [if_pos rfl, List.getElem?_set_self (by omega)]
    rfl
  · rw [if_neg h, List.getElem?_set_ne (by omega)]
theorem doneL_eq (st : St1) (dd : Deed) : doneL st dd = st.set dd.room.toNat (isG dd, match dd with | .give _ t => t :: (stAt st dd.room).2 | .back _ => (stAt st dd.room).2) := by cases dd <;> rfl
theorem st_tags_len (n : Nat) : ∀ (p : List Deed), (∀ d ∈ p, 0 ≤ d.room ∧ d.room < n) → ∀ j, (stAt (stF n p) j).2.length ≤ p.length := by
  have : ∀ (m : Nat) (p : List Deed), p.length = m → (∀ d ∈ p, 0 ≤ d.room ∧ d.room < n) → ∀ x ∈ stF n p, x.2.length ≤ p.length := by
    intro m
    induction m with
    | zero =>
      intro p hp _ x hx
      have : p = [] := List.length_eq_zero_iff.mp hp
      subst this
      rw [List.eq_of_mem_replicate hx]
      exact Nat.le_refl _
    | succ m ih =>
      intro p hp hr x hx
      obtain ⟨p', d, rfl⟩ : ∃ p' d, p = p' ++ [d] := ⟨p.dropLast, p.getLast (fun e => by rw [e] at hp; cases hp), (List.dropLast_concat_getLast _).symm⟩
      have ih' := ih p' (by rw [List.length_append] at hp; exact Nat.succ.inj hp) fun d hd => hr d (List.mem_append_left _ hd)
      rw [stF_more, doneL_eq] at hx
      rw [List.length_append]
      have hd := hr d (List.mem_append_right _ (List.mem_singleton.mpr rfl))
      have hg : (stAt (stF n p') d.room).2.length ≤ p'.length := ih' _ (st_mem hd.1 (by rw [stF_len]; exact hd.2))
      rcases mem_set_of hx with rfl | hx
      · cases d with
        | give r t =>
          show (stAt (stF n p') r).2.length + 1 ≤ p'.length + 1
          have e : (Deed.give r t).room = r := rfl
          rw [e] at hg
          omega
        | back r =>
          show (stAt (stF n p') r).2.length ≤ p'.length + 1
          have e : (Deed.back r).room = r := rfl
          rw [e] at hg
          omega
      · have := ih' x hx
        show _ ≤ p'.length + 1
        omega
  intro p hr j
  cases h : (stF n p)[j.toNat]? with
  | none =>
    unfold stAt
    rw [h]
    exact Nat.zero_le _
  | some x =>
    have e : stAt (stF n p) j = x := by
      unfold stAt
      rw [h]
      rfl
    rw [e]
    exact this _ p rfl hr x (List.mem_of_getElem? h)
section
variable {P : Program} {w : World} {K : PySem.W.Frag} {mg : Str → Option Value} {base : Heap} {C : Addr}
def R_so (K : PySem.W.Frag) (C : Addr) : List D → Hp → Pd → Prop := fun ds H P => ∃ a ms ties past, ds = [.obj (.ref a), .tup (List.map eD past)] ∧ WebAt K C H a ms ties ∧ ms.length ≤ 60 ∧ past.length ≤ 5000 ∧ (∀ d ∈ past, 0 ≤ d.room ∧ d.room < ms.length) ∧
  P = is (eT (cutSt ms (stF ms.length past)))
theorem ok_so (T : GTxt mg) (W : WTxt K C) (g : GDef K mg "standing_of" s_standing_of ["web", "past"]) (Gkept_tags : Def P w K mg base 1 "kept_tags" ["web", "room"] (spD K (R_kept K C))) (Gnewest : Def P w K mg base 1 "newest" ["tags", "many"] (spD K R_newest)) :
    Def P w K mg base 2 "standing_of" ["web", "past"] (spD K (R_so K C)) := by
  refine defD g sc_standing_of (fun ds H Pd h => ?_) fun cdv A outer s f H vs ds Pd Q E hr r h q => ?_
  · obtain ⟨a, ms, ties, past, rfl, _⟩ := h
    rfl
  obtain ⟨a, ms, ties, past, rfl, x, h60, hp, hrm, rfl⟩ := h
  obtain ⟨v1, v2, rfl, r1, r2⟩ := rps2 r
  refine ⟨_, (pss_cons (ps_set (i := 2) sc_standing_of.nd rfl (Or.inr rfl) (pe_lc (own := [("_", 6)]) rfl sc_standing_of.nd (kpi_tup (K := K) (kpe_fld (K := K) (pv 0) rfl)) (blkOk_by (N := N_standing_of) (sc := defScope s_standing_of) (by decide +kernel)) (fun _ _ _ _ _ => (pg_name (i := 6) sc_standing_of.nd rfl (Or.inl rfl))) (fun _ _ _ _ _ => pts_nil) (fun _ _ _ _ _ => pe_bl)))
    (pss_cons (ps_set (i := 3) sc_standing_of.nd rfl (Or.inr rfl) (pe_lc (own := [("_", 6)]) rfl sc_standing_of.nd (kpi_tup (K := K) (kpe_fld (K := K) (pv 0) rfl)) (blkOk_by (N := N_standing_of) (sc := defScope s_standing_of) (by decide +kernel)) (fun _ _ _ _ _ => (pg_name (i := 6) sc_standing_of.nd rfl (Or.inl rfl))) (fun _ _ _ _ _ => pts_nil) (fun _ _ _ _ _ => (pe_lst pa_nil))))
    (pss_cons (ps_for PassesOwn.never rfl (kpi_tup (K := K) (pv 1)) (pg_name (i := 4) sc_standing_of.nd rfl (Or.inl rfl))
      (pss_cons (ps_set (i := 5) sc_standing_of.nd rfl (Or.inl rfl) (pe_ix (kix_tup (K := K)) (pv 4) pe_int (fun _ _ => rfl)))
    (pss_cons (ps_asg (pe_cmpR op_eq (pe_ix (kix_tup (K := K)) (pv 4) pe_int (fun _ _ => rfl)) pe_str (nomark _)) (pg_sub (pv 2) (pv 5) set_list))
    (pss_one (ps_if (pt_val (pe_ix (kix_list (K := K)) (pv 2) (pv 5) (fun _ _ => rfl)))
      (pss_one (ps_expr (pe_bm PySem.F.plainAttrs_list PySem.F.slot_list_append PySem.F.type_list_append mt_append (pe_ix (kix_list (K := K)) (pv 3) (pv 5) (fun _ _ => rfl)) (pa_cons (pe_ix (kix_tup (K := K)) (pv 4) pe_int (fun _ _ => rfl)) pa_nil))))
      pss_nil)))))
    (pss_one (ps_ret (pe_callTy (kc_tuple (K := K)) (by rfl) T.n_tuple boot_tuple (pa_cons (pe_lc (own := [("room", 5)]) rfl sc_standing_of.nd (pi_range1 (by rfl) T.n_range (pa_cons (pe_callB (kc_len (K := K)) (by rfl) T.n_len boot_len (pa_cons (pv 2) pa_nil)) pa_nil)) (blkOk_by (N := N_standing_of) (sc := defScope s_standing_of) (by decide +kernel)) (fun _ _ _ _ _ => (pg_name (i := 5) sc_standing_of.nd rfl (Or.inl rfl))) (fun _ _ _ _ _ => pts_nil) (fun _ _ _ _ _ => (pe_tup (pa_cons (pe_ix (kix_list (K := K)) (pv 2) (pv 5) (fun _ _ => rfl)) (pa_cons (pe_def Gnewest (hr.mono (by decide)) (pa_cons (pe_ix (kix_list (K := K)) (pv 3) (pv 5) (fun _ _ => rfl)) (pa_cons (pe_def Gkept_tags (hr.mono (by decide)) (pa_cons (pv 0) (pa_cons (pv 5) pa_nil))) pa_nil))) pa_nil))))) pa_nil))))))), ?_⟩
  have n0 : ∀ i, (stF ms.length (past.take i)).length = ms.length := fun i => stF_len _ _
  -- held = [False for _ in web.memories]
  refine q_asgF (K := K) (ef_lcT (I := GI D.bl fun i zs => zs = List.replicate i false ∧ i ≤ ms.length) (PT := fun i d b => b = true) (good enc_bl _) (ed_mem W x (ed_var rfl r1)) (fun _ => rfl) ⟨[], rfl, Nat.zero_le _, rfl, Nat.zero_le _⟩ (fun i d v acc H1 e hd rv _ => et_yes) (fun i d v acc H1 e hd rv ia _ => ?_) (fun i d acc hd _ hf => nomatch hf)) fun hh us ds H1 nh0 e1 hc nhh rr hd => ?_
  · obtain ⟨zs, rfl, hz, rfl, hi⟩ := ia
    have hlt := (List.getElem?_eq_some_iff.mp hd).1
    rw [List.length_map] at hlt
    refine EP.weak ed_bl fun d' H2 _ p => ?_
    have p' : d' = .bl false := p
    subst p'
    exact ⟨GI.more (by simp; omega) ⟨by rw [← List.replicate_succ'], hlt⟩, .bl _⟩
  obtain ⟨zs, rfl, hz, hzs, _⟩ := hd
  rw [List.length_map] at hzs
  subst hzs
  have hus := bls_rps rr
  subst hus
  -- tags = [[] for _ in web.memories]
  refine q_rows (K := K) (ds := ms.map .int) (ed_mem W (x.le e1) (ed_var rfl (r1.le e1))) (by rw [List.length_map]; omega) (fun _ => rfl) fun L as H2 R hl => ?_
  rw [List.length_map] at hl
  have hne : hh ≠ L := ne_of_none hc R.nL0
  have hni : hh ∉ as := fun hm => by
    have h := R.new hh hm
    rw [hc] at h
    cases h
  have e12 := e1.trans R.le
  -- for deed in past
  refine q_forT (K := K) (ds := past.map eD) (ed_var rfl (r2.le e12)) (enc_D.nl _) fun H3 e3 => ?_
  refine ⟨fun i σ H' => ∃ y4 y5, σ = [some v1, some v2, some (.ref hh), some (.ref L), y4, y5, none] ∧ LeT H3 H' ∧ Le H H' ∧ H' hh = some (.lst (((stF ms.length (past.take i)).map (·.1)).map V.bl)) ∧ Rows H' L as (fun j => (stAt (stF ms.length (past.take i)) (j : Int)).2.reverse) H,
    ⟨none, none, rfl, LeT.refl _, e12.trans e3, ?_, ?_⟩, fun i σ H' _ ⟨_, _, _, e, _⟩ => e, ?_, ?_⟩
  · have e5 : (stF ms.length (past.take 0)).map (·.1) = List.replicate ms.length false := by
      rw [List.take_zero]
      show (List.replicate ms.length ((false, []) : Bool × List Int)).map (·.1) = _
      rw [List.map_replicate]
    rw [e5]
    exact e3.lst (R.le.lst hc nhh) nhh
  · have e5 : (fun j : Nat => (stAt (stF ms.length (past.take 0)) (j : Int)).2.reverse) = fun _ => [] := by
      funext j
      rw [List.take_zero]
      show (stAt (List.replicate ms.length (false, [])) (j : Int)).2.reverse = []
      rw [st_at_rep]
      rfl
    rw [e5]
    exact (R.base e1).le2 e3
  · rintro i d v σ' H' hd rv ⟨y4, y5, rfl, et, el, hH, R'⟩
    obtain ⟨dd, hdd, rfl⟩ := map_at hd
    obtain ⟨rm0, rm1⟩ := hrm dd (List.mem_of_getElem? hdd)
    generalize hst : stF ms.length (past.take i) = st at *
    have stl : st.length = ms.length := by rw [← hst, stF_len]
    have etk : stF ms.length (past.take (i + 1)) = doneL st dd := by rw [take_more hdd, stF_more, hst]
    have tl : (stAt st dd.room).2.length ≤ 5000 := by
      have := st_tags_len ms.length (past.take i) (fun d hd => hrm d (List.mem_of_mem_take hd)) dd.room
      rw [hst] at this
      have := List.length_take_le' i past
      omega
    -- room = deed[1]
    refine q_asgD (K := K) (ed_droom (ed_var rfl rv)) fun v5 H4 e4 r5 => ?_
    have ev5 := rp_int r5
    subst ev5
    -- held[room] = deed[0] == 'give'
    refine q_set (K := K) (ds := (st.map (·.1)).map D.bl) (i := dd.room) (e4.lst hH (notH_bls _)) (notH_bls _) (by simp) (ed_give (ed_var rfl (rv.le e4))) (fun H5 e5 => ed_var rfl (.obj _)) (fun H5 e5 => ed_var rfl (.int _)) rm0 (by simp; omega) fun y d H5 H6 e5 p e6 ry hc6 => ?_
    have p' : d = .bl (isG dd) := p
    subst p'
    have ey := rp_bl ry
    subst ey
    have e46 := (e4.trans e5).trans e6
    have eB : ((st.map (·.1)).map V.bl).set dd.room.toNat (.bl (isG dd)) = ((doneL st dd).map (·.1)).map V.bl := by
      rw [doneL_eq, List.map_set, List.map_set]
    rw [eB]
    have R6 := (R'.le2 e46).off (o := .lst (((doneL st dd).map (·.1)).map V.bl)) hne hni nh0
    have et6 := (et.trans e46.t).trans (LeT.upd (o := .lst (((doneL st dd).map (·.1)).map V.bl)) hc6)
    have el6 := (el.trans e46).mut (o := .lst (((doneL st dd).map (·.1)).map V.bl)) nh0
    have rv6 := (rv.le e46).leT (LeT.upd (o := .lst (((doneL st dd).map (·.1)).map V.bl)) hc6) (enc_D.noL _)
    have hB : (upd H6 hh (.lst (((doneL st dd).map (·.1)).map V.bl))) hh = some (.lst (((doneL st dd).map (·.1)).map V.bl)) := upd_same
    generalize upd H6 hh (.lst (((doneL st dd).map (·.1)).map V.bl)) = H7 at *
    -- if held[room]
    refine s_ifB (b := isG dd) (et_B (K := K) (ed_ixL (ds := ((doneL st dd).map (·.1)).map D.bl) (i := dd.room) (ed_var rfl (.lst hB (notH_bls _) (rps_bls _))) (ed_var rfl (.int _)) rm0 ?_)) (fun hb H8 e8 => ?_) (fun hb H8 e8 => ?_)
    · refine map_get ?_
      rw [List.getElem?_map, doneL_eq, List.getElem?_set_self (by omega)]
      rfl
    · cases dd with
      | back rm => cases hb
      | give rm t =>
        refine s_appRow (K := K) (i := rm) (z := t) (R6.le2 e8) (ed_var rfl (.obj _)) (ed_var rfl (.int _)) rm0 (by rw [hl]; have e9 : (Deed.give rm t).room = rm := rfl; rw [e9] at rm0 rm1; omega) (ed_dtag (ed_var rfl (rv6.le e8))) ?_ fun H9 a e9 ha hra R9 => ?_
        · rw [List.length_reverse]
          have e9 : (Deed.give rm t).room = rm := rfl
          rw [e9] at rm0 tl
          have e10 : ((rm.toNat : Nat) : Int) = rm := by omega
          rw [e10]
          omega
        · have hna : hh ≠ a := fun e => hni (e ▸ List.mem_of_getElem? ha)
          refine ⟨_, _, rfl, (et6.trans (e8.trans e9).t).trans (LeT.upd hra), (el6.trans (e8.trans e9)).mut (R6.new a (List.mem_of_getElem? ha)), by rw [etk, upd_ne hna]; exact (e8.trans e9).lst hB (notH_bls _), ?_⟩
          rw [etk]
          have ef : (fun j : Nat => (stAt (doneL st (.give rm t)) (j : Int)).2.reverse) = fun j : Nat => if j = rm.toNat then (stAt st ((rm.toNat : Nat) : Int)).2.reverse ++ [t] else (stAt st (j : Int)).2.reverse := by
            have e9 : (Deed.give rm t).room = rm := rfl
            rw [e9] at rm0 rm1
            funext j
            show (stAt (st.set rm.toNat (true, t :: (stAt st rm).2)) (j : Int)).2.reverse = _
            rw [st_at_set rm0 (by omega) (by omega)]
            by_cases hj : j = rm.toNat
            · have e10 : ((rm.toNat : Nat) : Int) = rm := by omega
              rw [if_pos (by omega), if_pos hj, e10, List.reverse_cons]
            · rw [if_neg (by omega), if_neg hj]
          rw [ef]
          exact R9
    · cases dd with
      | give rm t => cases hb
      | back rm =>
        refine ⟨_, _, rfl, et6.trans e8.t, el6.trans e8, by rw [etk]; exact e8.lst hB (notH_bls _), ?_⟩
        rw [etk]
        have ef : (fun j : Nat => (stAt (doneL st (.back rm)) (j : Int)).2.reverse) = fun j : Nat => (stAt st (j : Int)).2.reverse := by
          have e9 : (Deed.back rm).room = rm := rfl
          rw [e9] at rm0 rm1
          funext j
          show (stAt (st.set rm.toNat (false, (stAt st rm).2)) (j : Int)).2.reverse = _
          rw [st_at_set rm0 (by omega) (by omega)]
          by_cases hj : (j : Int) = rm
          · rw [if_pos hj, hj]
          · rw [if_neg hj]
        rw [ef]
        exact R6.le2 e8
  · rintro σ' H' ⟨y4, y5, rfl, et, el, hH, R'⟩
    rw [List.length_map, List.take_length] at hH R'
    have stl : (stF ms.length past).length = ms.length := stF_len _ _
    generalize stF ms.length past = st at *
    have rH : Rp K H' (.ref hh) (.lst ((st.map (·.1)).map D.bl)) := .lst hH (notH_bls _) (rps_bls _)
    refine s_retD (K := K) (d := eT (cutSt ms st)) (ed_eq (ed_tupOf (ed_lcR enc_R (n := ms.length) (fun _ => true) (fun i => ((stAt st (i : Int)).1, (stAt st (i : Int)).2.take (keptN ms (i : Int)))) (ea_cons (ed_eq (ed_lenL (ed_var rfl rH)) ?_) ea_nil) (by omega) (fun _ => rfl) (fun i H4 e4 hi => et_yes) fun i H4 e4 hi _ => ?_)) ?_) fun v H4 e4 r => q v _ H4 (el.trans e4) rfl r
    · simp [stl]
    · refine ed_tup (ea_cons (ed_ixL (ds := (st.map (·.1)).map D.bl) (i := (i : Int)) (ed_var rfl (rH.le e4)) (ed_var rfl (.int _)) (by omega) ?_) (ea_cons (ed_call (ea_cons (ed_row (R'.le2 e4) (i := (i : Int)) (ed_var rfl (.obj _)) (ed_var rfl (.int _)) (by omega) (by omega)) (ea_cons (ed_call (P := is (.int (keptN ms (i : Int) : Int))) (ea_cons (ed_var rfl (r1.le (el.trans e4))) (ea_cons (ed_var rfl (.int _)) ea_nil)) fun H5 e5 => ⟨a, ms, ties, (i : Int), rfl, x.le ((el.trans e4).trans e5), by omega, by omega, rfl⟩) ea_nil)) fun H5 e5 => ⟨_, keptN ms (i : Int), rfl, kept_pos _ _, ?_⟩) ea_nil)) (by show 2 ≤ 100000; decide)
      · refine map_get ?_
        rw [List.getElem?_map, st_get (by omega) (by omega)]
        rfl
      · rw [Int.toNat_natCast, List.reverse_reverse]
    · rw [List.filter_eq_self.mpr (fun _ _ => rfl)]
      unfold cutSt
      rw [stl]
end
end W1

set_option maxRecDepth 100000
set_option maxHeartbeats 4000000
namespace W1
open PySem PyProof.Rows L2
local macro_rules | `(tactic| walk_at "rp") => `(tactic| first | assumption | exact Rp.int _ | exact Rp.bl _ | exact Rp.str _ | exact Rp.non | exact Rp.obj _ | (refine Rp.le (by assumption) ?_; walk_at "rp"))
local macro_rules | `(tactic| walk_at "ed") => `(tactic| first
  | exact ed_int | exact ed_str | exact ed_bl | exact ed_non
  | (refine ed_var rfl ?_; walk_at "rp")
  | (refine ed_ixT (ds := [_, _]) ?_ ed_int (by decide) rfl; walk_at "ed")
  | (refine ed_I0 ?_ ?_ <;> walk_at "ed")
  | (refine ed_B0 ?_ ?_ <;> walk_at "ed")
  | (refine ed_eqS ?_ ?_ rfl rfl rfl <;> walk_at "ed")
  | assumption)
local macro_rules | `(tactic| walk_at "ea") => `(tactic| first | exact ea_nil | (refine ea_cons ?_ ?_; walk_at "ed"; walk_at "ea"))

abbrev s_first_barred : Stmt := topS 35
abbrev N_first_barred : List Str := ["web", "past", "standing", "at", "deed"]
theorem sc_first_barred : FnScope N_first_barred ["web", "past"] (defScope s_first_barred) := ⟨rfl, rfl, rfl, by decide +kernel, rfl, by decide +kernel, by decide +kernel⟩
theorem st_ext {a b : St1} (hl : a.length = b.length) (h : ∀ j : Nat, j < a.length → stAt a (j : Int) = stAt b (j : Int)) : a = b := by
  refine List.ext_getElem? fun j => ?_
  by_cases hj : j < a.length
  · have h1 := st_get (st := a) (r := (j : Int)) (by omega) (by omega)
    have h2 := st_get (st := b) (r := (j : Int)) (by omega) (by omega)
    rw [Int.toNat_natCast] at h1 h2
    rw [h1, h2, h j hj]
  · rw [List.getElem?_eq_none (by omega), List.getElem?_eq_none (by omega)]
theorem cut_len (ms : List Int) (st : St1) : (cutSt ms st).length = st.length := by
  unfold cutSt
  rw [List.length_map, List.length_range]
theorem cut_at (ms : List Int) (st : St1) {j : Int} (h0 : 0 ≤ j) (h1 : j < st.length) : stAt (cutSt ms st) j = ((stAt st j).1, (stAt st j).2.take (keptN ms j)) := by
  have e : ((j.toNat : Nat) : Int) = j := by omega
  have h2 : j.toNat < st.length := by omega
  have h3 : (cutSt ms st)[j.toNat]? = some ((stAt st j).1, (stAt st j).2.take (keptN ms j)) := by
    unfold cutSt
    rw [List.getElem?_map, List.getElem?_range h2]
    show some ((stAt st ((j.toNat : Nat) : Int)).1, (stAt st ((j.toNat : Nat) : Int)).2.take (keptN ms ((j.toNat : Nat) : Int))) = _
    rw [e]
  rw [show stAt (cutSt ms st) j = ((cutSt ms st)[j.toNat]?).getD (false, []) from rfl, h3]
  rfl
theorem cut_start (ms : List Int) (n : Nat) : cutSt ms (List.replicate n (false, [])) = List.replicate n (false, []) := by
  refine st_ext (by rw [cut_len]) fun j hj => ?_
  rw [cut_len] at hj
  rw [cut_at ms _ (by omega) (by omega), st_at_rep]
  dsimp only
  rw [List.take_nil]
theorem take_cons_take {α : Type} (t : α) (l : List α) {k : Nat} (h : 1 ≤ k) : (t :: l.take k).take k = (t :: l).take k := by
  obtain ⟨m, rfl⟩ : ∃ m, k = m + 1 := ⟨k - 1, by omega⟩
  rw [List.take_succ_cons, List.take_succ_cons, List.take_take, Nat.min_eq_left (Nat.le_succ m)]
theorem cut_wd {ms : List Int} {st : St1} {dd : Deed} (h0 : 0 ≤ dd.room) (h1 : dd.room < st.length) : wdL ms (cutSt ms st) dd = cutSt ms (doneL st dd) := by
  refine st_ext (by rw [wdL_len, cut_len, cut_len, doneL_len]) fun j hj => ?_
  rw [wdL_len, cut_len] at hj
  rw [cut_at ms (doneL st dd) (by omega) (by rw [doneL_len]; omega), wdL_eq, doneL_eq, st_at_set h0 (by rw [cut_len]; exact h1) (by omega), st_at_set h0 h1 (by omega)]
  by_cases hr : (j : Int) = dd.room
  · rw [if_pos hr, if_pos hr, hr]
    cases dd with
    | give r t =>
      show (true, (t :: (stAt (cutSt ms st) r).2).take (keptN ms r)) = (true, (t :: (stAt st r).2).take (keptN ms r))
      rw [cut_at ms st (j := r) h0 h1, take_cons_take _ _ (kept_pos ms r)]
    | back r =>
      show (false, (stAt (cutSt ms st) r).2) = (false, (stAt st r).2.take (keptN ms r))
      rw [cut_at ms st (j := r) h0 h1]
  · rw [if_neg hr, if_neg hr, cut_at ms st (by omega) (by omega)]
theorem cut_bars {ms : List Int} {ties : List (Int × Int)} {st : St1} {r : Int} (ok : PartsOk ms ties) (hl : st.length = ms.length) (h0 : 0 ≤ r) (h1 : r < ms.length) : barsL ms ties (cutSt ms st) r = barsL ms ties st r := by
  have e1 : ownL ms (cutSt ms st) r = ownL ms st r := by
    unfold ownL
    rw [cut_at ms st h0 (by omega), List.take_take]
    congr 1
    refine Nat.min_eq_left ?_
    unfold keptN
    split <;> omega
  have e2 : ∀ o ∈ rawNear ties r, shownL (stAt (cutSt ms st) o) = shownL (stAt st o) := fun o ho => by
    obtain ⟨o0, o1⟩ := near_in ok ho
    unfold shownL
    rw [cut_at ms st o0 (by omega), List.take_take, Nat.min_eq_left (kept_pos ms o)]
  unfold barsL
  rw [e1]
  congr 1
  unfold List.flatMap
  rw [List.map_congr_left e2]
theorem cut_bad {ms : List Int} {ties : List (Int × Int)} {st : St1} {dd : Deed} (ok : PartsOk ms ties) (hl : st.length = ms.length) (h0 : 0 ≤ dd.room) (h1 : dd.room < ms.length) : bad ms ties (cutSt ms st) dd = bad ms ties st dd := by
  cases dd with
  | give r t =>
    show decide (t ∈ barsL ms ties (cutSt ms st) r) = decide (t ∈ barsL ms ties st r)
    rw [cut_bars (r := r) ok hl h0 h1]
  | back r => rfl
theorem stF_shown (n : Nat) : ∀ (m : Nat) (p : List Deed), p.length = m → ∀ x ∈ stF n p, x.1 = true → x.2 ≠ [] := by
  intro m
  induction m with
  | zero =>
    intro p hp x hx
    have : p = [] := List.length_eq_zero_iff.mp hp
    subst this
    rw [List.eq_of_mem_replicate hx]
    exact fun h => nomatch h
  | succ m ih =>
    intro p hp x hx
    obtain ⟨p', d, rfl⟩ : ∃ p' d, p = p' ++ [d] := ⟨p.dropLast, p.getLast (fun e => by rw [e] at hp; cases hp), (List.dropLast_concat_getLast _).symm⟩
    rw [stF_more, doneL_eq] at hx
    rcases mem_set_of hx with rfl | hx
    · cases d with
      | give r t => exact fun _ e => nomatch e
      | back r => exact fun e => nomatch e
    · exact ih p' (by rw [List.length_append] at hp; exact Nat.succ.inj hp) x hx
theorem stF_ok {n : Nat} {p : List Deed} (hn : n ≤ 60) (hp : p.length ≤ 5000) (hr : ∀ d ∈ p, 0 ≤ d.room ∧ d.room < n) : StOk (stF n p) := by
  refine ⟨by rw [stF_len]; exact hn, stF_shown n _ p rfl, fun x hx => ?_⟩
  obtain ⟨i, hi⟩ := List.mem_iff_getElem?.mp hx
  have e : stAt (stF n p) (i : Int) = x := by
    unfold stAt
    rw [Int.toNat_natCast, hi]
    rfl
  rw [← e]
  exact Nat.le_trans (st_tags_len n p hr _) hp
theorem cut_ok {ms : List Int} {st : St1} (ok : StOk st) : StOk (cutSt ms st) := by
  have key : ∀ x ∈ cutSt ms st, ∃ y ∈ st, ∃ k, 1 ≤ k ∧ x = (y.1, y.2.take k) := fun x hx => by
    obtain ⟨i, hi, rfl⟩ := List.mem_map.mp hx
    have := List.mem_range.mp hi
    exact ⟨stAt st (i : Int), st_mem (by omega) (by omega), _, kept_pos ms _, rfl⟩
  refine ⟨by rw [cut_len]; exact ok.few, fun x hx hb => ?_, fun x hx => ?_⟩
  · obtain ⟨y, hy, k, hk, rfl⟩ := key x hx
    have := ok.shown y hy hb
    obtain ⟨m, rfl⟩ : ∃ m, k = m + 1 := ⟨k - 1, by omega⟩
    cases h : y.2 with
    | nil => exact absurd h this
    | cons t ts => exact fun e => nomatch e
  · obtain ⟨y, hy, k, hk, rfl⟩ := key x hx
    exact Nat.le_trans (List.length_take_le' _ _) (ok.tags y hy)
def badAt (ms : List Int) (ties : List (Int × Int)) (past : List Deed) (j : Nat) (dd : Deed) : Bool := bad ms ties (stF ms.length (past.take j)) dd
def noBad (ms : List Int) (ties : List (Int × Int)) (past : List Deed) (i : Nat) : Prop := ∀ j dd, j < i → past[j]? = some dd → badAt ms ties past j dd = false
section
variable {P : Program} {w : World} {K : PySem.W.Frag} {mg : Str → Option Value} {base : Heap} {C : Addr}
def R_first (K : PySem.W.Frag) (C : Addr) : List D → Hp → Pd → Prop := fun ds H P => ∃ a ms ties past, ds = [.obj (.ref a), .tup (List.map eD past)] ∧ WebAt K C H a ms ties ∧ PartsOk ms ties ∧ ms.length ≤ 8 ∧ past.length ≤ 5000 ∧ (∀ d ∈ past, 0 ≤ d.room ∧ d.room < ms.length) ∧
  P = fun d _ => (d = .non ∧ noBad ms ties past past.length) ∨ ∃ (i : Nat) (dd : Deed), d = .int (i : Int) ∧ past[i]? = some dd ∧ badAt ms ties past i dd = true ∧ noBad ms ties past i
theorem ok_first (T : GTxt mg) (g : GDef K mg "first_barred" s_first_barred ["web", "past"]) (Gbegun : Def P w K mg base 1 "begun" ["web"] (spD K (R_begun K C)))
    (Gwith_deed : Def P w K mg base 2 "with_deed" ["web", "standing", "deed"] (spD K (R_wd K C))) (Ggives_barred : Def P w K mg base 7 "gives_barred" ["web", "standing", "deed"] (spD K (R_gb K C))) :
    Def P w K mg base 8 "first_barred" ["web", "past"] (spD K (R_first K C)) := by
  refine defD g sc_first_barred (fun ds H Pd h => ?_) fun cdv A outer s f H vs ds Pd Q E hr r h q => ?_
  · obtain ⟨a, ms, ties, past, rfl, _⟩ := h
    rfl
  obtain ⟨a, ms, ties, past, rfl, x, ok, h8, hp, hrm, rfl⟩ := h
  obtain ⟨v1, v2, rfl, r1, r2⟩ := rps2 r
  refine ⟨_, (pss_cons (ps_set (i := 2) sc_first_barred.nd rfl (Or.inl rfl) (pe_def Gbegun (hr.mono (by decide)) (pa_cons (pv 0) pa_nil)))
    (pss_cons (ps_for PassesOwn.never rfl (kpi_enumT (K := K) (by rfl) T.n_enumerate (pa_cons (pv 1) pa_nil)) (kpg_tup (K := K) (n := 2) rfl (pgs_cons (pg_name (i := 3) sc_first_barred.nd rfl (Or.inl rfl)) (pgs_cons (pg_name (i := 4) sc_first_barred.nd rfl (Or.inl rfl)) pgs_nil)))
      (pss_cons (ps_if (pt_val (pe_def Ggives_barred (hr.mono (by decide)) (pa_cons (pv 0) (pa_cons (pv 2) (pa_cons (pv 4) pa_nil)))))
      (pss_one (ps_ret (pv 3)))
      pss_nil)
    (pss_one (ps_set (i := 2) sc_first_barred.nd rfl (Or.inl rfl) (pe_def Gwith_deed (hr.mono (by decide)) (pa_cons (pv 0) (pa_cons (pv 2) (pa_cons (pv 4) pa_nil))))))))
    (pss_one (ps_ret pe_non)))), ?_⟩
  -- standing = begun(web)
  refine q_asgD (K := K) (d := eT (List.replicate ms.length (false, []))) (ed_call (ea_cons (ed_var rfl r1) ea_nil) fun H1 e1 => ⟨a, ms, ties, rfl, x.le e1, ok.some, ok.few, rfl⟩) fun v3 H1 e1 r3 => ?_
  refine q_forE (K := K) (ds := past.map eD) (ea_cons (ed_var rfl (r2.le e1)) ea_nil) (enc_D.nl _) fun H2 e2 => ?_
  refine ⟨fun i σ H' => ∃ v3 y4 y5, σ = [some v1, some v2, some v3, y4, y5] ∧ Le H2 H' ∧ Rp K H' v3 (eT (cutSt ms (stF ms.length (past.take i)))) ∧ noBad ms ties past i,
    ⟨v3, none, none, rfl, Le.refl _, ?_, fun j dd hj => absurd hj (Nat.not_lt_zero _)⟩, fun i σ H' _ ⟨_, _, _, _, e, _⟩ => e.t, ?_, ?_⟩
  · rw [List.take_zero]
    show Rp K H2 v3 (eT (cutSt ms (List.replicate ms.length (false, []))))
    rw [cut_start]
    exact r3.le e2
  · rintro i d v σ' H' H3 hd ⟨v3, y4, y5, rfl, e, r3, nb⟩ e3 rv
    obtain ⟨dd, hdd, rfl⟩ := map_at hd
    obtain ⟨rm0, rm1⟩ := hrm dd (List.mem_of_getElem? hdd)
    have e03 := ((e1.trans e2).trans e).trans e3
    have etk : stF ms.length (past.take (i + 1)) = doneL (stF ms.length (past.take i)) dd := by rw [take_more hdd, stF_more]
    have stl : (stF ms.length (past.take i)).length = ms.length := stF_len _ _
    have sok : StOk (stF ms.length (past.take i)) := stF_ok ok.few (Nat.le_trans (List.length_take_le' _ _) hp) fun d hd => hrm d (List.mem_of_mem_take hd)
    refine ⟨rfl, ?_⟩
    refine q_whenB (b := badAt ms ties past i dd) (et_B (K := K) (ed_eq (ed_call (P := is (.bl (bad ms ties (cutSt ms (stF ms.length (past.take i))) dd))) (ea_cons (ed_var rfl (r1.le e03)) (ea_cons (ed_var rfl (r3.le e3)) (ea_cons (ed_var rfl rv) ea_nil))) fun H4 e4 => ⟨a, ms, ties, _, dd, rfl, x.le (e03.trans e4), ok, h8, cut_ok sok, by rw [cut_len]; exact stl, rm0, rm1, rfl⟩) (by rw [cut_bad ok stl rm0 rm1]; rfl))) (fun hb H4 e4 => ?_) (fun hb H4 e4 => ?_)
    · refine s_retD (K := K) (d := .int (i : Int)) (ed_var rfl (.int _)) fun v H5 e5 r5 => q v _ H5 ((e03.trans e4).trans e5) (.inr ⟨i, dd, rfl, hdd, hb, nb⟩) r5
    · refine s_asgD (K := K) (d := eT (wdL ms (cutSt ms (stF ms.length (past.take i))) dd)) (ed_call (ea_cons (ed_var rfl (r1.le (e03.trans e4))) (ea_cons (ed_var rfl (r3.le (e3.trans e4))) (ea_cons (ed_var rfl (rv.le e4)) ea_nil))) fun H5 e5 => ⟨a, ms, ties, _, dd, rfl, x.le ((e03.trans e4).trans e5), cut_ok sok, by rw [cut_len]; exact stl, rm0, rm1, rfl⟩) fun v H5 e5 r5 => ?_
      refine ⟨v, _, _, rfl, ((e.trans e3).trans e4).trans e5, ?_, fun j dj hj hdj => ?_⟩
      · rw [etk, ← cut_wd rm0 (by rw [stl]; exact rm1)]
        exact r5
      · rcases Nat.lt_succ_iff_lt_or_eq.mp hj with h | h
        · exact nb j dj h hdj
        · subst h
          cases hdd.symm.trans hdj
          exact hb
  · rintro σ' H' ⟨v3, y4, y5, rfl, e, r3, nb⟩
    rw [List.length_map] at nb
    exact s_retD (K := K) ed_non fun v H3 e3 r => q v _ H3 (((e1.trans e2).trans e).trans e3) (.inl ⟨rfl, nb⟩) r
end
end W1

set_option maxRecDepth 100000
set_option maxHeartbeats 4000000
/-! lists of things, all of one kind -/
namespace W1
open PySem PyProof.Rows L2
/-- what stays when what is tracked stays -/
def Mono (Pc : Pd) : Prop := ∀ d H H', Le H H' → Pc d H → Pc d H'
abbrev AllA (Pc : Pd) (n : Nat) : List D → Hp → Prop := fun xs H => xs.length = n ∧ ∀ d ∈ xs, Pc d H
abbrev AllL (Pc : Pd) (n : Nat) : Pd := fun d H => ∃ xs, d = .lst xs ∧ AllA Pc n xs H
section
variable {K : PySem.W.Frag} {σ : L2.St} {H : Hp} {te ta tb : TE} {A : TA} {Pc : Pd} {n m : Nat}
theorem ea_all0 : EA K tNil σ H (AllA Pc 0) := EA_weak ea_nil fun ds H2 p => by
  have p' : ds = [] := p
  subst p'
  exact ⟨rfl, fun d hd => nomatch hd⟩
theorem ea_allC (M : Mono Pc) (h : EP K te σ H Pc) (hr : EA K A σ H (AllA Pc n)) : EA K (tCons te A) σ H (AllA Pc (n + 1)) := EA_weak (ep_cons h hr) fun ds H2 p => by
  obtain ⟨d, r, H1, rfl, e, pd, h1, h2⟩ := p
  refine ⟨by rw [List.length_cons, h1], fun x hx => ?_⟩
  rcases List.mem_cons.mp hx with rfl | hx
  · exact M _ _ _ e pd
  · exact h2 x hx
theorem ep_allL (M : Mono Pc) (h : EA K A σ H (AllA Pc n)) (hn : n ≠ 5) (hz : n ≤ 100000) : EP K (tLst A) σ H (AllL Pc n) :=
  ep_lst h (fun ds H2 p => by rw [p.1]; exact hz) (fun ds H2 xs p r => notH_len (by rw [r.len, p.1]; exact hn)) fun ds H2 p H3 e => ⟨ds, rfl, p.1, fun d hd => M _ _ _ e (p.2 d hd)⟩
theorem AllA.mono (M : Mono Pc) {xs : List D} {H' : Hp} (e : Le H H') (h : AllA Pc n xs H) : AllA Pc n xs H' := ⟨h.1, fun d hd => M _ _ _ e (h.2 d hd)⟩
theorem ep_allCat (M : Mono Pc) (h : EP K ta σ H (AllL Pc n)) (h2 : EP K tb σ H (AllL Pc m)) (hn : n + m ≠ 5) (hz : n + m ≤ 100000) : EP K (tOp rCat ta tb) σ H (AllL Pc (n + m)) :=
  ep_op h h2 fun x y d1 d2 H1 H2 _ e12 p1 p2 r1 r2 Q q => by
    obtain ⟨ds, rfl, q1⟩ := p1
    obtain ⟨es, rfl, q2⟩ := p2
    obtain ⟨a, xs, rfl, s, nh, rr⟩ := rp_lst r1
    obtain ⟨b, ys, rfl, s2, nh2, rr2⟩ := rp_lst r2
    refine ⟨a, b, xs, ys, rfl, rfl, s, s2, by rw [rr.len, rr2.len, q1.1, q2.1]; exact Evl.sz_of hz, fun p np => ?_⟩
    have rf := (rr.app rr2).le (Le.new (o := .lst (xs ++ ys)) np)
    refine q _ (.lst (ds ++ es)) _ (Le.new np) ⟨_, rfl, by rw [List.length_append, q1.1, q2.1], fun d hd => ?_⟩ (.lst upd_same (notH_len (by rw [List.length_append, rr.len, rr2.len, q1.1, q2.1]; exact hn)) rf)
    rcases List.mem_append.mp hd with hd | hd
    · exact M _ _ _ (e12.trans (Le.new np)) (q1.2 d hd)
    · exact M _ _ _ (Le.new np) (q2.2 d hd)
theorem ep_anyH {E : XK} {h : Addr} {tl : TE} (M : Mono Pc) (hh : Hand H h) (h1 : ED K ta σ H (.obj (.ref h))) (h2 : EP K tl σ H (AllL Pc n)) (hn : 1 ≤ n) (hz : n ≤ 100000) :
    EP K (tCall (spD K R_any) [] E (tCons ta (tCons tl tNil))) σ H Pc :=
  ep_call (ep_cons h1 (ep_cons h2 ea_nil)) fun ds H2 e p => by
    obtain ⟨d1, r1, H3, rfl, e3, p1, d2, r2, H4, rfl, e4, ⟨xs, rfl, q1, q2⟩, p3⟩ := p
    have p1' : d1 = .obj (.ref h) := p1
    have p3' : r2 = [] := p3
    subst p1' p3'
    exact ⟨fun d _ => d ∈ xs, ⟨h, xs, rfl, hh.le e, (fun e => by rw [e] at q1; simp at q1; omega), by omega, rfl⟩, fun d H5 e5 hd => M _ _ _ (e4.trans e5) (q2 d hd)⟩
theorem ep_var {i : Nat} {v : V} {d : D} (M : Mono Pc) (h : σ[i]? = some (some v)) (r : Rp K H v d) (p : Pc d H) : EP K (tVar i) σ H Pc := (ed_var h r).weak fun d' H2 e p' => by
  have p'' : d' = d := p'
  subst p''
  exact M _ _ _ e p
theorem ep_of {d : D} (M : Mono Pc) (h : ED K te σ H d) (p : Pc d H) : EP K te σ H Pc := h.weak fun d' H2 e p' => by
  have p'' : d' = d := p'
  subst p''
  exact M _ _ _ e p
theorem ep_dict : EP K tDNewK σ H (fun d H => ∃ v, d = .obj v ∧ Ob H v) := fun H1 e Q q d nd => q _ (.obj (.ref d)) _ (Le.new nd) ⟨_, rfl, d, rfl, .inr upd_same⟩ (.obj _)
/-- list(a tuple), told by its kind -/
theorem ep_lstOfO (h : EP K ta σ H fun d _ => ∃ ds, d = .tup ds) : EP K (tCB (rLstOf K) (tCons ta tNil)) σ H (fun d H => ∃ v, d = .obj v ∧ Ob H v) := fun H1 e Q q => h H1 e _ fun v d H2 e2 p r => by
  obtain ⟨ds, rfl⟩ := p
  obtain ⟨a, xs, rfl, s, rr⟩ := rp_tup r
  exact ⟨a, xs, rfl, .inr s, fun l hl => q _ (.obj (.ref l)) _ (e2.trans (Le.new hl)) ⟨_, rfl, l, rfl, .inl ⟨xs, upd_same⟩⟩ (.obj _)⟩
/-! tuples of things -/
abbrev AllT (Pc : Pd) (n : Nat) : Pd := fun d H => ∃ xs, d = .tup xs ∧ xs.length ≤ n ∧ ∀ d ∈ xs, Pc d H
theorem ep_tup1 (M : Mono Pc) (h : EP K te σ H Pc) : EP K (tTup (tCons te tNil)) σ H (AllT Pc 1) :=
  ep_tup (ea_allC M h ea_all0) (fun ds H2 p => by rw [p.1]; decide) fun ds H2 p H3 e => ⟨ds, rfl, by rw [p.1]; exact Nat.le_refl _, fun d hd => M _ _ _ e (p.2 d hd)⟩
theorem ep_slP {tl th : TO} {lo hi : Option Int} (M : Mono Pc) (h : EP K ta σ H (AllT Pc n)) (h1 : EO tl σ H lo) (h2 : EO th σ H hi) : EP K (tSl (rSlA K) ta tl th) σ H (AllT Pc n) := fun H1 e Q q =>
  h H1 e _ fun v d H2 e2 p r => h1 H2 (e.trans e2) _ fun H3 e3 => h2 H3 ((e.trans e2).trans e3) _ fun H4 e4 => by
    obtain ⟨ds, rfl, hl, hp⟩ := p
    have hc : ∀ H', Le H2 H' → AllT Pc n (.tup (cutG ds lo hi)) H' := fun H' e' => ⟨_, rfl, by
      unfold cutG
      rw [List.length_take, List.length_drop]
      omega, fun d hd => M _ _ _ e' (hp d (by
      unfold cutG at hd
      exact List.mem_of_mem_drop (List.mem_of_mem_take hd)))⟩
    obtain ⟨a, xs, rfl, s, rr⟩ := rp_tup (r.le (e3.trans e4))
    refine ⟨a, xs, rfl, s, fun w => ?_, fun _ p np => ?_⟩
    · rw [rr.len] at w
      have hh := hc H4 (e3.trans e4)
      rw [cutG_all ds lo hi w] at hh
      exact q _ _ H4 ((e2.trans e3).trans e4) hh (.tup s rr)
    · exact q _ _ _ (((e2.trans e3).trans e4).trans (Le.new np)) (hc _ ((e3.trans e4).trans (Le.new np))) (.tup (Evl.st_of upd_same) ((rps_cut lo hi rr).le (Le.new np)))
theorem ep_catP (M : Mono Pc) (h : EP K ta σ H (AllT Pc n)) (h2 : EP K tb σ H (AllT Pc m)) (hz : n + m ≤ 100000) : EP K (tOp (rCatA K) ta tb) σ H (AllT Pc (n + m)) :=
  ep_op h h2 fun x y d1 d2 H1 H2 _ e12 p1 p2 r1 r2 Q q => by
    obtain ⟨ds, rfl, l1, q1⟩ := p1
    obtain ⟨es, rfl, l2, q2⟩ := p2
    obtain ⟨a, xs, rfl, s, rr⟩ := rp_tup r1
    obtain ⟨b, ys, rfl, s2, rr2⟩ := rp_tup r2
    have hc : ∀ H', Le H2 H' → AllT Pc (n + m) (.tup (ds ++ es)) H' := fun H' e' => ⟨_, rfl, by rw [List.length_append]; omega, fun d hd => by
      rcases List.mem_append.mp hd with hd | hd
      · exact M _ _ _ (e12.trans e') (q1 d hd)
      · exact M _ _ _ e' (q2 d hd)⟩
    refine ⟨a, b, xs, ys, rfl, rfl, s, s2, by rw [rr.len, rr2.len]; exact Evl.sz_of (by omega), fun e => ?_, fun _ e => ?_, fun _ _ p np => ?_⟩
    · subst e
      cases rr
      exact q _ _ H2 (Le.refl _) (hc H2 (Le.refl _)) r2
    · subst e
      cases rr2
      have hh := hc H2 (Le.refl _)
      rw [List.append_nil] at hh
      exact q _ _ H2 (Le.refl _) hh r1
    · exact q _ _ _ (Le.new np) (hc _ (Le.new np)) (.tup (Evl.st_of upd_same) ((rr.app rr2).le (Le.new np)))
theorem ep_revP (M : Mono Pc) (h : EP K ta σ H (AllT Pc n)) : EP K (tRevT K ta) σ H (AllT Pc n) := fun H1 e Q q =>
  h H1 e _ fun v d H2 e2 p r => by
    obtain ⟨ds, rfl, hl, hp⟩ := p
    obtain ⟨a, xs, rfl, s, rr⟩ := rp_tup r
    exact ⟨a, xs, rfl, s, fun p np => q _ _ _ (e2.trans (Le.new np)) ⟨_, rfl, by rw [List.length_reverse]; exact hl, fun d hd => M _ _ _ (Le.new np) (hp d (List.mem_reverse.mp hd))⟩ (.tup (Evl.st_of upd_same) ((rps_rev rr).le (Le.new np)))⟩
end
end W1

set_option maxRecDepth 100000
set_option maxHeartbeats 4000000
namespace W1
open PySem PyProof.Rows L2
local macro_rules | `(tactic| walk_at "rp") => `(tactic| first | assumption | exact Rp.int _ | exact Rp.bl _ | exact Rp.str _ | exact Rp.non | exact Rp.obj _ | (refine Rp.le (by assumption) ?_; walk_at "rp"))
local macro_rules | `(tactic| walk_at "ed") => `(tactic| first
  | exact ed_int | exact ed_str | exact ed_bl | exact ed_non
  | (refine ed_var rfl ?_; walk_at "rp")
  | (refine ed_ixT (ds := [_, _]) ?_ ed_int (by decide) rfl; walk_at "ed")
  | (refine ed_I0 ?_ ?_ <;> walk_at "ed")
  | (refine ed_B0 ?_ ?_ <;> walk_at "ed")
  | (refine ed_eqS ?_ ?_ rfl rfl rfl <;> walk_at "ed")
  | assumption)
local macro_rules | `(tactic| walk_at "ea") => `(tactic| first | exact ea_nil | (refine ea_cons ?_ ?_; walk_at "ed"; walk_at "ea"))

abbrev s_is_number : Stmt := topS 9
abbrev N_is_number : List Str := ["thing"]
theorem sc_is_number : FnScope N_is_number ["thing"] (defScope s_is_number) := ⟨rfl, rfl, rfl, by decide +kernel, rfl, by decide +kernel, by decide +kernel⟩
abbrev s_is_ask : Stmt := topS 25
abbrev N_is_ask : List Str := ["web", "standing", "thing", "word", "room", "held"]
theorem sc_is_ask : FnScope N_is_ask ["web", "standing", "thing"] (defScope s_is_ask) := ⟨rfl, rfl, rfl, by decide +kernel, rfl, by decide +kernel, by decide +kernel⟩
abbrev s_is_deed : Stmt := topS 26
abbrev N_is_deed : List Str := ["web", "standing", "thing"]
theorem sc_is_deed : FnScope N_is_deed ["web", "standing", "thing"] (defScope s_is_deed) := ⟨rfl, rfl, rfl, by decide +kernel, rfl, by decide +kernel, by decide +kernel⟩
structure HTxt (mg : Str → Option Value) : Prop extends GTxt mg where
  n_zip : mg "zip" = none
  n_str : mg "str" = none
  n_ValueError : mg "ValueError" = none
  g_tags : ∃ u, mg "MOST_TAGS" = some u ∧ RelV (.int 200) u
/-! ### asks and deeds as data -/
def numB : D → Bool
  | .int i => decide (0 ≤ i)
  | _ => false
def askB (st : St1) : List D → Bool
  | [.str w, .int r] => decide (0 ≤ r) && decide (r < st.length) && decide (w = (if (stAt st r).1 = true then ("back" : Str) else "give"))
  | _ => false
/-- the deed that a thing is, where the rooms are so -/
def dOf (st : St1) : D → Option Deed
  | .tup [.str w, .int r] => if askB st [.str w, .int r] = true ∧ w = "back" then some (.back r) else none
  | .tup [.str w, .int r, .int t] => if askB st [.str w, .int r] = true ∧ w ≠ "back" ∧ 0 ≤ t then some (.give r t) else none
  | _ => none
structure DOk (st : St1) (dd : Deed) : Prop where
  r0 : 0 ≤ dd.room
  r1 : dd.room < st.length
  fl : (stAt st dd.room).1 = !isG dd
  t0 : ∀ r t, dd = .give r t → 0 ≤ t
theorem askB_iff {st : St1} {w : Str} {r : Int} : askB st [.str w, .int r] = true ↔ 0 ≤ r ∧ r < st.length ∧ w = (if (stAt st r).1 = true then ("back" : Str) else "give") := by
  unfold askB
  rw [Bool.and_eq_true, Bool.and_eq_true, decide_eq_true_iff, decide_eq_true_iff, decide_eq_true_iff, and_assoc]
theorem vs_int (i j : Int) : decide (vOf (.int i) = vOf (.int j)) = decide (i = j) := by
  show decide (V.int i = V.int j) = decide (i = j)
  rw [decide_eq_decide]
  exact ⟨fun h => by injection h, fun h => by rw [h]⟩
theorem ne_gb : ("give" : Str) ≠ "back" := by decide +kernel
theorem askB_not {st : St1} {xs : List D} (h : ∀ w r, xs ≠ [.str w, .int r]) : askB st xs = false := by
  unfold askB
  split
  · exact absurd rfl (h _ _)
  · rfl
theorem dOf_ok {st : St1} {d : D} {dd : Deed} (h : dOf st d = some dd) : d = eD dd ∧ DOk st dd := by
  unfold dOf at h
  split at h
  · rename_i w r
    split at h
    · rename_i hc
      cases h
      obtain ⟨h0, h1, h2⟩ := askB_iff.mp hc.1
      have hb := hc.2
      subst hb
      refine ⟨rfl, h0, h1, ?_, fun _ _ e => nomatch e⟩
      show (stAt st r).1 = true
      cases hs : (stAt st r).1 with
      | true => rfl
      | false =>
        rw [hs] at h2
        exact absurd h2.symm ne_gb
    · cases h
  · rename_i w r t
    split at h
    · rename_i hc
      cases h
      obtain ⟨h0, h1, h2⟩ := askB_iff.mp hc.1
      have hs : (stAt st r).1 = false := by
        cases hs : (stAt st r).1 with
        | false => rfl
        | true =>
          rw [hs] at h2
          exact absurd h2 hc.2.1
      rw [hs] at h2
      have h3 : w = "give" := h2
      subst h3
      refine ⟨rfl, h0, h1, hs, fun r' t' e => ?_⟩
      cases e
      exact hc.2.2
    · cases h
  · cases h
theorem dOf_of {st : St1} {dd : Deed} (h : DOk st dd) : dOf st (eD dd) = some dd := by
  obtain ⟨h0, h1, h2, h3⟩ := h
  cases dd with
  | back r =>
    have a : askB st [.str "back", .int r] = true := askB_iff.mpr ⟨h0, h1, by rw [show (stAt st r).1 = true from h2]; rfl⟩
    show (if askB st [.str "back", .int r] = true ∧ ("back" : Str) = "back" then some (Deed.back r) else none) = _
    rw [if_pos ⟨a, rfl⟩]
  | give r t =>
    have a : askB st [.str "give", .int r] = true := askB_iff.mpr ⟨h0, h1, by rw [show (stAt st r).1 = false from h2]; rfl⟩
    show (if askB st [.str "give", .int r] = true ∧ ("give" : Str) ≠ "back" ∧ 0 ≤ t then some (Deed.give r t) else none) = _
    rw [if_pos ⟨a, ne_gb, h3 r t rfl⟩]
theorem isG_of {st : St1} {w : Str} {r : Int} (h : askB st [.str w, .int r] = true) : (w = "back" ↔ (stAt st r).1 = true) := by
  obtain ⟨_, _, h⟩ := askB_iff.mp h
  cases hs : (stAt st r).1 with
  | true =>
    rw [hs] at h
    exact ⟨fun _ => rfl, fun _ => h⟩
  | false =>
    rw [hs] at h
    refine ⟨fun e => ?_, fun e => nomatch e⟩
    have h' : w = "give" := h
    exact absurd (h'.symm.trans e) ne_gb
section
variable {K : PySem.W.Frag} {σ : L2.St} {H H' : Hp} {te : TE}
/-- the length of a tuple of things -/
theorem ed_len {d : D} {ds : List D} (h : ED K te σ H (.tup ds)) : ED K (tCB (fun xs H Q => ∃ p ys, xs = [.ref p] ∧ (SqL K H p ys ∨ SqT K H p ys) ∧ Q (.int ys.length) H) (tCons te tNil)) σ H (.int (ds.length : Int)) := ed_lenT h
end
section
variable {P : Program} {w : World} {K : PySem.W.Frag} {mg : Str → Option Value} {base : Heap} {C : Addr}
def R_isnum : List D → Hp → Pd → Prop := fun ds H P => ∃ d, ds = [d] ∧ Tk H d ∧ P = is (.bl (numB d))
theorem ok_isnum (g : GDef K mg "is_number" s_is_number ["thing"]) (Gis_integer : Def P w K mg base 1 "is_integer" ["thing"] (spD K R_isint)) : Def P w K mg base 2 "is_number" ["thing"] (spD K R_isnum) := by
  refine defD g sc_is_number (fun ds H Pd h => ?_) fun cdv A outer s f H vs ds Pd Q E hr r h q => ?_
  · obtain ⟨d, rfl, _⟩ := h
    rfl
  obtain ⟨d, rfl, hk, rfl⟩ := h
  obtain ⟨v1, rfl, r1⟩ := rps1 r
  refine ⟨_, (pss_one (ps_ret (pe_and (pe_def Gis_integer (hr.mono (by decide)) (pa_cons (pv 0) pa_nil)) (pe_one (pe_cmpR op_ge (pv 0) pe_int (nomark _)))))), ?_⟩
  have hc : ED K (tCall (spD K R_isint) [] E0 (tCons (tVar 0) tNil)) [some v1] H (.bl (isI d)) := ed_call (ea_cons (ed_var rfl r1) ea_nil) fun H1 e => ⟨d, rfl, hk.le e, rfl⟩
  cases hi : isI d with
  | false =>
    rw [hi] at hc
    have hf : numB d = false := by cases d <;> first | rfl | cases hi
    exact s_retD (ed_andV (b := true) hc fun h => nomatch h) fun v H1 e1 r => q v _ H1 e1 (by rw [hf]; rfl) r
  | true =>
    rw [hi] at hc
    obtain ⟨i, rfl⟩ : ∃ i, d = .int i := by
      cases d with
      | int i => exact ⟨i, rfl⟩
      | _ => cases hi
    exact s_retD (ed_andV hc fun _ => ed_B0 (f := fun i j => decide (j ≤ i)) (ed_var rfl r1) ed_int) fun v H1 e1 r => q v _ H1 e1 rfl r
def R_isask (K : PySem.W.Frag) (C : Addr) : List D → Hp → Pd → Prop := fun ds H P => ∃ a ms ties st xs, ds = [.obj (.ref a), eT st, .tup xs] ∧ WebAt K C H a ms ties ∧ st.length = ms.length ∧ (∀ d ∈ xs, Th H d) ∧ P = is (.bl (askB st xs))
theorem vs_str (x y : Str) : decide (vOf (.str x) = vOf (.str y)) = decide (x = y) := by
  show decide (V.str x = V.str y) = decide (x = y)
  rw [decide_eq_decide]
  exact ⟨fun h => by injection h, fun h => by rw [h]⟩
theorem ok_isask (T : HTxt mg) (W : WTxt K C) (g : GDef K mg "is_ask" s_is_ask ["web", "standing", "thing"]) (Gis_room : Def P w K mg base 3 "is_room" ["web", "thing"] (spD K (R_isroom K C))) :
    Def P w K mg base 4 "is_ask" ["web", "standing", "thing"] (spD K (R_isask K C)) := by
  refine defD g sc_is_ask (fun ds H Pd h => ?_) fun cdv A outer s f H vs ds Pd Q E hr r h q => ?_
  · obtain ⟨a, ms, ties, st, xs, rfl, _⟩ := h
    rfl
  obtain ⟨a, ms, ties, st, xs, rfl, x, hl, ht, rfl⟩ := h
  obtain ⟨v1, v2, v3, rfl, r1, r2, r3⟩ := rps3 r
  refine ⟨_, (pss_cons (ps_if (PW.pt (pw_or (pt_not (pt_val (pe_callB (kc_isi (K := K)) (by rfl) T.n_isinstance boot_isinstance (pa_cons (pv 2) (pa_cons (pe_bltn (v := V.ty "tuple") (by rfl) T.n_tuple boot_tuple rfl) pa_nil))))) (pw_or1 (pt_cmpR op_ne (pe_callB (kc_len (K := K)) (by rfl) T.n_len boot_len (pa_cons (pv 2) pa_nil)) pe_int (nomark _)))))
      (pss_one (ps_ret pe_bl))
      pss_nil)
    (pss_cons (ps_asg (pv 2) (kpg_tup (K := K) (n := 2) rfl (pgs_cons (pg_name (i := 3) sc_is_ask.nd rfl (Or.inl rfl)) (pgs_cons (pg_name (i := 4) sc_is_ask.nd rfl (Or.inl rfl)) pgs_nil))))
    (pss_cons (ps_if (PW.pt (pw_or (pt_not (pt_val (pe_callB (kc_isi (K := K)) (by rfl) T.n_isinstance boot_isinstance (pa_cons (pv 3) (pa_cons (pe_bltn (v := V.ty "str") (by rfl) T.n_str boot_str rfl) pa_nil))))) (pw_or1 (pt_not (pt_val (pe_def Gis_room (hr.mono (by decide)) (pa_cons (pv 0) (pa_cons (pv 4) pa_nil))))))))
      (pss_one (ps_ret pe_bl))
      pss_nil)
    (pss_cons (ps_set (i := 5) sc_is_ask.nd rfl (Or.inl rfl) (pe_ix (kix_tup (K := K)) (pe_ix (kix_tup (K := K)) (pv 1) (pv 4) (fun _ _ => rfl)) pe_int (fun _ _ => rfl)))
    (pss_one (ps_ret (pe_cmpR op_eq (pv 3) (pe_ifExp (pt_val (pv 5)) pe_str pe_str) (nomark _)))))))), ?_⟩
  refine q_whenB (b := decide (xs.length ≠ 2)) (eb_eq (eb_or (a := false) (b := decide (xs.length ≠ 2)) (eb_eq (eb_not (et_B (K := K) (ed_isTup (ed_var rfl r3) (.inl rfl)))) rfl) fun _ => eb_eq (et_test (K := K) (ed_neS (d1 := .int (xs.length : Int)) (d2 := .int 2) (ed_lenT (ed_var rfl r3)) ed_int rfl rfl rfl)) ?_) (Bool.false_or _)) (fun hb H1 e1 => ?_) fun hb H1 e1 => ?_
  · rw [vs_int]
    by_cases h2 : xs.length = 2
    · rw [decide_eq_true (show (xs.length : Int) = 2 by omega), decide_eq_false (fun h => h h2)]
      rfl
    · rw [decide_eq_false (show ¬ (xs.length : Int) = 2 by omega), decide_eq_true h2]
      rfl
  · have hn := of_decide_eq_true hb
    exact s_retD ed_bl fun v H2 e2 r => q v _ H2 (e1.trans e2) (by
      show D.bl false = D.bl _
      rw [askB_not fun w r e => hn (by rw [e]; rfl)]) r
  · have h2 : xs.length = 2 := Decidable.not_not.mp (of_decide_eq_false hb)
    obtain ⟨x1, x2, rfl⟩ : ∃ x1 x2, xs = [x1, x2] := by
      match xs, h2 with
      | [x1, x2], _ => exact ⟨x1, x2, rfl⟩
    have t1 : Th H x1 := ht x1 (List.mem_cons_self ..)
    have t2 : Th H x2 := ht x2 (List.mem_cons_of_mem _ (List.mem_cons_self ..))
    refine q_tup2 (K := K) (d1 := x1) (d2 := x2) (ed_var rfl (r3.le e1)) fun v4 v5 H2 e2 r4 r5 => ?_
    have e12 := e1.trans e2
    refine q_whenB (b := !strB x1 || !btw 0 ((ms.length : Int) - 1) x2) (eb_or (eb_not (et_B (K := K) (ed_isStr (ed_var rfl r4) (t1.le e12).tk))) fun _ => eb_not (et_B (K := K) (ed_call (ea_cons (ed_var rfl (r1.le e12)) (ea_cons (ed_var rfl r5) ea_nil)) fun H3 e3 => ⟨a, ms, ties, x2, rfl, x.le (e12.trans e3), (t2.le (e12.trans e3)).tk, rfl⟩))) (fun hb3 H3 e3 => ?_) fun hb3 H3 e3 => ?_
    · exact s_retD ed_bl fun v H4 e4 r => q v _ H4 ((e12.trans e3).trans e4) (by
        show D.bl false = D.bl _
        have : askB st [x1, x2] = false := by
          cases hx : askB st [x1, x2] with
          | false => rfl
          | true =>
            exfalso
            unfold askB at hx
            split at hx
            · rename_i w r hw
              injection hw with hw1 hw2
              injection hw2 with hw2 _
              subst hw1 hw2
              obtain ⟨h0, h1, _⟩ := askB_iff.mp hx
              rw [btw_room h0 (by rw [← hl]; exact h1)] at hb3
              cases hb3
            · cases hx
        rw [this]) r
    · rw [Bool.or_eq_false_iff, Bool.not_eq_false', Bool.not_eq_false'] at hb3
      obtain ⟨w', rfl⟩ : ∃ w', x1 = .str w' := by
        cases x1 with
        | str w' => exact ⟨w', rfl⟩
        | _ => cases hb3.1
      obtain ⟨rm, rfl⟩ : ∃ rm, x2 = .int rm := by
        cases x2 with
        | int i => exact ⟨i, rfl⟩
        | _ => cases hb3.2
      have hrm : 0 ≤ rm ∧ rm < st.length := by
        have h := hb3.2
        replace h : (decide (0 ≤ rm) && decide (rm ≤ (ms.length : Int) - 1)) = true := h
        rw [Bool.and_eq_true, decide_eq_true_iff, decide_eq_true_iff] at h
        omega
      have hst : (st.map eR)[rm.toNat]? = some (eR (stAt st rm)) := map_get (st_get hrm.1 hrm.2)
      refine q_asgD (K := K) (d := .bl (stAt st rm).1) (ed_ixT (ds := [_, _]) (ed_ixT (d := eR (stAt st rm)) (ed_var rfl (r2.le (e12.trans e3))) (ed_var rfl (r5.le e3)) hrm.1 hst) ed_int (by decide) rfl) fun v6 H4 e4 r6 => ?_
      refine s_retD (K := K) (ed_eq (ed_eqS (d1 := .str w') (d2 := .str (if (stAt st rm).1 = true then ("back" : Str) else "give")) (ed_var rfl (r4.le (e3.trans e4))) (ep_if (b := (stAt st rm).1) (et_B (K := K) (ed_var rfl r6)) (fun hb => ?_) fun hb => ?_) rfl rfl rfl) (congrArg D.bl (vs_str _ _))) fun v H5 e5 r => q v _ H5 (((e12.trans e3).trans e4).trans e5) ?_ r
      · rw [if_pos hb]
        exact ed_str
      · rw [hb, if_neg Bool.false_ne_true]
        exact ed_str
      · show D.bl _ = D.bl (decide (0 ≤ rm) && decide (rm < st.length) && decide _)
        rw [decide_eq_true hrm.1, decide_eq_true hrm.2]
        rfl
end
end W1

set_option maxRecDepth 100000
set_option maxHeartbeats 4000000
/-! own rule: an own error's __init__ that says super().__init__() and nothing else -/
namespace L2
open PySem PySem.Spec PySem.Calls PyProof.Rows
abbrev topE0 (i : Nat) : Stmt := PySem.Challenge.pw_staletags_k03_whole_pasts_bars_and_stand.main.body.getD i (.Pass ⟨0, 0, 0, 0⟩)
abbrev s_TagError___init__ : Stmt := inClass (topE0 1) 0
structure SupF (P : Program) (K : PySem.W.Frag) (mg : Str → Option Value) (D f : Addr) (fd : FuncData) : Prop where
  fn : ∃ (oc : Value) (od : Option Addr) (osl : Array (Option Value)) (kV doc pm : Value) (an : Option Addr) (cda : Addr) (ct : Value) (cc : Addr), fd = PySem.W.fnX "__init__" "TagError.__init__" (defArgs s_TagError___init__) (defBody s_TagError___init__) (defScope s_TagError___init__) [("__class__", cc)] .none kV doc pm an (.ref cda) ct ∧
    K.lookup f = some ⟨oc, od, .func fd, osl⟩ ∧ PySem.W.codeIn K (.ref cda) "TagError.__init__" = true ∧
    (∃ (ccl : Value) (cdd : Option Addr) (vs : Array Value) (ccs : Array (Option Value)) (file : Str) (tf : Tok), K.lookup cda = some ⟨ccl, cdd, .fields vs, ccs⟩ ∧ vs[2]? = some (.str file tf) ∧ ((P.main.file : Str) == file) = true) ∧
    ∃ (cl : Value) (cld : Option Addr) (csl : Array (Option Value)), K.lookup cc = some ⟨cl, cld, .cell (some (.ref D)), csl⟩
  cd : ∃ cdD, PySem.W.clsIn K D = some cdD
  op : PySem.W.nsIn K cStatics "thirdparty.any" = some none
  sup : mg "super" = none
  top : (P.main.scope.names.lookup ("super" : Str)).isSome = false
structure SupC (K : PySem.W.Frag) (D C : Addr) : Prop where
  ox : OexC K C
  sub : PySem.W.mroIn K C (.ref D) = some true
  init : PySem.W.ks_superIn K C D "__init__" = some (some (.builtin "ValueError.__init__"))
  ve : PySem.W.subIn K (.ref C) (.type "ValueError") = some true
def spSup (K : PySem.W.Frag) (D : Addr) : Sp := fun vs H Q _ => ∃ a C, vs = [.ref a] ∧ H a = some (exo a C none) ∧ SupC K D C ∧ Q .non H
theorem sup_ok {P : Program} {w : World} {K : PySem.W.Frag} {mg : Str → Option Value} {base : Heap} {D f : Addr} {fd : FuncData} {k : Nat} (S : SupF P K mg D f fd) : FnOk P w K mg base CX0 (k + 1) f fd ["self"] (spSup K D) := by
  obtain ⟨oc, od, osl, kV, doc, pm, an, cda, ct, cc, rfl, lk, hcd, ⟨ccl, cdd, vs, ccs, file, tf, lcda, hvs, hfile⟩, ⟨cl, cld, csl, lcc⟩⟩ := S.fn
  obtain ⟨cdD, hcdD⟩ := S.cd
  refine ⟨fun vs H Q E h => ?_, fun A outer s H args us vs Q E hr e0 hb r hsp => ?_⟩
  · obtain ⟨a, C, rfl, _⟩ := h
    rfl
  obtain ⟨a, C, rfl, ha, SC, q⟩ := hsp
  have hus : us = [.ref a] := by
    cases r with
    | cons h r =>
      cases r
      rw [show _ = Value.ref a from h]
  subst hus
  have KX : K.In s.heap := e0.mod.kin.keeps fun b o e => (e0.bs b o e).1
  have lim : s.heap.NoLimit := e0.mod.nolimit.keeps fun b o e => (e0.bs b o e).1
  have glob : s.heap.Ns mainGlobals mg := e0.mod.glob.keeps fun b o e => (e0.bs b o e).1
  obtain ⟨mb, hmb, hboot⟩ := e0.mod.blt
  have blt : s.heap.Ns builtinsNs mb := hmb.keeps fun b o e => (e0.bs b o e).1
  obtain ⟨t0, hx⟩ := exo_at e0.hok ha
  refine ks_codeAny_call_defAt (body := defBody s_TagError___init__) (binds := [("self", .ref a)]) hr.depth (KX _ _ lk) rfl lim (PySem.W.codeRec_of KX hcd) rfl hb (by show ∀ x ∈ (defScope s_TagError___init__).names, x.2 ≠ .cell; decide +kernel) (fun x hx => ?_) (fun h₁ hns hk₁ => ?_) rfl rfl rfl
  · rw [List.mem_singleton.mp hx]
    rfl
  refine ks_wpAt_execs_cons (ks_wpAt_Expr_any (ks_wpAt_MethodCall ?_))
  obtain ⟨s0, g, d, t, os⟩ := s
  have kk : ∀ b o, s0.get? b = some o → h₁.get? b = some o := hk₁
  have K1 : K.In h₁ := KX.keeps kk
  obtain ⟨oD, hD1, hD2⟩ : ∃ oD, h₁.get? D = some oD ∧ oD.data = .cls cdD := by
    unfold PySem.W.clsIn at hcdD
    split at hcdD
    · rename_i c d cd' sl ho
      cases hcdD
      exact ⟨_, K1 _ _ ho, rfl⟩
    · cases hcdD
  refine ks_wpAt_super_base rfl rfl rfl rfl (K1 _ _ lk) rfl rfl rfl (K1 _ _ lcda) rfl hvs hfile S.top ?_
  refine PySem.W.ks_loadName_global rfl rfl (loadGlobal_builtin (glob.keeps kk) S.sup (blt.keeps kk) ((hboot "super" (by decide)).trans (by decide +kernel)) ⟨rfl, ?_⟩)
  refine wpAny_loadName_free rfl rfl rfl ⟨_, K1 _ _ lcc, rfl⟩ ?_
  refine wpAny_loadName_local rfl rfl hns rfl ?_
  refine ks_wpAny_isType_cls hD1 hD2 ⟨rfl, ?_⟩
  refine ks_wpAny_call_super hD1 hD2 (kk _ _ hx) rfl (fun c e => nomatch e) (PySem.W.looks_mroIn K1 SC.sub) (fun h2 e2 k2 => ?_)
  have K2 : K.In h2 := K1.keeps k2
  have xa2 := k2 _ _ (kk _ _ hx)
  have I2 : PySem.W.InstAt h2 a _ C none := ⟨xa2, rfl, rfl, trivial⟩
  cases hc : PySem.W.clsIn K C with
  | none =>
    have h := SC.init
    unfold PySem.W.ks_superIn at h
    rw [hc] at h
    cases h
  | some cd =>
    have hi := SC.init
    unfold PySem.W.ks_superIn at hi
    rw [hc] at hi
    refine PySem.W.kxs_getMethod PySem.W.kxs_ValueError e2 (PySem.W.looks_opaque K2 S.op) (l₀ := cd.mro) (fun A Q E s k q => wpAny_bind ((PySem.W.looks_clsIn K2 hc) A _ E s k (wpAny_pure q))) rfl K2 hi (I2.type.andThen (PySem.W.looks_subIn K2 SC.ve)) (PySem.W.ks_ne K2 I2 hc) rfl ?_
    have k3 : ∀ b o, h2.get? b = some o → (h2.push (PySem.W.kxs_mw "ValueError.__init__" a)).get? b = some o := fun b o e => Heap.get?_push_of_some _ e
    have hu : (h2.push (PySem.W.kxs_mw "ValueError.__init__" a)).get? h2.objs.size = some (PySem.W.kxs_mw "ValueError.__init__" a) := Heap.get?_push_at rfl rfl
    refine PySem.W.kxs_callWith (i := "ValueError.__init__") (x := a) rfl (evalArgs_empty ⟨hu, ?_⟩)
    obtain ⟨nm, qn, N, bs, bm, sn, sub, ab, col, dd, k0, k1, k2', k3', k5, hC, hbm⟩ := SC.ox.cls
    refine wpAny_call (codeAny_of_tree ?_)
    show wpAny _ _ (callAny (.ref h2.objs.size) ⟨[], []⟩) _ _ _
    simp only [callAny]
    refine wpAny_bind (wpAny_load hu ?_)
    simp only [PySem.W.kxs_mw, show (Value.type "method-wrapper" == Value.type "method" || Value.type "method-wrapper" == Value.type "builtin_function_or_method" || Value.type "method-wrapper" == Value.type "method-wrapper") = true by decide, if_true]
    refine PySem.W.KFB.if_so (by decide) ?_
    refine wpAny_bind (PySem.W.check_bound_init F.excBase_ValueError.toExcCallFacts (k3 _ _ (K2 _ _ hC)) (k3 _ _ xa2) rfl ?_)
    refine wpAny_bind (wpAny_pure (wpAny_pure ?_))
    refine ⟨plainId_quiet F.excBase_ValueError.init.plain _, codeAny_builtin F.excBase_ValueError.initEntry ?_⟩
    refine PySem.W.exc_init_tree (cls := .ref C) (t0 := t0) (dv := none) (c2 := .none) (c3 := .none) (b4 := .bool false) (k3 _ _ xa2) (Nat.zero_le _) fun h' k4 ex et => ?_
    have kf : ∀ b u, b ≠ a → s0.get? b = some u → h'.get? b = some u := fun b u hb e => k4 b u hb (k3 _ _ (k2 _ _ (kk _ _ e)))
    have ao : ∃ u, h'.get? a = some u := ⟨_, ex⟩
    have mu : Mut (H a) := by
      rw [ha]
      exact True.intro
    have eu : upd H a (exo a C none) = H := by
      funext b
      by_cases hb : b = a
      · rw [hb, upd_same, ha]
      · rw [upd_ne hb]
    have un : Un (frs outer) [] H (upd H a (exo a C none)) s0 h' := Un.write mu (.inl rfl) kf ao
    have ok : HOk P w (upd H a (exo a C none)) h' := e0.hok.write mu (.inl rfl) kf ao (exo_ok ex)
    rw [eu] at un ok
    refine wpAt_of_wpAny (wpAny_execs_nil ?_)
    exact ⟨.non, H, rfl, e0.bare, un, ok, rfl, q⟩
/-- C(), an own error class whose __init__ is such: a new error, its dict none -/
theorem pe_sup0 {X : Cx} {x : Str} {D C fI : Addr} {k : Nat} {fd : FuncData} {p pos : Pos} (T : SupC X.K D C) (iC : PySem.W.findIn X.K (.ref C) "__init__" = some (some (.ref fI))) (tI : PySem.W.typeIn X.K (.ref fI) = some (.type "function"))
    (F1 : FnOk X.prog X.w X.K X.mg X.base CX0 k fI fd ["self"] (spSup X.K D)) (hr : Room (k + 1) X.A) (hb : Binds X.K fd ["self"] []) (hg : Gl X x) (hm : X.mg x = some (.ref C)) (hdb : (x == ("__debug__" : Str)) = false := by decide) :
    PE X (.Call (.Name x p) [] [] pos) (fun σ H Q => ∀ a, H a = none → Q (.ref a) (upd H a (exo a C none))) := by
  refine ⟨fun pins s σ H Q I h => ?_⟩
  obtain ⟨nm, q, N, bs, bm, sn, sub, ab, col, dd, k0, k1, k2, k3, k5, hC, hbm⟩ := T.ox.cls
  refine wpAny_Call_Name_kw (ld_glob I hg hm ?_ hdb)
  refine PySem.W.callWith_K0 I.kIn T.ox.kC ?_
  obtain ⟨hp, g, dr, tk, os⟩ := s
  have hsz : hp.objs.size ≤ hp.objs.size + 1 := Nat.le_succ _
  have hn : H (hp.objs.size + 1) = none := I.hok.fresh hsz
  have hq := h (hp.objs.size + 1) hn
  have kk : ∀ b o, hp.get? b = some o → ((hp.push (PySem.W.kdv_tup [])).push (PySem.HandSPX.excO C hp.objs.size)).get? b = some o := fun b o e => Heap.get?_push_of_some _ (Heap.get?_push_of_some _ e)
  have hget : ((hp.push (PySem.W.kdv_tup [])).push (PySem.HandSPX.excO C hp.objs.size)).get? (hp.objs.size + 1) = some (PySem.HandSPX.excO C hp.objs.size) := by heap_get
  have I2 : Inv X pins σ (upd H (hp.objs.size + 1) (exo (hp.objs.size + 1) C none)) ⟨(hp.push (PySem.W.kdv_tup [])).push (PySem.HandSPX.excO C hp.objs.size), g, dr, tk, os⟩ :=
    I.laid (t' := tk) (a := hp.objs.size + 1) (o := exo (hp.objs.size + 1) C none) (h' := (hp.push (PySem.W.kdv_tup [])).push (PySem.HandSPX.excO C hp.objs.size)) kk hsz (exo_ok hget)
  have hsp : spSup X.K D [.ref (hp.objs.size + 1)] (upd H (hp.objs.size + 1) (exo (hp.objs.size + 1) C none)) (fun v H2 => v = .non ∧ Q (.ref (hp.objs.size + 1)) H2) (fun _ _ _ => False) := ⟨_, C, rfl, upd_same, T, rfl, hq⟩
  refine wpAny_call (PySem.HandSPX.call_own F.excBase_ValueError (fun Y => PySem.HandSPX.refsVE_contains Y bm hbm) (I.kIn _ _ hC) (PySem.W.looks_findIn I.kIn iC) (fun self => PySem.W.bind_fn I.kIn self tI) (Nat.zero_le _)
    (codeAny_mono (F1.run _ X.stack _ _ ⟨Value.ref (hp.objs.size + 1) :: [], []⟩ [Value.ref (hp.objs.size + 1)] [V.ref (hp.objs.size + 1)] _ (fun _ _ _ => False) (hr.make C [] []) (I2.env0.make C [] []) (hb _ [Value.ref (hp.objs.size + 1)] I2.kIn rfl) (.cons rfl .nil) hsp) fun r s' hq' => ?_))
  cases r with
  | error er => exact hq'.elim
  | ok fl =>
    cases fl with
    | ret u =>
      obtain ⟨v, H', I3, rv, ev, q3⟩ := I2.after hq'
      subst ev
      exact ⟨rv, ⟨V.ref (hp.objs.size + 1), H', I3, rfl, q3⟩⟩
    | next => exact False.elim hq'
    | brk => exact False.elim hq'
    | cont => exact False.elim hq'
end L2

set_option maxRecDepth 100000
set_option maxHeartbeats 4000000
/-! own rules: errors of own classes held as values -/
namespace L2
open PySem PySem.Spec PySem.Calls PyProof.Rows
section
variable {X : Cx} {pins : List (Addr × Obj)} {σ : St} {H : Hp} {s : Shared}
/-- the error at a of the class C: without a dict, or with one that holds fs -/
def ErrAt (H : Hp) (a C : Addr) (fs : Option (List (Str × V))) : Prop := match fs with
  | none => H a = some (exo a C none)
  | some l => ∃ dx, H a = some (exo a C (some dx)) ∧ H dx = some (exd dx l)
theorem err_inst {a C : Addr} {fs : Option (List (Str × V))} (I : Inv X pins σ H s) (e : ErrAt H a C fs) : ∃ (oe : Obj) (od : Option Obj), PySem.W.InstAt s.heap a oe C od ∧ (fs = none → od = none) := by
  cases fs with
  | none =>
    obtain ⟨t0, hx⟩ := exo_at I.hok e
    exact ⟨_, none, ⟨hx, rfl, rfl, trivial⟩, fun _ => rfl⟩
  | some l =>
    obtain ⟨dx, e1, e2⟩ := e
    obtain ⟨t0, hx⟩ := exo_at I.hok e1
    obtain ⟨mA, hns, hr⟩ := exd_at I.hok e2
    obtain ⟨od, ho, hl⟩ := lookIn_ns hns
    exact ⟨_, some od, ⟨hx, rfl, rfl, ho⟩, fun h => nomatch h⟩
/-- isinstance(e, c), e such an error -/
def rIsX (K : PySem.W.Frag) : List V → Hp → VK → Prop := fun xs H Q => ∃ (a C : Addr) (fs : Option (List (Str × V))) (c : V) (cv : Value) (b : Bool), xs = [.ref a, c] ∧ ErrAt H a C fs ∧ ExcC K C ∧ (∀ u, RelV c u → u = cv) ∧ PySem.W.kitOne K (.ref C) cv = some b ∧ Q (.bl b) H
theorem call_isX : CallR X (.builtin "isinstance") (rIsX X.K) := by
  intro pins s σ H xs us Q I r h
  obtain ⟨a, C, fs, c, cv, b, rfl, he, T, hcv, e, q⟩ := h
  cases r with
  | cons rx rr =>
    cases rr with
    | cons rt rr =>
      cases rr
      cases rx
      have ec := hcv _ rt
      subst ec
      obtain ⟨oe, od, J, _⟩ := err_inst I he
      have hcl : (PySem.W.clsIn X.K C).isSome = true := by
        obtain ⟨cd, hc, _⟩ := PySem.W.any_some T.hd
        rw [hc]
        rfl
      exact PySem.W.kia_one (PySem.W.kitx_exc hcl T.hg T.hk T.hs T.ha T.hn T.ht T.hm) I.kIn J e (fun z => nomatch z) fun tk => ⟨.bl b, H, I.kept (t' := tk) fun _ _ z => z, rfl, q⟩
/-- e.f, e such an error -/
def tXv (K : PySem.W.Frag) (te : TE) (n : Str) : TE := fun σ H Q => te σ H fun x H1 => ∃ (a C : Addr) (fs : List (Str × V)) (v : V), x = .ref a ∧ ErrAt H1 a C (some fs) ∧ XfC K C ∧ PySem.W.findIn K (.ref C) n = some none ∧ fs.lookup n = some v ∧ Q v H1
theorem pe_xv {e : Expr} {te : TE} {pos : Pos} {n : Str} (he : PE X e te) (hb : attributeBase e n X.env (eval e X.env) = eval e X.env) : PE X (.Attribute e n pos) (tXv X.K te n) := by
  refine ⟨fun pins s σ H Q I h => ?_⟩
  refine attr_of hb (thn (he.run pins s σ H _ I h) fun u s1 hh => ?_)
  obtain ⟨x, H1, I1, rx, a, C, fs, v, ex, ⟨dx, e1, e2⟩, T, hno, l, q⟩ := hh
  subst ex
  obtain rfl : u = Value.ref a := rx
  obtain ⟨t0, ha⟩ := exo_at I1.hok e1
  obtain ⟨mA, hns, hr⟩ := exd_at I1.hok e2
  obtain ⟨od, ho, hl⟩ := lookIn_ns hns
  obtain ⟨u, hu, ru⟩ := RelO.some_of (v := v) (o := mA n) (by rw [← l]; exact hr n)
  have J : PySem.W.InstAt s1.heap a _ C (some od) := ⟨ha, rfl, rfl, ho⟩
  exact HandSPX.exc_get I1.kIn J T.ga T.gg T.exC (PySem.W.findObj_own T.hdC hno rfl (by rw [hl, hu])) (handed_of ru) ⟨v, H1, I1.tok _, ru, q⟩
/-- raise e, e such an error without a dict -/
theorem pmk_exo {e : Expr} {te : TE} (hx : X.ex = []) (he : PE X e te) :
    PMk X e (fun σ H Q => te σ H fun x H1 => ∃ a C, x = .ref a ∧ H1 a = some (exo a C none) ∧ Fr0 X.H_0 a ∧ Raises X (.ref C) ∧ Q (.ref C) none (delH H1 a)) := by
  intro pins s σ H Q I h
  refine wpAny_mono (he.run pins s σ H _ I h) (fun u s1 hu => ?_) fun _ _ x => x
  obtain ⟨v, H1, I1, r1, a, C, rfl, ha, h0, hr, q⟩ := hu
  cases r1
  obtain ⟨t0, ho⟩ := exo_at I1.hok ha
  obtain ⟨G, gs, ga, J⟩ := I1.untrack ha h0 hx
  exact ⟨a, _, _, { s1 with heap := G }, delH H1 a, .ref C, none, rfl, J, gs, ga, ho, ⟨rfl, rfl⟩, rfl, rfl, delH_same, rfl, I1.bare, hr, q⟩
end
/-- C(e, ..), C's own __init__ keeping sp, as a value -/
theorem pe_ovx {X : Cx} {CX : CXT} {x : Str} {C fI : Addr} {k : Nat} {fd : FuncData} {ps : List Str} {sp : Sp} {e : Expr} {es : List Expr} {ta : TA} {p pos : Pos} (T : OexC X.K C) (iC : PySem.W.findIn X.K (.ref C) "__init__" = some (some (.ref fI))) (tI : PySem.W.typeIn X.K (.ref fI) = some (.type "function"))
    (F1 : FnOk X.prog X.w X.K X.mg X.base CX k fI fd ps sp) (hr : Room (k + 1) X.A) (hb : Binds X.K fd ps []) (hx : Passes CX X (fun _ _ _ => False)) (hg : Gl X x) (hm : X.mg x = some (.ref C)) (ha : PA X (e :: es) ta)
    (hdb : (x == ("__debug__" : Str)) = false := by decide) (he : starEach (e :: es) X.env = (false, eval e X.env) :: starEach es X.env := by rfl) (hpl : (backTo pos (starEach es X.env)).any (·.1) = false := by rfl) :
    PE X (.Call (.Name x p) (e :: es) [] pos) (fun σ H Q => ta σ H fun vs H1 => vs.length ≤ 1000 ∧ ∀ a, H1 a = none → sp (.ref a :: vs) (upd H1 a (exo a C none)) (fun v H2 => v = .non ∧ Q (.ref a) H2) (fun _ _ _ => False)) := by
  refine ⟨fun pins s σ H Q I h => ?_⟩
  obtain ⟨nm, q, N, bs, bm, sn, sub, ab, col, dd, k0, k1, k2, k3, k5, hC, hbm⟩ := T.cls
  refine wpAny_Call_Name_kw (ld_glob I hg hm ?_ hdb)
  refine PySem.W.callWith_K (h₀ := X.base) I.ok.mod.kin T.kC (thn (ha.run pos pins s σ H _ I h) fun us s1 ⟨vs, H1, I1, r1, hz, q1⟩ => ⟨I1.kIn, ?_⟩) he hpl
  show wpAny _ _ (call (.ref C) us) _ _ _
  obtain ⟨hp, g, dr, tk, os⟩ := s1
  have hn : H1 (hp.objs.size + 1) = none := I1.hok.fresh (Nat.le_succ _)
  have hq := q1 (hp.objs.size + 1) hn
  have hget : ((hp.push (PySem.W.kdv_tup us)).push (PySem.HandSPX.excO C hp.objs.size)).get? (hp.objs.size + 1) = some (PySem.HandSPX.excO C hp.objs.size) := by heap_get
  have I2 : Inv X pins σ (upd H1 (hp.objs.size + 1) (exo (hp.objs.size + 1) C none)) ⟨(hp.push (PySem.W.kdv_tup us)).push (PySem.HandSPX.excO C hp.objs.size), g, dr, tk, os⟩ :=
    I1.laid (t' := tk) (o := exo (hp.objs.size + 1) C none) (fun b o e => Heap.get?_push_of_some _ (Heap.get?_push_of_some _ e)) (Nat.le_succ _) (exo_ok hget)
  have r2 : Vals (V.ref (hp.objs.size + 1) :: vs) (Value.ref (hp.objs.size + 1) :: us) := .cons rfl r1
  have hl : (Value.ref (hp.objs.size + 1) :: us).length = ps.length := by
    have e := r2.length
    rw [F1.len _ _ _ _ hq] at e
    exact e.symm
  have hus : us.length ≤ sizeLine := by
    rw [← Paired.length r1, sizeLine_eq]
    omega
  have hbt := hb ⟨(hp.push (PySem.W.kdv_tup us)).push (PySem.HandSPX.excO C hp.objs.size), g, dr, tk, os⟩ (Value.ref (hp.objs.size + 1) :: us) I2.kIn (by rw [List.append_nil]; exact hl)
  rw [List.append_nil] at hbt
  refine wpAny_call (PySem.HandSPX.call_own F.excBase_ValueError (fun Y => PySem.HandSPX.refsVE_contains Y bm hbm) (I1.kIn _ _ hC) (PySem.W.looks_findIn I1.kIn iC) (fun self => PySem.W.bind_fn I1.kIn self tI) hus
    (codeAny_mono (F1.run _ X.stack _ _ ⟨Value.ref (hp.objs.size + 1) :: us, []⟩ (Value.ref (hp.objs.size + 1) :: us) _ _ (fun _ _ _ => False) (hr.make C us []) (I2.env0.make C us []) hbt r2 hq) fun r s' hq' => ?_))
  cases r with
  | error er => exact hx pins σ _ _ er s' I2 hq'
  | ok fl =>
    cases fl with
    | ret u =>
      obtain ⟨v, H', I3, rv, ev, q3⟩ := I2.after hq'
      subst ev
      exact ⟨rv, ⟨V.ref (hp.objs.size + 1), H', I3, rfl, q3⟩⟩
    | next => exact False.elim hq'
    | brk => exact False.elim hq'
    | cont => exact False.elim hq'
end L2

set_option maxRecDepth 100000
set_option maxHeartbeats 4000000
namespace W1
open PySem PyProof.Rows L2
local macro_rules | `(tactic| walk_at "rp") => `(tactic| first | assumption | exact Rp.int _ | exact Rp.bl _ | exact Rp.str _ | exact Rp.non | exact Rp.obj _ | (refine Rp.le (by assumption) ?_; walk_at "rp"))
local macro_rules | `(tactic| walk_at "ed") => `(tactic| first
  | exact ed_int | exact ed_str | exact ed_bl | exact ed_non
  | (refine ed_var rfl ?_; walk_at "rp")
  | (refine ed_ixT (ds := [_, _]) ?_ ed_int (by decide) rfl; walk_at "ed")
  | (refine ed_I0 ?_ ?_ <;> walk_at "ed")
  | (refine ed_B0 ?_ ?_ <;> walk_at "ed")
  | (refine ed_eqS ?_ ?_ rfl rfl rfl <;> walk_at "ed")
  | assumption)
local macro_rules | `(tactic| walk_at "ea") => `(tactic| first | exact ea_nil | (refine ea_cons ?_ ?_; walk_at "ed"; walk_at "ea"))

abbrev s_after : Stmt := topS 27
abbrev N_after : List Str := ["web", "standing", "deed"]
theorem sc_after : FnScope N_after ["web", "standing", "deed"] (defScope s_after) := ⟨rfl, rfl, rfl, by decide +kernel, rfl, by decide +kernel, by decide +kernel⟩
abbrev s_check_tags : Stmt := topS 11
abbrev N_check_tags : List Str := ["k"]
theorem sc_check_tags : FnScope N_check_tags ["k"] (defScope s_check_tags) := ⟨rfl, rfl, rfl, by decide +kernel, rfl, by decide +kernel, by decide +kernel⟩
def oneB : List D → Bool
  | [t] => numB t
  | _ => false
theorem one_no : ∀ {rest : List D}, rest.length ≠ 1 → oneB rest = false
  | [], _ => rfl
  | [_], h => absurd rfl h
  | _ :: _ :: _, _ => rfl
theorem cutG2 {α : Type} (xs : List α) : cutG xs none (some 2) = xs.take 2 := cutG_hi xs 2 (by decide)
theorem ask_take {st : St1} {xs : List D} (h : askB st (xs.take 2) = true) : ∃ w r rest, xs = .str w :: .int r :: rest := by
  match xs, h with
  | [], h => cases h
  | [a], h =>
    have : askB st [a] = false := askB_not fun w r e => nomatch e
    rw [show ([a] : List D).take 2 = [a] from rfl, this] at h
    cases h
  | a :: b :: rest, h =>
    replace h : askB st [a, b] = true := h
    unfold askB at h
    split at h
    · rename_i w r e
      injection e with e1 e2
      injection e2 with e2 _
      subst e1 e2
      exact ⟨w, r, rest, rfl⟩
    · cases h
theorem dOf_ask {st : St1} {xs : List D} (h : askB st (xs.take 2) = false) : dOf st (.tup xs) = none := by
  cases hd : dOf st (.tup xs) with
  | none => rfl
  | some dd =>
    obtain ⟨e, ok⟩ := dOf_ok hd
    exfalso
    cases dd with
    | back r =>
      injection e with e
      subst e
      have := askB_iff.mpr ⟨ok.r0, ok.r1, show ("back" : Str) = if (stAt st r).1 = true then ("back" : Str) else "give" by rw [show (stAt st r).1 = true from ok.fl]; rfl⟩
      rw [show ([D.str "back", D.int r] : List D).take 2 = [D.str "back", D.int r] from rfl] at h
      have h' : askB st [D.str "back", D.int r] = true := this
      rw [h] at h'
      cases h'
    | give r t =>
      injection e with e
      subst e
      have := askB_iff.mpr ⟨ok.r0, ok.r1, show ("give" : Str) = if (stAt st r).1 = true then ("back" : Str) else "give" by rw [show (stAt st r).1 = false from ok.fl]; rfl⟩
      rw [show ([D.str "give", D.int r, D.int t] : List D).take 2 = [D.str "give", D.int r] from rfl] at h
      have h' : askB st [D.str "give", D.int r] = true := this
      rw [h] at h'
      cases h'
theorem dOf_not {st : St1} {d : D} (h : tupB d = false) : dOf st d = none := by
  cases d <;> first | rfl | cases h
theorem dOf_back {st : St1} {r : Int} {rest : List D} (h : askB st [.str "back", .int r] = true) : (dOf st (.tup (.str "back" :: .int r :: rest))).isSome = decide (rest.length = 0) := by
  match rest with
  | [] =>
    show (if askB st [.str "back", .int r] = true ∧ ("back" : Str) = "back" then some (Deed.back r) else none).isSome = _
    rw [if_pos ⟨h, rfl⟩]
    rfl
  | [t] =>
    have : dOf st (.tup [.str "back", .int r, t]) = none := by
      cases t with
      | int t =>
        show (if askB st [.str "back", .int r] = true ∧ ("back" : Str) ≠ "back" ∧ 0 ≤ t then some (Deed.give r t) else none) = none
        rw [if_neg fun h => h.2.1 rfl]
      | _ => rfl
    rw [this]
    rfl
  | _ :: t :: rest =>
    rename_i u
    cases u <;> rfl
theorem dOf_give {st : St1} {w : Str} {r : Int} {rest : List D} (h : askB st [.str w, .int r] = true) (hw : w ≠ "back") : (dOf st (.tup (.str w :: .int r :: rest))).isSome = oneB rest := by
  match rest with
  | [] =>
    show (if askB st [.str w, .int r] = true ∧ w = "back" then some (Deed.back r) else none).isSome = _
    rw [if_neg fun h => hw h.2]
    rfl
  | [t] =>
    cases t with
    | int t =>
      show (if askB st [.str w, .int r] = true ∧ w ≠ "back" ∧ 0 ≤ t then some (Deed.give r t) else none).isSome = decide (0 ≤ t)
      by_cases ht : 0 ≤ t
      · rw [if_pos ⟨h, hw, ht⟩, decide_eq_true ht]
        rfl
      · rw [if_neg fun h => ht h.2.2, decide_eq_false ht]
        rfl
    | _ => rfl
  | u :: t :: rest => cases u <;> rfl
section
variable {P : Program} {w : World} {K : PySem.W.Frag} {mg : Str → Option Value} {base : Heap} {C : Addr}
def R_isdeed (K : PySem.W.Frag) (C : Addr) : List D → Hp → Pd → Prop := fun ds H P => ∃ a ms ties st d, ds = [.obj (.ref a), eT st, d] ∧ WebAt K C H a ms ties ∧ st.length = ms.length ∧ Th H d ∧ P = is (.bl (dOf st d).isSome)
theorem ok_isdeed (T : HTxt mg) (g : GDef K mg "is_deed" s_is_deed ["web", "standing", "thing"]) (Gis_ask : Def P w K mg base 4 "is_ask" ["web", "standing", "thing"] (spD K (R_isask K C))) (Gis_number : Def P w K mg base 2 "is_number" ["thing"] (spD K R_isnum)) :
    Def P w K mg base 5 "is_deed" ["web", "standing", "thing"] (spD K (R_isdeed K C)) := by
  refine defD g sc_is_deed (fun ds H Pd h => ?_) fun cdv A outer s f H vs ds Pd Q E hr r h q => ?_
  · obtain ⟨a, ms, ties, st, xs, rfl, _⟩ := h
    rfl
  obtain ⟨a, ms, ties, st, d, rfl, x, hl, ht, rfl⟩ := h
  obtain ⟨v1, v2, v3, rfl, r1, r2, r3⟩ := rps3 r
  refine ⟨_, (pss_cons (ps_if (PW.pt (pw_or (pt_not (pt_val (pe_callB (kc_isi (K := K)) (by rfl) T.n_isinstance boot_isinstance (pa_cons (pv 2) (pa_cons (pe_bltn (v := V.ty "tuple") (by rfl) T.n_tuple boot_tuple rfl) pa_nil))))) (pw_or1 (pt_not (pt_val (pe_def Gis_ask (hr.mono (by decide)) (pa_cons (pv 0) (pa_cons (pv 1) (pa_cons (pe_slice (ksl_tup (K := K)) (pv 2) po_none (po_some pe_int)) pa_nil)))))))))
      (pss_one (ps_ret pe_bl))
      pss_nil)
    (pss_cons (ps_if (pt_cmpR op_eq (pe_ix (kix_tup (K := K)) (pv 2) pe_int (fun _ _ => rfl)) pe_str (nomark _))
      (pss_one (ps_ret (pe_cmpR op_eq (pe_callB (kc_len (K := K)) (by rfl) T.n_len boot_len (pa_cons (pv 2) pa_nil)) pe_int (nomark _))))
      pss_nil)
    (pss_one (ps_ret (pe_and (pe_cmpR op_eq (pe_callB (kc_len (K := K)) (by rfl) T.n_len boot_len (pa_cons (pv 2) pa_nil)) pe_int (nomark _)) (pe_one (pe_def Gis_number (hr.mono (by decide)) (pa_cons (pe_ix (kix_tup (K := K)) (pv 2) pe_int (fun _ _ => rfl)) pa_nil)))))))), ?_⟩
  by_cases hd : tupB d = false
  · refine q_whenB (b := true) (eb_eq (eb_or (a := true) (b := true) (eb_eq (eb_not (et_B (K := K) (ed_isTup (ed_var rfl r3) ht.tk))) (by rw [hd]; rfl)) fun h => nomatch h) rfl) (fun _ H1 e1 => ?_) fun h => nomatch h
    exact s_retD ed_bl fun v H2 e2 r => q v _ H2 (e1.trans e2) (by show D.bl false = D.bl _; rw [dOf_not hd]; rfl) r
  obtain ⟨xs, rfl⟩ : ∃ xs, d = .tup xs := by
    cases d with
    | tup xs => exact ⟨xs, rfl⟩
    | _ => exact absurd rfl hd
  obtain ⟨hz, hi⟩ := ht.items
  refine q_whenB (b := !askB st (xs.take 2)) (eb_eq (eb_or (a := false) (b := !askB st (xs.take 2)) (eb_eq (eb_not (et_B (K := K) (ed_isTup (ed_var rfl r3) ht.tk))) rfl) fun _ => eb_not (et_B (K := K) (ed_call (ea_cons (ed_var rfl r1) (ea_cons (ed_var rfl r2) (ea_cons (ed_eq (ed_slT (lo := none) (hi := some 2) (ed_var rfl r3) eo_none (eo_some (K := K) ed_int)) (by rw [cutG2])) ea_nil))) fun H1 e1 => ⟨a, ms, ties, st, _, rfl, x.le e1, hl, fun d hd => (hi d (List.mem_of_mem_take hd)).le e1, rfl⟩))) (Bool.false_or _)) (fun hb H1 e1 => ?_) fun hb H1 e1 => ?_
  · rw [Bool.not_eq_true'] at hb
    exact s_retD ed_bl fun v H2 e2 r => q v _ H2 (e1.trans e2) (by show D.bl false = D.bl _; rw [dOf_ask hb]; rfl) r
  · rw [Bool.not_eq_false'] at hb
    obtain ⟨w', rm, rest, rfl⟩ := ask_take hb
    replace hb : askB st [.str w', .int rm] = true := hb
    refine q_whenB (b := decide (w' = "back")) (eb_eq (et_test (K := K) (ed_eqS (d1 := .str w') (d2 := .str "back") (ed_ixT (ed_var rfl (r3.le e1)) ed_int (by decide) rfl) ed_str rfl rfl rfl)) (vs_str _ _)) (fun hw H2 e2 => ?_) fun hw H2 e2 => ?_
    · have hw := of_decide_eq_true hw
      subst hw
      refine s_retD (K := K) (ed_eqS (d1 := .int ((.str "back" :: .int rm :: rest : List D).length : Int)) (d2 := .int 2) (ed_lenT (ed_var rfl (r3.le (e1.trans e2)))) ed_int rfl rfl rfl) fun v H3 e3 r => q v _ H3 ((e1.trans e2).trans e3) ?_ r
      show D.bl _ = D.bl _
      rw [vs_int, dOf_back hb]
      congr 1
      rw [decide_eq_decide, List.length_cons, List.length_cons]
      omega
    · have hw := of_decide_eq_false hw
      have e12 := e1.trans e2
      have fin : ∀ b, b = oneB rest → ∀ v H3, Le H2 H3 → Rp K H3 v (.bl b) → Q v H3 := fun b hb2 v H3 e3 r => q v _ H3 (e12.trans e3) (by show D.bl _ = D.bl _; rw [dOf_give hb hw, hb2]) r
      by_cases h3 : rest.length = 1
      · obtain ⟨t, rfl⟩ : ∃ t, rest = [t] := by
          match rest, h3 with
          | [t], _ => exact ⟨t, rfl⟩
        refine s_retD (K := K) (ed_andV (a := true) (b := numB t) (ed_eq (ed_eqS (d1 := .int ((.str w' :: .int rm :: [t] : List D).length : Int)) (d2 := .int 3) (ed_lenT (ed_var rfl (r3.le e12))) ed_int rfl rfl rfl) (congrArg D.bl ((vs_int _ _).trans (decide_eq_true rfl)))) fun _ => ed_call (ea_cons (ed_ixT (ed_var rfl (r3.le e12)) ed_int (by decide) rfl) ea_nil) fun H3 e3 => ⟨t, rfl, ((hi t (by simp)).le (e12.trans e3)).tk, rfl⟩) fun v H3 e3 r => fin _ rfl v H3 e3 r
      · refine s_retD (K := K) (ed_andV (a := false) (b := true) (ed_eq (ed_eqS (d1 := .int ((.str w' :: .int rm :: rest : List D).length : Int)) (d2 := .int 3) (ed_lenT (ed_var rfl (r3.le e12))) ed_int rfl rfl rfl) (congrArg D.bl ?_)) fun h => nomatch h) fun v H3 e3 r => fin _ (one_no h3).symm v H3 e3 r
        rw [vs_int, decide_eq_false]
        rw [List.length_cons, List.length_cons]
        omega
/-! ### after -/
structure NC (P : Program) (w : World) (K : PySem.W.Frag) (mg : Str → Option Value) (base : Heap) (x : Str) (C D : Addr) : Prop where
  mgC : mg x = some (.ref C)
  sc : SupC K D C
  rs : PySem.W.subIn K (.ref C) (.type "BaseException") = some true ∧ PySem.W.typeIn K (.ref C) = some (.type "type")
  ex : ∃ fi fd, PySem.W.findIn K (.ref C) "__init__" = some (some (.ref fi)) ∧ PySem.W.typeIn K (.ref fi) = some (.type "function") ∧ FnOk P w K mg base CX0 1 fi fd ["self"] (spSup K D) ∧ Binds K fd ["self"] []
theorem pe_nc {X : Cx} {x : Str} {C D : Addr} {p pos : Pos} (c : NC X.prog X.w X.K X.mg X.base x C D) (hr : Room 2 X.A) (hg : Gl X x) (hdb : (x == ("__debug__" : Str)) = false := by decide) : PE X (.Call (.Name x p) [] [] pos) (fun σ H Q => ∀ a, H a = none → Q (.ref a) (upd H a (exo a C none))) := by
  obtain ⟨fi, fd, h1, h2, F, b⟩ := c.ex
  exact pe_sup0 c.sc h1 h2 F hr b hg c.mgC hdb
/-- a def that may raise -/
def DefX (P : Program) (w : World) (K : PySem.W.Frag) (mg : Str → Option Value) (base : Heap) (k : Nat) (x : Str) (ps : List Str) (sp : Sp) : Prop :=
  ∃ f fd, mg x = some (.ref f) ∧ PySem.W.keepIn K (.ref f) = true ∧ Binds K fd ps [] ∧ FnOk P w K mg base (L2.CX P w) k f fd ps sp
theorem defX {x : Str} {st : Stmt} {N ps : List Str} {k : Nat} {sp : Sp} (g : GDef K mg x st ps) (S : FnScope N ps (defScope st)) (hl : ∀ vs H Q E, sp vs H Q E → vs.length = ps.length)
    (body : ∀ (cdv : Value) (A : Around) (outer : List Env) (s : Shared) (f : Addr) (H : Hp) (vs : List V) (Q : VK) (E : XK), Room k (A.deeper (envOfC x (defScope st) s.heap.objs.size f cdv)) → sp vs H Q E →
      ∃ t, PSs (cxOf (L2.CX P w) P w K mg base N x (defScope st) f cdv A outer s H E) (defBody st) t ∧ t { nx := fun _ H' => Q .non H', rt := Q } (start N vs) H) : DefX P w K mg base (k + 1) x ps sp := by
  obtain ⟨f, fd, hm, F, hb⟩ := g
  exact ⟨f, fd, hm, F.kp, hb, F.okX S hl fun cdv A outer s H vs Q E hr h => body cdv A outer s f H vs Q E hr h⟩
def spAfter (K : PySem.W.Frag) (C CN : Addr) : Sp := fun vs H Q E => ∃ a ms ties st d, Rps K H vs [.obj (.ref a), eT st, d] ∧ WebAt K C H a ms ties ∧ StOk st ∧ st.length = ms.length ∧ Th H d ∧
  (dOf st d = none → ∀ H2, Le H H2 → E (.ref CN) none H2) ∧ (∀ dd, dOf st d = some dd → ∀ v H2, Le H H2 → Rp K H2 v (eT (wdL ms st dd)) → Q v H2)
theorem ok_after {CN D : Addr} (T : HTxt mg) (g : GDef K mg "after" s_after ["web", "standing", "deed"]) (Gis_deed : Def P w K mg base 5 "is_deed" ["web", "standing", "thing"] (spD K (R_isdeed K C))) (Gwith_deed : Def P w K mg base 2 "with_deed" ["web", "standing", "deed"] (spD K (R_wd K C))) (c_NoDeed : NC P w K mg base "NoDeed" CN D) :
    DefX P w K mg base 6 "after" ["web", "standing", "deed"] (spAfter K C CN) := by
  refine defX g sc_after (fun vs H Q E h => ?_) fun cdv A outer s f H vs Q E hr h => ?_
  · obtain ⟨a, ms, ties, st, d, r, _⟩ := h
    exact r.len
  obtain ⟨a, ms, ties, st, d, r, x, sok, hl, ht, no, yes⟩ := h
  obtain ⟨v1, v2, v3, rfl, r1, r2, r3⟩ := rps3 r
  refine ⟨_, (pss_cons (ps_if (pt_not (pt_val (pe_def Gis_deed (hr.mono (by decide)) (pa_cons (pv 0) (pa_cons (pv 1) (pa_cons (pv 2) pa_nil))))))
      (pss_one (ps_raise rfl (takes_of rfl rfl rfl rfl) (pmk_exo rfl (pe_nc c_NoDeed (hr.mono (by decide)) (by rfl)))))
      pss_nil)
    (pss_one (ps_ret (pe_def Gwith_deed (hr.mono (by decide)) (pa_cons (pv 0) (pa_cons (pv 1) (pa_cons (pv 2) pa_nil))))))), ?_⟩
  refine q_whenB (b := !(dOf st d).isSome) (eb_not (et_B (K := K) (ed_call (ea_cons (ed_var rfl r1) (ea_cons (ed_var rfl r2) (ea_cons (ed_var rfl r3) ea_nil))) fun H1 e1 => ⟨a, ms, ties, st, d, rfl, x.le e1, hl, ht.le e1, rfl⟩))) (fun hb H1 e1 => ?_) fun hb H1 e1 => ?_
  · intro a na
    have hn : dOf st d = none := by
      cases h : dOf st d with
      | none => rfl
      | some dd =>
        rw [h] at hb
        cases hb
    refine ⟨a, CN, rfl, upd_same, fr0_none (e1.fresh na), raises_own c_NoDeed.rs.1 c_NoDeed.rs.2, ?_⟩
    rw [delH_new na]
    exact no hn H1 e1
  · cases h : dOf st d with
    | none =>
      rw [h] at hb
      cases hb
    | some dd =>
      obtain ⟨rfl, ok⟩ := dOf_ok h
      refine s_retD (K := K) (d := eT (wdL ms st dd)) (ed_call (ea_cons (ed_var rfl (r1.le e1)) (ea_cons (ed_var rfl (r2.le e1)) (ea_cons (ed_var rfl (r3.le e1)) ea_nil))) fun H2 e2 => ⟨a, ms, ties, st, dd, rfl, x.le (e1.trans e2), sok, hl, ok.r0, by rw [← hl]; exact ok.r1, rfl⟩) fun v H2 e2 r => yes dd h v H2 (e1.trans e2) r
def R_ctags : List D → Hp → Pd → Prop := fun ds H P => ∃ k : Int, ds = [.int k] ∧ 1 ≤ k ∧ k ≤ 200 ∧ P = is .non
theorem ok_ctags (T : HTxt mg) (g : GDef K mg "check_tags" s_check_tags ["k"]) (Gis_between : Def P w K mg base 2 "is_between" ["least", "most", "thing"] (spD K R_btw)) : Def P w K mg base 3 "check_tags" ["k"] (spD K R_ctags) := by
  refine defD g sc_check_tags (fun ds H Pd h => ?_) fun cdv A outer s f H vs ds Pd Q E hr r h q => ?_
  · obtain ⟨k, rfl, _⟩ := h
    rfl
  obtain ⟨k, rfl, h1, h2, rfl⟩ := h
  obtain ⟨v1, rfl, r1⟩ := rps1 r
  refine ⟨_, (pss_one (ps_if (pt_not (pt_val (pe_def Gis_between (hr.mono (by decide)) (pa_cons pe_int (pa_cons (pe_gl T.g_tags) (pa_cons (pv 0) pa_nil))))))
      (pss_one ps_never)
      pss_nil)), ?_⟩
  refine s_no (eb_not (et_B (ed_btw ed_int ed_int (ed_var rfl r1) rfl))) ?_ fun H1 e1 => q _ .non H1 e1 rfl .non
  show (!(decide _ && decide _)) = false
  rw [decide_eq_true h1, decide_eq_true h2]
  rfl
end
end W1

set_option maxRecDepth 100000
set_option maxHeartbeats 4000000
namespace W1
open PySem PyProof.Rows L2
local macro_rules | `(tactic| walk_at "rp") => `(tactic| first | assumption | exact Rp.int _ | exact Rp.bl _ | exact Rp.str _ | exact Rp.non | exact Rp.obj _ | (refine Rp.le (by assumption) ?_; walk_at "rp"))
local macro_rules | `(tactic| walk_at "ed") => `(tactic| first
  | exact ed_int | exact ed_str | exact ed_bl | exact ed_non
  | (refine ed_var rfl ?_; walk_at "rp")
  | (refine ed_ixT (ds := [_, _]) ?_ ed_int (by decide) rfl; walk_at "ed")
  | (refine ed_I0 ?_ ?_ <;> walk_at "ed")
  | (refine ed_B0 ?_ ?_ <;> walk_at "ed")
  | (refine ed_eqS ?_ ?_ rfl rfl rfl <;> walk_at "ed")
  | assumption)
local macro_rules | `(tactic| walk_at "ea") => `(tactic| first | exact ea_nil | (refine ea_cons ?_ ?_; walk_at "ed"; walk_at "ea"))

abbrev s_is_past : Stmt := topS 34
abbrev N_is_past : List Str := ["web", "k", "thing", "standing", "deed"]
theorem sc_is_past : FnScope N_is_past ["web", "k", "thing"] (defScope s_is_past) := ⟨rfl, rfl, rfl, by decide +kernel, rfl, by decide +kernel, by decide +kernel⟩
/-! ### pasts as data -/
def tagD : Deed → Int
  | .give _ t => t
  | .back _ => 0
def overK (k : Int) (dd : Deed) : Bool := isG dd && decide (k ≤ tagD dd)
def one (step : St1 → Deed → St1) (k : Int) (o : Option St1) (d : D) : Option St1 := o.bind fun st => (dOf st d).bind fun dd => if overK k dd = true then none else some (step st dd)
def pastRun (step : St1 → Deed → St1) (k : Int) (st : St1) (xs : List D) : Option St1 := xs.foldl (one step k) (some st)
theorem run_none (step : St1 → Deed → St1) (k : Int) : ∀ xs : List D, xs.foldl (one step k) none = none
  | [] => rfl
  | _ :: xs => run_none step k xs
theorem run_more {step : St1 → Deed → St1} {k : Int} {st : St1} {xs : List D} {i : Nat} {d : D} (h : xs[i]? = some d) : pastRun step k st (xs.take (i + 1)) = one step k (pastRun step k st (xs.take i)) d := by
  unfold pastRun
  rw [take_more h, List.foldl_append]
  rfl
theorem run_dead {step : St1 → Deed → St1} {k : Int} {st : St1} {xs : List D} {i : Nat} (h : pastRun step k st (xs.take i) = none) : pastRun step k st xs = none := by
  have e : xs = xs.take i ++ xs.drop i := (List.take_append_drop i xs).symm
  unfold pastRun at h ⊢
  rw [e, List.foldl_append, h, run_none]
theorem over_of {k : Int} {dd : Deed} (hb : isG dd = true) (h : overK k dd = false) : tagD dd < k := by
  unfold overK at h
  rw [hb, Bool.true_and, decide_eq_false_iff_not] at h
  omega
/-- whether a thing is a past: what keeps to a step -/
def pastB (step : St1 → Deed → St1) (k : Int) (st : St1) : D → Bool
  | .tup xs => (pastRun step k st xs).isSome
  | _ => false
theorem pastB_not {step : St1 → Deed → St1} {k : Int} {st : St1} {d : D} (h : tupB d = false) : pastB step k st d = false := by
  cases d <;> first | rfl | cases h
theorem dOf_cut (ms : List Int) (st : St1) (d : D) : dOf (cutSt ms st) d = dOf st d := by
  have ha : ∀ w r, askB (cutSt ms st) [.str w, .int r] = askB st [.str w, .int r] := fun w r => by
    cases h : askB st [.str w, .int r] with
    | true =>
      obtain ⟨h0, h1, h2⟩ := askB_iff.mp h
      exact askB_iff.mpr ⟨h0, by rw [cut_len]; exact h1, by rw [cut_at ms st h0 h1]; exact h2⟩
    | false =>
      cases h' : askB (cutSt ms st) [.str w, .int r] with
      | false => rfl
      | true =>
        obtain ⟨h0, h1, h2⟩ := askB_iff.mp h'
        rw [cut_len] at h1
        rw [cut_at ms st h0 h1] at h2
        have := askB_iff.mpr ⟨h0, h1, h2⟩
        rw [h] at this
        cases this
  unfold dOf
  split
  · rw [ha]
  · rw [ha]
  · rfl
theorem run_cut (ms : List Int) (k : Int) (st : St1) (xs : List D) : pastRun (wdL ms) k (cutSt ms st) xs = (pastRun doneL k st xs).map (cutSt ms) := by
  have : ∀ (xs : List D) (o : Option St1), xs.foldl (one (wdL ms) k) (o.map (cutSt ms)) = (xs.foldl (one doneL k) o).map (cutSt ms) := by
    intro xs
    induction xs with
    | nil => exact fun _ => rfl
    | cons d xs ih =>
      intro o
      rw [List.foldl_cons, List.foldl_cons, ← ih]
      congr 1
      cases o with
      | none => rfl
      | some st =>
        show ((dOf (cutSt ms st) d).bind fun dd => if overK k dd = true then none else some (wdL ms (cutSt ms st) dd)) = Option.map (cutSt ms) ((dOf st d).bind fun dd => if overK k dd = true then none else some (doneL st dd))
        rw [dOf_cut]
        cases hd : dOf st d with
        | none => rfl
        | some dd =>
          obtain ⟨_, ok⟩ := dOf_ok hd
          show (if overK k dd = true then none else some (wdL ms (cutSt ms st) dd)) = Option.map (cutSt ms) (if overK k dd = true then none else some (doneL st dd))
          split
          · rfl
          · rw [cut_wd ok.r0 ok.r1]
            rfl
  exact this xs (some st)
theorem pastB_cut (ms : List Int) (k : Int) (st : St1) (d : D) : pastB (wdL ms) k (cutSt ms st) d = pastB doneL k st d := by
  cases d with
  | tup xs =>
    show (pastRun (wdL ms) k (cutSt ms st) xs).isSome = (pastRun doneL k st xs).isSome
    rw [run_cut]
    cases pastRun doneL k st xs <;> rfl
  | _ => rfl
/-- states that a past leads to -/
structure Rch (n : Nat) (m : Nat) (st : St1) : Prop where
  len : st.length = n
  shown : ∀ x ∈ st, x.1 = true → x.2 ≠ []
  tags : ∀ x ∈ st, x.2.length ≤ m
theorem Rch.ok {n m : Nat} {st : St1} (h : Rch n m st) (hn : n ≤ 60) (hm : m ≤ 5000) : StOk st := ⟨by rw [h.len]; exact hn, h.shown, fun x hx => Nat.le_trans (h.tags x hx) hm⟩
theorem rch_start (n : Nat) : Rch n 0 (List.replicate n (false, [])) := by
  refine ⟨List.length_replicate, fun x hx => ?_, fun x hx => ?_⟩
  · rw [List.eq_of_mem_replicate hx]
    exact fun h => nomatch h
  · rw [List.eq_of_mem_replicate hx]
    exact Nat.le_refl _
theorem Rch.done {n m : Nat} {st : St1} {dd : Deed} (h : Rch n m st) (ok : DOk st dd) : Rch n (m + 1) (doneL st dd) := by
  have hg : (stAt st dd.room).2.length ≤ m := h.tags _ (st_mem ok.r0 ok.r1)
  refine ⟨by rw [doneL_len]; exact h.len, fun x hx => ?_, fun x hx => ?_⟩
  · rw [doneL_eq] at hx
    rcases mem_set_of hx with rfl | hx
    · cases dd with
      | give r t => exact fun _ e => nomatch e
      | back r => exact fun e => nomatch e
    · exact h.shown x hx
  · rw [doneL_eq] at hx
    rcases mem_set_of hx with rfl | hx
    · cases dd with
      | give r t =>
        show (stAt st r).2.length + 1 ≤ m + 1
        have hg' : (stAt st r).2.length ≤ m := hg
        omega
      | back r =>
        show (stAt st r).2.length ≤ m + 1
        have hg' : (stAt st r).2.length ≤ m := hg
        omega
    · exact Nat.le_succ_of_le (h.tags x hx)
theorem Rch.wd {n m : Nat} {ms : List Int} {st : St1} {dd : Deed} (h : Rch n m st) (ok : DOk st dd) : Rch n (m + 1) (wdL ms st dd) := by
  have hg : (stAt st dd.room).2.length ≤ m := h.tags _ (st_mem ok.r0 ok.r1)
  refine ⟨by rw [wdL_len]; exact h.len, fun x hx => ?_, fun x hx => ?_⟩
  · rw [wdL_eq] at hx
    rcases mem_set_of hx with rfl | hx
    · cases dd with
      | give r t =>
        intro _ e
        have e' : (t :: (stAt st r).2).take (keptN ms r) = [] := e
        have hk := kept_pos ms r
        obtain ⟨k', hk'⟩ : ∃ k', keptN ms r = k' + 1 := ⟨keptN ms r - 1, by omega⟩
        rw [hk', List.take_succ_cons] at e'
        cases e'
      | back r => exact fun e => nomatch e
    · exact h.shown x hx
  · rw [wdL_eq] at hx
    rcases mem_set_of hx with rfl | hx
    · cases dd with
      | give r t =>
        show ((t :: (stAt st r).2).take (keptN ms r)).length ≤ m + 1
        have hg' : (stAt st r).2.length ≤ m := hg
        refine Nat.le_trans (List.length_take_le' _ _) ?_
        rw [List.length_cons]
        omega
      | back r =>
        show (stAt st r).2.length ≤ m + 1
        have hg' : (stAt st r).2.length ≤ m := hg
        omega
    · exact Nat.le_succ_of_le (h.tags x hx)
section
variable {P : Program} {w : World} {K : PySem.W.Frag} {mg : Str → Option Value} {base : Heap} {C : Addr}
theorem ed_over {σ : L2.St} {H : Hp} {te tk : TE} {dd : Deed} {k : Int} (h : ED K te σ H (eD dd)) (hk : ED K tk σ H (.int k)) :
    EB (tAnd (tTest (tOp rEq (tOp (rIxT K) te (tC (.int 0))) (tC (.str "give")))) (tTest (tOp (rI0 fun i j => .bl (decide (j ≤ i))) (tOp (rIxT K) te (tC (.int 2))) tk))) σ H (overK k dd) := by
  cases dd with
  | give r t => exact eb_eq (eb_and (a := true) (b := decide (k ≤ t)) (et_test (K := K) (ed_give (dd := .give r t) h)) fun _ => et_test (K := K) (ed_B0 (f := fun i j => decide (j ≤ i)) (ed_dtag (r := r) h) hk)) rfl
  | back r => exact eb_eq (eb_and (a := false) (b := true) (et_test (K := K) (ed_give (dd := .back r) h)) fun h => nomatch h) rfl
def R_ispast (K : PySem.W.Frag) (C : Addr) : List D → Hp → Pd → Prop := fun ds H P => ∃ a ms ties k d, ds = [.obj (.ref a), .int k, d] ∧ WebAt K C H a ms ties ∧ 1 ≤ ms.length ∧ ms.length ≤ 60 ∧ 1 ≤ k ∧ k ≤ 200 ∧ Th H d ∧ (∀ xs, d = .tup xs → xs.length ≤ 5000) ∧ P = is (.bl (pastB (wdL ms) k (List.replicate ms.length (false, [])) d))
theorem ok_ispast (T : HTxt mg) (g : GDef K mg "is_past" s_is_past ["web", "k", "thing"]) (Gcheck_tags : Def P w K mg base 3 "check_tags" ["k"] (spD K R_ctags)) (Gbegun : Def P w K mg base 1 "begun" ["web"] (spD K (R_begun K C)))
    (Gis_deed : Def P w K mg base 5 "is_deed" ["web", "standing", "thing"] (spD K (R_isdeed K C))) (Gwith_deed : Def P w K mg base 2 "with_deed" ["web", "standing", "deed"] (spD K (R_wd K C))) : Def P w K mg base 6 "is_past" ["web", "k", "thing"] (spD K (R_ispast K C)) := by
  refine defD g sc_is_past (fun ds H Pd h => ?_) fun cdv A outer s f H vs ds Pd Q E hr r h q => ?_
  · obtain ⟨a, ms, ties, k, d, rfl, _⟩ := h
    rfl
  obtain ⟨a, ms, ties, k, d, rfl, x, n1, n60, k1, k2, ht, h5, rfl⟩ := h
  obtain ⟨v1, v2, v3, rfl, r1, r2, r3⟩ := rps3 r
  refine ⟨_, (pss_cons (ps_expr (pe_def Gcheck_tags (hr.mono (by decide)) (pa_cons (pv 1) pa_nil)))
    (pss_cons (ps_if (pt_not (pt_val (pe_callB (kc_isi (K := K)) (by rfl) T.n_isinstance boot_isinstance (pa_cons (pv 2) (pa_cons (pe_bltn (v := V.ty "tuple") (by rfl) T.n_tuple boot_tuple rfl) pa_nil)))))
      (pss_one (ps_ret pe_bl))
      pss_nil)
    (pss_cons (ps_set (i := 3) sc_is_past.nd rfl (Or.inl rfl) (pe_def Gbegun (hr.mono (by decide)) (pa_cons (pv 0) pa_nil)))
    (pss_cons (ps_for PassesOwn.never rfl (kpi_tup (K := K) (pv 2)) (pg_name (i := 4) sc_is_past.nd rfl (Or.inl rfl))
      (pss_cons (ps_if (pt_not (pt_val (pe_def Gis_deed (hr.mono (by decide)) (pa_cons (pv 0) (pa_cons (pv 3) (pa_cons (pv 4) pa_nil))))))
      (pss_one (ps_ret pe_bl))
      pss_nil)
    (pss_cons (ps_if (PW.pt (pw_and (pt_cmpR op_eq (pe_ix (kix_tup (K := K)) (pv 4) pe_int (fun _ _ => rfl)) pe_str (nomark _)) (pw_and1 (pt_cmpR op_ge (pe_ix (kix_tup (K := K)) (pv 4) pe_int (fun _ _ => rfl)) (pv 1) (nomark _)))))
      (pss_one (ps_ret pe_bl))
      pss_nil)
    (pss_one (ps_set (i := 3) sc_is_past.nd rfl (Or.inl rfl) (pe_def Gwith_deed (hr.mono (by decide)) (pa_cons (pv 0) (pa_cons (pv 3) (pa_cons (pv 4) pa_nil)))))))))
    (pss_one (ps_ret pe_bl)))))), ?_⟩
  refine q_drop (K := K) (P := is .non) (ed_call (ea_cons (ed_var rfl r2) ea_nil) fun H1 _ => ⟨k, rfl, k1, k2, rfl⟩) fun H1 e1 => ?_
  by_cases hd : tupB d = false
  · refine q_whenB (b := true) (eb_eq (eb_not (et_B (K := K) (ed_isTup (ed_var rfl (r3.le e1)) (ht.le e1).tk))) (by rw [hd]; rfl)) (fun _ H2 e2 => ?_) fun h => nomatch h
    exact s_retD ed_bl fun v H3 e3 r => q v _ H3 ((e1.trans e2).trans e3) (by rw [pastB_not hd]) r
  obtain ⟨xs, rfl⟩ : ∃ xs, d = .tup xs := by
    cases d with
    | tup xs => exact ⟨xs, rfl⟩
    | _ => exact absurd rfl hd
  obtain ⟨hz, hi⟩ := ht.items
  have h5' := h5 xs rfl
  refine q_no (b := false) (eb_eq (eb_not (et_B (K := K) (ed_isTup (ed_var rfl (r3.le e1)) (ht.le e1).tk))) rfl) rfl fun H2 e2 => ?_
  have e12 := e1.trans e2
  refine q_asgD (K := K) (d := eT (List.replicate ms.length (false, []))) (ed_call (ea_cons (ed_var rfl (r1.le e12)) ea_nil) fun H3 e3 => ⟨a, ms, ties, rfl, x.le (e12.trans e3), n1, n60, rfl⟩) fun v4 H3 e3 r4 => ?_
  have e13 := e12.trans e3
  refine q_forT2 (K := K) (ds := xs) (ed_var rfl (r3.le e13)) fun H4 e4 => ?_
  refine ⟨fun i σ H' => ∃ v4 y5 st, σ = [some v1, some v2, some v3, some v4, y5] ∧ Le H4 H' ∧ Rp K H' v4 (eT st) ∧ pastRun (wdL ms) k (List.replicate ms.length (false, [])) (xs.take i) = some st ∧ Rch ms.length i st,
    ⟨v4, none, _, rfl, Le.refl _, r4.le e4, by rw [List.take_zero]; rfl, rch_start _⟩, fun i σ' H' _ ⟨_, _, _, _, e, _⟩ => e, ?_, ?_⟩
  · rintro i d v σ' H5 hdi rv ⟨v4, y5, st, rfl, e5, r4, hrun, hch⟩
    have e15 := (e13.trans e4).trans e5
    have hil : i < xs.length := (List.getElem?_eq_some_iff.mp hdi).1
    have td : Th H5 d := (hi d (List.mem_of_getElem? hdi)).le e15
    have hm := run_more (step := wdL ms) (k := k) (st := List.replicate ms.length (false, [])) hdi
    rw [hrun] at hm
    have sok : StOk st := hch.ok n60 (by omega)
    refine q_whenB (b := !(dOf st d).isSome) (eb_not (et_B (K := K) (ed_call (ea_cons (ed_var rfl (r1.le e15)) (ea_cons (ed_var rfl r4) (ea_cons (ed_var rfl rv) ea_nil))) fun H6 e6 => ⟨a, ms, ties, st, d, rfl, x.le (e15.trans e6), hch.len, td.le e6, rfl⟩))) (fun hb H6 e6 => ?_) fun hb H6 e6 => ?_
    · have hn : dOf st d = none := by
        cases h : dOf st d with
        | none => rfl
        | some dd => rw [h] at hb; cases hb
      exact s_retD ed_bl fun v H7 e7 r => q v _ H7 ((e15.trans e6).trans e7) (by
        show D.bl false = D.bl (pastRun (wdL ms) k _ xs).isSome
        have h2 : pastRun (wdL ms) k (List.replicate ms.length (false, [])) (xs.take (i + 1)) = none := by
          rw [hm]
          show (dOf st d).bind _ = none
          rw [hn]
          rfl
        rw [run_dead h2]
        rfl) r
    · cases h : dOf st d with
      | none => rw [h] at hb; cases hb
      | some dd =>
        obtain ⟨rfl, ok⟩ := dOf_ok h
        refine q_whenB (b := overK k dd) (ed_over (K := K) (ed_var rfl (rv.le e6)) (ed_var rfl (r2.le (e15.trans e6)))) (fun ho H7 e7 => ?_) fun ho H7 e7 => ?_
        · exact s_retD ed_bl fun v H8 e8 r => q v _ H8 (((e15.trans e6).trans e7).trans e8) (by
            show D.bl false = D.bl (pastRun (wdL ms) k _ xs).isSome
            have h2 : pastRun (wdL ms) k (List.replicate ms.length (false, [])) (xs.take (i + 1)) = none := by
              rw [hm]
              show (dOf st (eD dd)).bind _ = none
              rw [h]
              show (if overK k dd = true then none else some _) = none
              rw [if_pos ho]
            rw [run_dead h2]
            rfl) r
        · refine s_asgD (K := K) (d := eT (wdL ms st dd)) (ed_call (ea_cons (ed_var rfl (r1.le ((e15.trans e6).trans e7))) (ea_cons (ed_var rfl (r4.le (e6.trans e7))) (ea_cons (ed_var rfl (rv.le (e6.trans e7))) ea_nil))) fun H8 e8 => ⟨a, ms, ties, st, dd, rfl, x.le (((e15.trans e6).trans e7).trans e8), sok, hch.len, ok.r0, by rw [← hch.len]; exact ok.r1, rfl⟩) fun v H8 e8 r8 => ?_
          refine ⟨v, _, _, rfl, ((e5.trans e6).trans e7).trans e8, r8, ?_, hch.wd ok⟩
          rw [hm]
          show (dOf st (eD dd)).bind _ = _
          rw [h]
          show (if overK k dd = true then none else some _) = _
          rw [if_neg (by rw [ho]; exact Bool.false_ne_true)]
  · rintro σ' H5 ⟨v4, y5, st, rfl, e5, r4, hrun, _⟩
    rw [List.take_length] at hrun
    exact s_retD ed_bl fun v H6 e6 r => q v _ H6 (((e13.trans e4).trans e5).trans e6) (by
      show D.bl true = D.bl (pastRun (wdL ms) k _ xs).isSome
      rw [hrun]
      rfl) r
end
end W1

set_option maxRecDepth 100000
set_option maxHeartbeats 4000000
namespace W1
open PySem PyProof.Rows L2
local macro_rules | `(tactic| walk_at "rp") => `(tactic| first | assumption | exact Rp.int _ | exact Rp.bl _ | exact Rp.str _ | exact Rp.non | exact Rp.obj _ | (refine Rp.le (by assumption) ?_; walk_at "rp"))
local macro_rules | `(tactic| walk_at "ed") => `(tactic| first
  | exact ed_int | exact ed_str | exact ed_bl | exact ed_non
  | (refine ed_var rfl ?_; walk_at "rp")
  | (refine ed_ixT (ds := [_, _]) ?_ ed_int (by decide) rfl; walk_at "ed")
  | (refine ed_I0 ?_ ?_ <;> walk_at "ed")
  | (refine ed_B0 ?_ ?_ <;> walk_at "ed")
  | (refine ed_eqS ?_ ?_ rfl rfl rfl <;> walk_at "ed")
  | assumption)
local macro_rules | `(tactic| walk_at "ea") => `(tactic| first | exact ea_nil | (refine ea_cons ?_ ?_; walk_at "ed"; walk_at "ea"))

abbrev s__law_standing : Stmt := topS 48
abbrev N__law_standing : List Str := ["_law_parts_here", "_law_state", "_law_memory", "_law_held", "_law_tags"]
theorem sc__law_standing : FnScope N__law_standing ["_law_parts_here", "_law_state"] (defScope s__law_standing) := ⟨rfl, rfl, rfl, by decide +kernel, rfl, by decide +kernel, by decide +kernel⟩
abbrev s__law_int : Stmt := topS 52
abbrev N__law_int : List Str := ["_law_thing", "_law_least", "_law_most"]
theorem sc__law_int : FnScope N__law_int ["_law_thing", "_law_least", "_law_most"] (defScope s__law_int) := ⟨rfl, rfl, rfl, by decide +kernel, rfl, by decide +kernel, by decide +kernel⟩
abbrev s__law_deed_can : Stmt := topS 53
abbrev N__law_deed_can : List Str := ["_law_state", "_law_thing"]
theorem sc__law_deed_can : FnScope N__law_deed_can ["_law_state", "_law_thing"] (defScope s__law_deed_can) := ⟨rfl, rfl, rfl, by decide +kernel, rfl, by decide +kernel, by decide +kernel⟩
abbrev s__law_is_past : Stmt := topS 54
abbrev N__law_is_past : List Str := ["_law_parts_here", "_law_k", "_law_thing", "_law_state", "_law_deed"]
theorem sc__law_is_past : FnScope N__law_is_past ["_law_parts_here", "_law_k", "_law_thing"] (defScope s__law_is_past) := ⟨rfl, rfl, rfl, by decide +kernel, rfl, by decide +kernel, by decide +kernel⟩
theorem inV_strs (x : Str) : ∀ ns : List Str, inV (.str x) (ns.map V.str) = decide (x ∈ ns)
  | [] => rfl
  | n :: ns => by
    have ih := inV_strs x ns
    unfold inV at ih ⊢
    rw [List.map_cons, List.any_cons, ih]
    by_cases e : n = x
    · subst e
      have e1 : eqV (.str n) (.str n) = true := by simp [eqV]
      rw [e1]
      simp
    · have e1 : eqV (.str n) (.str x) = false := by simp [eqV, e]
      rw [e1]
      simp [Ne.symm e]
theorem flat_strs (ns : List Str) : (ns.map V.str).all flatV = true := by
  rw [List.all_eq_true]
  intro v hv
  obtain ⟨i, _, rfl⟩ := List.mem_map.mp hv
  rfl
theorem strs_rps {K : PySem.W.Frag} {H : Hp} : ∀ {ns : List Str} {vs : List V}, Rps K H vs (ns.map D.str) → vs = ns.map V.str
  | [], _, h => by
    cases h
    rfl
  | n :: ns, _, h => by
    cases h with
    | cons a r =>
      cases a
      rw [strs_rps r]
      rfl
section
variable {K : PySem.W.Frag} {σ : L2.St} {H H' : Hp} {ta tb te : TE} {vs : List Nat}
theorem ed_ninS {x : Str} {ns : List Str} (h : ED K ta σ H (.str x)) (h2 : ED K tb σ H (.lst (ns.map .str))) : ED K (tOp (rIn K true) ta tb) σ H (.bl (!decide (x ∈ ns))) := ed_op h h2 fun v w H2 _ r1 r2 Q q => by
  obtain ⟨a, xs, rfl, s, _, rr⟩ := rp_lst r2
  have ex := strs_rps rr
  subst ex
  rw [rp_str r1]
  refine ⟨a, _, rfl, .inl (SqL.of s), rfl, flat_strs ns, ?_⟩
  rw [inV_strs]
  exact q _ _ H2 (Le.refl _) rfl (.bl _)
/-- [e for m, (held, tags) in zip(memories, state)] -/
theorem ed_lcZS {A : TA} {ms : List Int} {st : St1} {j l m : Nat} (f : Nat → Bool × List Int) (ha : EDA K A σ H [.tup (ms.map .int), eS st]) (hl : ms.length = st.length) (hz : ms.length ≤ 50000) (hw : ∀ x y z, wipe ((((wipe σ vs).set j (some x)).set l (some y)).set m (some z)) vs = wipe σ vs)
    (he : ∀ (i : Nat) mem v H1, Le H H1 → i < ms.length → ms[i]? = some mem → Rp K H1 v (.tup ((stAt st (i : Int)).2.map .int)) → ED K te ((((wipe σ vs).set j (some (.int mem))).set l (some (.bl (stAt st (i : Int)).1))).set m (some v)) H1 (eR (f i))) :
    ED K (tLc (iZTL K A) (gTup K 2 (gCons (gName j) (gCons (gTup K 2 (gCons (gName l) (gCons (gName m) gNil))) gNil))) tYes te vs) σ H (.lst (((List.range ms.length).map f).map eR)) := fun H1 e Q q => ha H1 e _ fun us es H2 e2 p rr => by
  have p' : es = [.tup (ms.map .int), eS st] := p
  subst p'
  obtain ⟨v, u, rfl, r1, r2⟩ := rps2 rr
  obtain ⟨a, xs, rfl, s, r⟩ := rp_tup r1
  obtain ⟨b, ys, rfl, s2, nh2, rb⟩ := rp_lst r2
  have lx : xs.length = ms.length := by rw [r.len, List.length_map]
  have ly : ys.length = st.length := by rw [rb.len, List.length_map]
  have G := good (enc := eR) enc_R fun i zs => zs = (List.range i).map f
  refine ⟨a, b, xs, ys, rfl, s, SqL.of s2, fun L hL => lc_it (walk_zTL (by omega)) (CI K H2 L (GI eR fun i zs => zs = (List.range i).map f)) (ci_start (I := GI eR fun i zs => zs = (List.range i).map f) hL ⟨[], rfl, Nat.zero_le _, rfl⟩) (fun i H' _ c => ⟨c.2.1.sqt s, SqL.of (c.2.1.lst s2 nh2)⟩) ?_ (fun H' c => ?_)⟩
  · rintro i x H' H3 hi c ⟨T, x1, x2, rfl, nT, rfl, f1, f2⟩
    rw [lx] at hi
    have e3 : Le H' (upd H' T (.tup [x1, x2])) := Le.new nT
    obtain ⟨d1, g1, g2⟩ := r.at' f1
    obtain ⟨mem, gm, rfl⟩ := map_at g1
    obtain ⟨d2, g3, g4⟩ := rb.at' f2
    obtain ⟨y, gy, rfl⟩ := map_at g3
    have ey : y = stAt st (i : Int) := by
      have h := st_get (st := st) (r := (i : Int)) (by omega) (by omega)
      rw [Int.toNat_natCast, gy] at h
      exact Option.some.inj h
    subst ey
    have ex1 := rp_int g2
    subst ex1
    obtain ⟨t, zs, rfl, s4, r4⟩ := rp_tup g4
    obtain ⟨w1, w2, rfl, q1, q2'⟩ := rps2 r4
    have ew := rp_bl q1
    subst ew
    have cT := CI.le G c e3
    refine ⟨T, _, rfl, Evl.st_of upd_same, rfl, _, _, rfl, _, _, rfl, t, _, rfl, (c.2.1.trans e3).sqt s4, rfl, _, _, rfl, _, _, rfl, rfl, rfl, hw _ _ _, ci_turn G cT (PT := fun b => b = true) (fun acc ia => et_yes) (fun acc ia _ => ?_) (fun acc ia hf => nomatch hf)⟩
    obtain ⟨zs, rfl, hl', rfl⟩ := ia
    refine (he i mem w2 H2 (e.trans e2) hi gm q2').weak fun d' H3 _ p => ?_
    have p' : d' = eR (f i) := p
    subst p'
    refine ⟨GI.more ?_ ?_, enc_R.noL _⟩
    · rw [List.length_append, List.length_map, List.length_range, List.length_singleton]
      omega
    · show _ = (List.range (i + 1)).map f
      rw [List.range_succ, List.map_append]
      rfl
  · rw [lx] at c
    exact ci_end G c fun v d H3 e3 p r => q v d H3 (e2.trans e3) (by
      obtain ⟨acc, rfl, zs, rfl, _, rfl⟩ := p
      rfl) r
end
section
variable {P : Program} {w : World} {K : PySem.W.Frag} {mg : Str → Option Value} {base : Heap} {C : Addr}
def R_lstand : List D → Hp → Pd → Prop := fun ds H P => ∃ ms ties st, ds = [eW ms ties, eS st] ∧ PartsOk ms ties ∧ st.length = ms.length ∧ P = is (eT (cutSt ms st))
theorem ok_lstand (T : HTxt mg) (g : GDef K mg "_law_standing" s__law_standing ["_law_parts_here", "_law_state"]) : Def P w K mg base 1 "_law_standing" ["_law_parts_here", "_law_state"] (spD K R_lstand) := by
  refine defD g sc__law_standing (fun ds H Pd h => ?_) fun cdv A outer s f H vs ds Pd Q E hr r h q => ?_
  · obtain ⟨ms, ties, st, rfl, _⟩ := h
    rfl
  obtain ⟨ms, ties, st, rfl, ok, hl, rfl⟩ := h
  obtain ⟨v1, v2, rfl, r1, r2⟩ := rps2 r
  refine ⟨_, (pss_one (ps_ret (pe_callTy (kc_tuple (K := K)) (by rfl) T.n_tuple boot_tuple (pa_cons (pe_lc (own := [("_law_memory", 2), ("_law_held", 3), ("_law_tags", 4)]) rfl sc__law_standing.nd (kpi_zTL (K := K) (by rfl) T.n_zip (pa_cons (pe_ix (kix_tup (K := K)) (pv 0) pe_int (fun _ _ => rfl)) (pa_cons (pv 1) pa_nil))) (blkOk_by (N := N__law_standing) (sc := defScope s__law_standing) (by decide +kernel)) (fun _ _ _ _ _ => (kpg_tup (K := K) (n := 2) rfl (pgs_cons (pg_name (i := 2) sc__law_standing.nd rfl (Or.inl rfl)) (pgs_cons (kpg_tup (K := K) (n := 2) rfl (pgs_cons (pg_name (i := 3) sc__law_standing.nd rfl (Or.inl rfl)) (pgs_cons (pg_name (i := 4) sc__law_standing.nd rfl (Or.inl rfl)) pgs_nil))) pgs_nil)))) (fun _ _ _ _ _ => pts_nil) (fun _ _ _ _ _ => (pe_tup (pa_cons (pv 3) (pa_cons (pe_slice (ksl_tup (K := K)) (pv 4) po_none (po_some (pe_callB (call_max2 rfl) (by rfl) T.n_max boot_max (pa_cons pe_int (pa_cons (pv 2) pa_nil))))) pa_nil))))) pa_nil)))), ?_⟩
  have few := ok.few
  refine s_retD (K := K) (d := eT (cutSt ms st)) (ed_eq (ed_tupOf (ed_lcZS (fun i => ((stAt st (i : Int)).1, (stAt st (i : Int)).2.take (keptN ms (i : Int)))) (ea_cons (ed_ixT (ds := [_, _]) (ed_var rfl r1) ed_int (by decide) rfl) (ea_cons (ed_var rfl r2) ea_nil)) hl.symm (by omega) (fun _ _ _ => rfl) fun i mem v H1 e1 hi hm rv => ?_)) ?_) fun v H1 e1 r => q v _ H1 e1 rfl r
  · have hm0 := ok.mem _ (List.mem_of_getElem? hm)
    have hk : keptN ms (i : Int) = (if mem > 1 then mem else 1).toNat := by
      unfold keptN
      rw [Int.toNat_natCast, hm]
      rfl
    refine ed_tup (ea_cons (ed_var rfl (.bl _)) (ea_cons (ed_eq (ed_slT (lo := none) (hi := some (if mem > 1 then mem else 1)) (ed_var rfl rv) eo_none (eo_some (K := K) (ed_max2 ed_int (ed_var rfl (.int mem))))) ?_) ea_nil)) (by show 2 ≤ 100000; decide)
    rw [cutG_hi _ _ (by split <;> omega), ← List.map_take, hk]
  · unfold cutSt
    rw [hl]
theorem sub_bl {d : D} (hs : subI d = true) (hi : isI d = false) : blB d = true := by
  cases d with
  | bl b => rfl
  | int i => cases hi
  | _ => cases hs
def R_lint : List D → Hp → Pd → Prop := fun ds H P => ∃ d l m, ds = [d, .int l, .int m] ∧ Tk H d ∧ P = is (.bl (btw l m d))
theorem ok_lint (T : HTxt mg) (g : GDef K mg "_law_int" s__law_int ["_law_thing", "_law_least", "_law_most"]) : Def P w K mg base 1 "_law_int" ["_law_thing", "_law_least", "_law_most"] (spD K R_lint) := by
  refine defD g sc__law_int (fun ds H Pd h => ?_) fun cdv A outer s f H vs ds Pd Q E hr r h q => ?_
  · obtain ⟨d, l, m, rfl, _⟩ := h
    rfl
  obtain ⟨d, l, m, rfl, hk, rfl⟩ := h
  obtain ⟨v1, v2, v3, rfl, r1, r2, r3⟩ := rps3 r
  refine ⟨_, (pss_one (ps_ret (pe_and (pe_callB (kc_isi (K := K)) (by rfl) T.n_isinstance boot_isinstance (pa_cons (pv 0) (pa_cons (pe_bltn (v := V.ty "int") (by rfl) T.n_int boot_int rfl) pa_nil))) (pe_and (pe_not (pe_callB (kc_isi (K := K)) (by rfl) T.n_isinstance boot_isinstance (pa_cons (pv 0) (pa_cons (pe_bltn (v := V.ty "bool") (by rfl) T.n_bool boot_bool rfl) pa_nil)))) (pe_one (pe_chain op_le op_le (pv 1) (pv 0) (pv 2))))))), ?_⟩
  have hI := ed_isInt (K := K) (σ := [some v1, some v2, some v3]) (ta := tVar 0) (ed_var rfl r1) hk
  have hB := ed_isBool (K := K) (σ := [some v1, some v2, some v3]) (ta := tVar 0) (ed_var rfl r1) hk
  cases hi : isI d with
  | true =>
    obtain ⟨i, rfl⟩ : ∃ i, d = .int i := by
      cases d with
      | int i => exact ⟨i, rfl⟩
      | _ => cases hi
    exact s_retD (ed_andV (a := true) hI fun _ => ed_andV (a := true) (ed_notV hB) fun _ => ed_chain (f := fun i j => decide (i ≤ j)) (g := fun i j => decide (i ≤ j)) (ed_var rfl r2) (ed_var rfl r1) (ed_var rfl r3)) fun v H1 e1 r => q v _ H1 e1 rfl r
  | false =>
    have hf : btw l m d = false := by cases d <;> first | rfl | cases hi
    cases hs : subI d with
    | false => exact s_retD (ed_andV (a := false) (b := true) (ed_eq hI (by rw [hs])) fun h => nomatch h) fun v H1 e1 r => q v _ H1 e1 (by rw [hf]; rfl) r
    | true =>
      have hb : blB d = true := sub_bl hs hi
      exact s_retD (ed_andV (a := true) (b := false) (ed_eq hI (by rw [hs])) fun _ => ed_eq (ed_andV (a := false) (b := true) (ed_eq (ed_notV hB) (by rw [hb]; rfl)) fun h => nomatch h) rfl) fun v H1 e1 r => q v _ H1 e1 (by rw [hf]; rfl) r
/-- no number that is too great for the law's own look -/
def Bd (d : D) : Prop := ∀ a b t, d = .tup [a, b, .int t] → t ≤ 10 ^ 41
theorem dOf_none {st : St1} {xs : List D} (h : ∀ w r rest, xs = .str w :: .int r :: rest → askB st [.str w, .int r] = false) : dOf st (.tup xs) = none := by
  cases ha : askB st (xs.take 2) with
  | false => exact dOf_ask ha
  | true =>
    obtain ⟨w, r, rest, rfl⟩ := ask_take ha
    have h1 := h w r rest rfl
    have h2 : askB st [.str w, .int r] = true := ha
    rw [h1] at h2
    cases h2
def R_can : List D → Hp → Pd → Prop := fun ds H P => ∃ st d, ds = [eS st, d] ∧ Th H d ∧ Bd d ∧ P = is (.bl (dOf st d).isSome)
theorem ok_can (T : HTxt mg) (g : GDef K mg "_law_deed_can" s__law_deed_can ["_law_state", "_law_thing"]) (G_law_int : Def P w K mg base 1 "_law_int" ["_law_thing", "_law_least", "_law_most"] (spD K R_lint)) :
    Def P w K mg base 2 "_law_deed_can" ["_law_state", "_law_thing"] (spD K R_can) := by
  refine defD g sc__law_deed_can (fun ds H Pd h => ?_) fun cdv A outer s f H vs ds Pd Q E hr r h q => ?_
  · obtain ⟨st, d, rfl, _⟩ := h
    rfl
  obtain ⟨st, d, rfl, ht, bd, rfl⟩ := h
  obtain ⟨v1, v2, rfl, r1, r2⟩ := rps2 r
  refine ⟨_, (pss_cons (ps_if (PW.pt (pw_or (pt_not (pt_val (pe_callB (kc_isi (K := K)) (by rfl) T.n_isinstance boot_isinstance (pa_cons (pv 1) (pa_cons (pe_bltn (v := V.ty "tuple") (by rfl) T.n_tuple boot_tuple rfl) pa_nil))))) (pw_or (pt_cmpR op_lt (pe_callB (kc_len (K := K)) (by rfl) T.n_len boot_len (pa_cons (pv 1) pa_nil)) pe_int (nomark _)) (pw_or1 (pt_not (pt_val (pe_callB (kc_isi (K := K)) (by rfl) T.n_isinstance boot_isinstance (pa_cons (pe_ix (kix_tup (K := K)) (pv 1) pe_int (fun _ _ => rfl)) (pa_cons (pe_bltn (v := V.ty "str") (by rfl) T.n_str boot_str rfl) pa_nil)))))))))
      (pss_one (ps_ret pe_bl))
      pss_nil)
    (pss_cons (ps_if (PW.pt (pw_or (pt_cmpR (kop_nin (K := K)) (pe_ix (kix_tup (K := K)) (pv 1) pe_int (fun _ _ => rfl)) (pe_lst (pa_cons pe_str (pa_cons pe_str pa_nil))) (by rfl)) (pw_or1 (pt_not (pt_val (pe_def G_law_int (hr.mono (by decide)) (pa_cons (pe_ix (kix_tup (K := K)) (pv 1) pe_int (fun _ _ => rfl)) (pa_cons pe_int (pa_cons (pe_op op_sub (pe_callB (kc_len (K := K)) (by rfl) T.n_len boot_len (pa_cons (pv 0) pa_nil)) pe_int) pa_nil)))))))))
      (pss_one (ps_ret pe_bl))
      pss_nil)
    (pss_cons (ps_if (pt_cmpR op_eq (pe_ix (kix_tup (K := K)) (pv 1) pe_int (fun _ _ => rfl)) pe_str (nomark _))
      (pss_one (ps_ret (pe_and (pe_cmpR op_eq (pe_callB (kc_len (K := K)) (by rfl) T.n_len boot_len (pa_cons (pv 1) pa_nil)) pe_int (nomark _)) (pe_one (pe_ix (kix_tup (K := K)) (pe_ix (kix_list (K := K)) (pv 0) (pe_ix (kix_tup (K := K)) (pv 1) pe_int (fun _ _ => rfl)) (fun _ _ => rfl)) pe_int (fun _ _ => rfl))))))
      pss_nil)
    (pss_one (ps_ret (pe_and (pe_cmpR op_eq (pe_callB (kc_len (K := K)) (by rfl) T.n_len boot_len (pa_cons (pv 1) pa_nil)) pe_int (nomark _)) (pe_and (pe_def G_law_int (hr.mono (by decide)) (pa_cons (pe_ix (kix_tup (K := K)) (pv 1) pe_int (fun _ _ => rfl)) (pa_cons pe_int (pa_cons (pe_op op_pow pe_int pe_int) pa_nil)))) (pe_one (pe_not (pe_ix (kix_tup (K := K)) (pe_ix (kix_list (K := K)) (pv 0) (pe_ix (kix_tup (K := K)) (pv 1) pe_int (fun _ _ => rfl)) (fun _ _ => rfl)) pe_int (fun _ _ => rfl))))))))))), ?_⟩
  have fin0 : dOf st d = none → ∀ v H3, Le H H3 → Rp K H3 v (.bl false) → Q v H3 := fun hn v H3 e3 r => q v _ H3 e3 (by show D.bl false = D.bl _; rw [hn]; rfl) r
  by_cases hd : tupB d = false
  · refine q_whenB (b := true) (eb_eq (eb_or (a := true) (b := true) (eb_eq (eb_not (et_B (K := K) (ed_isTup (ed_var rfl r2) ht.tk))) (by rw [hd]; rfl)) fun h => nomatch h) rfl) (fun _ H1 e1 => ?_) fun h => nomatch h
    exact s_retD ed_bl fun v H2 e2 r => fin0 (dOf_not hd) v H2 (e1.trans e2) r
  obtain ⟨xs, rfl⟩ : ∃ xs, d = .tup xs := by
    cases d with
    | tup xs => exact ⟨xs, rfl⟩
    | _ => exact absurd rfl hd
  obtain ⟨hz, hi⟩ := ht.items
  have h1 : ∀ {t : TT} {b : Bool}, EB t [some v1, some v2] H b → EB (tOr (tNot (tB (tCB (rIsi K) (tCons (tVar 1) (tCons (tC (.ty "tuple")) tNil))))) t) [some v1, some v2] H b := fun h => eb_eq (eb_or (a := false) (eb_eq (eb_not (et_B (K := K) (ed_isTup (ed_var rfl r2) ht.tk))) rfl) fun _ => h) (Bool.false_or _)
  have hlen : ∀ {H1 : Hp}, Le H H1 → ED K (tCB (fun xs H Q => ∃ p ys, xs = [.ref p] ∧ (SqL K H p ys ∨ SqT K H p ys) ∧ Q (.int ys.length) H) (tCons (tVar 1) tNil)) [some v1, some v2] H1 (.int (xs.length : Int)) := fun e => ed_lenT (ed_var rfl (r2.le e))
  rcases xs with _ | ⟨x0, _ | ⟨x1, rest⟩⟩
  ·
    refine q_whenB (b := true) (h1 (eb_eq (eb_or (a := true) (b := true) (et_test (K := K) (ed_B0 (f := fun i j => decide (i < j)) (i := 0) (j := 2) (hlen (Le.refl _)) ed_int)) fun h => nomatch h) rfl)) (fun _ H1 e1 => ?_) fun h => nomatch h
    exact s_retD ed_bl fun v H2 e2 r => fin0 (dOf_none fun w r rest e => nomatch e) v H2 (e1.trans e2) r
  ·
    refine q_whenB (b := true) (h1 (eb_eq (eb_or (a := true) (b := true) (et_test (K := K) (ed_B0 (f := fun i j => decide (i < j)) (i := 1) (j := 2) (hlen (Le.refl _)) ed_int)) fun h => nomatch h) rfl)) (fun _ H1 e1 => ?_) fun h => nomatch h
    exact s_retD ed_bl fun v H2 e2 r => fin0 (dOf_none fun w r rest e => nomatch e) v H2 (e1.trans e2) r
  ·
    have t0 : Th H x0 := hi _ (by simp)
    have t1 : Th H x1 := hi _ (by simp)
    have i0 : ∀ {H1 : Hp}, Le H H1 → ED K (tOp (rIxT K) (tVar 1) (tC (.int 0))) [some v1, some v2] H1 x0 := fun e => ed_ixT (ed_var rfl (r2.le e)) ed_int (by decide) rfl
    have i1 : ∀ {H1 : Hp}, Le H H1 → ED K (tOp (rIxT K) (tVar 1) (tC (.int 1))) [some v1, some v2] H1 x1 := fun e => ed_ixT (ed_var rfl (r2.le e)) ed_int (by decide) rfl
    have l2 : decide (((x0 :: x1 :: rest).length : Int) < 2) = false := by
      rw [decide_eq_false]
      rw [List.length_cons, List.length_cons]
      omega
    refine q_whenB (b := !strB x0) (h1 (eb_eq (eb_or (a := false) (eb_eq (et_test (K := K) (ed_B0 (f := fun i j => decide (i < j)) (hlen (Le.refl _)) ed_int)) l2) fun _ => eb_not (et_B (K := K) (ed_isStr (i0 (Le.refl _)) t0.tk))) (Bool.false_or _))) (fun hb H1 e1 => ?_) fun hb H1 e1 => ?_
    · refine s_retD ed_bl fun v H2 e2 r => fin0 (dOf_none fun ww rr rest' e => ?_) v H2 (e1.trans e2) r
      injection e with e0 _
      subst e0
      cases hb
    rw [Bool.not_eq_false'] at hb
    obtain ⟨w', rfl⟩ : ∃ w', x0 = .str w' := by
      cases x0 with
      | str w' => exact ⟨w', rfl⟩
      | _ => cases hb
    have hls : ∀ {H2 : Hp}, Le H H2 → ED K (tCB (fun xs H Q => ∃ p ys, xs = [.ref p] ∧ (SqL K H p ys ∨ SqT K H p ys) ∧ Q (.int ys.length) H) (tCons (tVar 0) tNil)) [some v1, some v2] H2 (.int (st.length : Int)) := fun e => ed_eq (ed_lenL (ed_var rfl (r1.le e))) (by rw [List.length_map])
    refine q_whenB (b := !decide (w' ∈ [("give" : Str), "back"]) || !btw 0 ((st.length : Int) - 1) x1) (eb_or (et_test (K := K) (ed_ninS (ns := ["give", "back"]) (i0 e1) (ed_lst (ds := [.str "give", .str "back"]) (ea_cons ed_str (ea_cons ed_str ea_nil)) (by show 2 ≤ 100000; decide) rfl))) fun _ => eb_not (et_B (K := K) (ed_call (ea_cons (i1 e1) (ea_cons ed_int (ea_cons (ed_I0 (f := fun i j => i - j) (hls e1) ed_int) ea_nil))) fun H2 e2 => ⟨x1, _, _, rfl, (t1.le (e1.trans e2)).tk, rfl⟩))) (fun hb2 H2 e2 => ?_) fun hb2 H2 e2 => ?_
    · refine s_retD ed_bl fun v H3 e3 r => fin0 (dOf_none fun ww rr rest' e => ?_) v H3 ((e1.trans e2).trans e3) r
      injection e with e0 e
      injection e with e1 _
      injection e0 with e0
      subst e0 e1
      cases ha : askB st [.str w', .int rr] with
      | false => rfl
      | true =>
        exfalso
        obtain ⟨h0, h1, h2⟩ := askB_iff.mp ha
        rw [btw_room h0 h1] at hb2
        have hin : w' ∈ [("give" : Str), "back"] := by
          rw [h2]
          split
          · exact List.mem_cons_of_mem _ (List.mem_cons_self ..)
          · exact List.mem_cons_self ..
        rw [decide_eq_true hin] at hb2
        cases hb2
    rw [Bool.or_eq_false_iff, Bool.not_eq_false', Bool.not_eq_false', decide_eq_true_iff] at hb2
    obtain ⟨hw, hx⟩ := hb2
    obtain ⟨rm, rfl⟩ : ∃ rm, x1 = .int rm := by
      cases x1 with
      | int i => exact ⟨i, rfl⟩
      | _ => cases hx
    have hrm : 0 ≤ rm ∧ rm < st.length := by
      replace hx : (decide (0 ≤ rm) && decide (rm ≤ (st.length : Int) - 1)) = true := hx
      rw [Bool.and_eq_true, decide_eq_true_iff, decide_eq_true_iff] at hx
      omega
    have e12 := e1.trans e2
    have hheld : ∀ {H3 : Hp}, Le H H3 → ED K (tOp (rIxT K) (tOp (rIxL K) (tVar 0) (tOp (rIxT K) (tVar 1) (tC (.int 1)))) (tC (.int 0))) [some v1, some v2] H3 (.bl (stAt st rm).1) := fun e => ed_ixT (ds := [_, _]) (ed_ixL (d := eR (stAt st rm)) (ed_var rfl (r1.le e)) (i1 e) hrm.1 (map_get (st_get hrm.1 hrm.2))) ed_int (by decide) rfl
    refine q_whenB (b := decide (w' = "back")) (eb_eq (et_test (K := K) (ed_eqS (d1 := .str w') (d2 := .str "back") (i0 e12) ed_str rfl rfl rfl)) (vs_str _ _)) (fun hb3 H3 e3 => ?_) fun hb3 H3 e3 => ?_
    · have hb3 := of_decide_eq_true hb3
      subst hb3
      refine s_retD (K := K) (ed_andV (a := decide (rest.length = 0)) (b := (stAt st rm).1) (ed_eq (ed_eqS (d1 := .int ((.str "back" :: .int rm :: rest : List D).length : Int)) (d2 := .int 2) (hlen (e12.trans e3)) ed_int rfl rfl rfl) ?_) fun _ => hheld (e12.trans e3)) fun v H4 e4 r => q v _ H4 ((e12.trans e3).trans e4) ?_ r
      · rw [vs_int]
        congr 1
        rw [decide_eq_decide, List.length_cons, List.length_cons]
        omega
      · show D.bl _ = D.bl _
        congr 1
        cases hh : (stAt st rm).1 with
        | true =>
          rw [Bool.and_true, dOf_back (askB_iff.mpr ⟨hrm.1, hrm.2, by rw [hh]; rfl⟩)]
        | false =>
          rw [Bool.and_false, dOf_none fun ww rr rest' e => ?_]
          · rfl
          · injection e with e0 e
            injection e with e1 _
            injection e0 with e0
            injection e1 with e1
            subst e0 e1
            cases ha : askB st [.str "back", .int rm] with
            | false => rfl
            | true =>
              obtain ⟨_, _, h2⟩ := askB_iff.mp ha
              rw [hh] at h2
              exact absurd h2.symm ne_gb
    · have hb3 := of_decide_eq_false hb3
      have hg : w' = "give" := by
        rcases List.mem_cons.mp hw with h | h
        · exact h
        · exact absurd (List.mem_singleton.mp h) hb3
      subst hg
      have e13 := e12.trans e3
      have key : (decide (rest.length = 1) && (oneB rest && !(stAt st rm).1)) = (dOf st (.tup (.str "give" :: .int rm :: rest))).isSome := by
        cases hh : (stAt st rm).1 with
        | false =>
          rw [dOf_give (askB_iff.mpr ⟨hrm.1, hrm.2, by rw [hh]; rfl⟩) ne_gb]
          by_cases h1 : rest.length = 1
          · rw [decide_eq_true h1]
            simp
          · rw [one_no h1]
            simp
        | true =>
          rw [dOf_none fun ww rr rest' e => ?_]
          · simp
          · injection e with e0 e
            injection e with e1 _
            injection e0 with e0
            injection e1 with e1
            subst e0 e1
            cases ha : askB st [.str "give", .int rm] with
            | false => rfl
            | true =>
              obtain ⟨_, _, h2⟩ := askB_iff.mp ha
              rw [hh] at h2
              exact absurd h2 ne_gb
      refine s_retD (K := K) (ed_andV (a := decide (rest.length = 1)) (b := oneB rest && !(stAt st rm).1) (ed_eq (ed_eqS (d1 := .int ((.str "give" :: .int rm :: rest : List D).length : Int)) (d2 := .int 3) (hlen e13) ed_int rfl rfl rfl) ?_) fun h3 => ?_) fun v H4 e4 r => q v _ H4 (e13.trans e4) (by show D.bl _ = D.bl _; rw [key]) r
      · rw [vs_int]
        congr 1
        rw [decide_eq_decide, List.length_cons, List.length_cons]
        omega
      · have h3 := of_decide_eq_true h3
        obtain ⟨t, rfl⟩ : ∃ t, rest = [t] := by
          match rest, h3 with
          | [t], _ => exact ⟨t, rfl⟩
        have tt : Th H t := hi _ (by simp)
        refine ed_andV (a := numB t) (b := !(stAt st rm).1) (ed_eq (ed_call (ea_cons (ed_ixT (ed_var rfl (r2.le e13)) ed_int (by decide) rfl) (ea_cons ed_int (ea_cons (ed_I (f := fun i j => i ^ j.toNat) ed_int ed_int ?_) ea_nil))) fun H4 e4 => ⟨t, _, _, rfl, (tt.le (e13.trans e4)).tk, rfl⟩) ?_) fun _ => ed_notV (hheld e13)
        · exact ⟨by decide, by decide, by decide⟩
        · show D.bl _ = D.bl _
          congr 1
          cases t with
          | int t =>
            have hb := bd _ _ t rfl
            show (decide (0 ≤ t) && decide (t ≤ (10 : Int) ^ (41 : Int).toNat)) = decide (0 ≤ t)
            rw [decide_eq_true (show t ≤ (10 : Int) ^ (41 : Int).toNat from hb), Bool.and_true]
          | _ => rfl
end
end W1

set_option maxRecDepth 100000
set_option maxHeartbeats 4000000
namespace W1
open PySem PyProof.Rows L2
local macro_rules | `(tactic| walk_at "rp") => `(tactic| first | assumption | exact Rp.int _ | exact Rp.bl _ | exact Rp.str _ | exact Rp.non | exact Rp.obj _ | (refine Rp.le (by assumption) ?_; walk_at "rp"))
local macro_rules | `(tactic| walk_at "ed") => `(tactic| first
  | exact ed_int | exact ed_str | exact ed_bl | exact ed_non
  | (refine ed_var rfl ?_; walk_at "rp")
  | (refine ed_ixT (ds := [_, _]) ?_ ed_int (by decide) rfl; walk_at "ed")
  | (refine ed_I0 ?_ ?_ <;> walk_at "ed")
  | (refine ed_B0 ?_ ?_ <;> walk_at "ed")
  | (refine ed_eqS ?_ ?_ rfl rfl rfl <;> walk_at "ed")
  | assumption)
local macro_rules | `(tactic| walk_at "ea") => `(tactic| first | exact ea_nil | (refine ea_cons ?_ ?_; walk_at "ed"; walk_at "ea"))

abbrev s__law_odd_deed : Stmt := topS 55
abbrev N__law_odd_deed : List Str := ["_law_hand_here", "_law_parts_here", "_law_k", "_law_many", "_law_room", "_law_tag", "_law_word", "_law_some"]
theorem sc__law_odd_deed : FnScope N__law_odd_deed ["_law_hand_here", "_law_parts_here", "_law_k"] (defScope s__law_odd_deed) := ⟨rfl, rfl, rfl, by decide +kernel, rfl, by decide +kernel, by decide +kernel⟩
/-- what stands in an odd deed -/
def Sc (d : D) : Prop := sca d = true ∧ ∀ t, d = .int t → t ≤ 10 ^ 41
def OddD : Pd := fun d H => Th H d ∧ Bd d
theorem odd_mono : Mono OddD := fun _ _ _ e h => ⟨h.1.le e, h.2⟩
theorem sc_mono : Mono fun d _ => Sc d := fun _ _ _ _ h => h
theorem Sc.th {d : D} (h : Sc d) (H : Hp) : Th H d := .sc h.1
theorem odd_sc {d : D} {H : Hp} (h : Sc d) : OddD d H := ⟨h.th H, fun a b t e => by
  subst e
  exact nomatch h.1⟩
theorem sc_int {z : Int} (h : z ≤ 10 ^ 41) : Sc (.int z) := ⟨rfl, fun t e => by
  cases e
  exact h⟩
theorem sc_of {d : D} (h : sca d = true) (hn : ∀ t, d ≠ .int t) : Sc d := ⟨h, fun t e => absurd e (hn t)⟩
theorem odd_tup2 {x y : D} {H : Hp} (h1 : Th H x) (h2 : Th H y) : OddD (.tup [x, y]) H := ⟨.tup (by show 2 ≤ 50000; decide) fun d hd => by
  simp only [List.mem_cons, List.not_mem_nil, or_false] at hd
  rcases hd with rfl | rfl
  · exact h1
  · exact h2, fun _ _ _ e => nomatch e⟩
theorem odd_tup3 {x y z : D} {H : Hp} (h1 : Th H x) (h2 : Th H y) (h3 : Sc z) : OddD (.tup [x, y, z]) H := ⟨.tup (by show 3 ≤ 50000; decide) fun d hd => by
  simp only [List.mem_cons, List.not_mem_nil, or_false] at hd
  rcases hd with rfl | rfl | rfl
  · exact h1
  · exact h2
  · exact h3.th H, fun a b t e => by
    injection e with e
    injection e with _ e
    injection e with _ e
    injection e with e _
    exact h3.2 t e⟩
theorem odd_ob {d : D} {H : Hp} (h : ∃ v, d = .obj v ∧ Ob H v) : OddD d H := by
  obtain ⟨v, rfl, h⟩ := h
  exact ⟨.ob h, fun _ _ _ e => nomatch e⟩
section
variable {P : Program} {w : World} {K : PySem.W.Frag} {mg : Str → Option Value} {base : Heap} {C : Addr}
theorem ep_drawS {σ : L2.St} {H : Hp} {E : XK} {h : Addr} {m : Int} {ta : TA} (hh : Hand H h) (ha : EDA K ta σ H [.obj (.ref h), .int m]) (h1 : 1 ≤ m ∧ m ≤ 1000000) : EP K (tCall (spD K R_draw) [] E ta) σ H (fun d _ => Sc d) :=
  (ep_draw hh ha h1).weak fun d H2 _ p => by
    obtain ⟨r, rfl, h0, h2⟩ := p
    exact sc_int (by omega)
def R_odd : List D → Hp → Pd → Prop := fun ds H P => ∃ (h : Addr) (ms : List Int) (ties : List (Int × Int)) (k : Int), ds = [.obj (.ref h), eW ms ties, .int k] ∧ Hand H h ∧ 1 ≤ ms.length ∧ ms.length ≤ 60 ∧ 1 ≤ k ∧ k ≤ 200 ∧ P = OddD
theorem ok_odd (T : HTxt mg) (g : GDef K mg "_law_odd_deed" s__law_odd_deed ["_law_hand_here", "_law_parts_here", "_law_k"]) (G_law_draw : Def P w K mg base 1 "_law_draw" ["_law_hand_here", "_law_many"] (spD K R_draw))
    (G_law_any : Def P w K mg base 2 "_law_any" ["_law_hand_here", "_law_items"] (spD K R_any)) (G_law_nested : Def P w K mg base 3 "_law_nested" ["_law_hand_here"] (spD K R_nested)) :
    Def P w K mg base 4 "_law_odd_deed" ["_law_hand_here", "_law_parts_here", "_law_k"] (spD K R_odd) := by
  refine defD g sc__law_odd_deed (fun ds H Pd h => ?_) fun cdv A outer s f H vs ds Pd Q E hr r h q => ?_
  · obtain ⟨h, ms, ties, k, rfl, _⟩ := h
    rfl
  obtain ⟨h, ms, ties, k, rfl, hh, n1, n60, k1, k2, rfl⟩ := h
  obtain ⟨v1, v2, v3, rfl, r1, r2, r3⟩ := rps3 r
  have ev := rp_obj r1
  subst ev
  have ev3 := rp_int r3
  subst ev3
  refine ⟨_, (pss_cons (ps_set (i := 3) sc__law_odd_deed.nd rfl (Or.inl rfl) (pe_callB (kc_len (K := K)) (by rfl) T.n_len boot_len (pa_cons (pe_ix (kix_tup (K := K)) (pv 1) pe_int (fun _ _ => rfl)) pa_nil)))
    (pss_cons (ps_set (i := 4) sc__law_odd_deed.nd rfl (Or.inl rfl) (pe_def G_law_any (hr.mono (by decide)) (pa_cons (pv 0) (pa_cons (pe_lst (pa_cons (pe_def G_law_draw (hr.mono (by decide)) (pa_cons (pv 0) (pa_cons (pv 3) pa_nil))) (pa_cons (pe_def G_law_draw (hr.mono (by decide)) (pa_cons (pv 0) (pa_cons (pv 3) pa_nil))) (pa_cons (pv 3) (pa_cons (pe_un un_neg pe_int) (pa_cons pe_bl (pa_cons pe_non pa_nil))))))) pa_nil))))
    (pss_cons (ps_set (i := 5) sc__law_odd_deed.nd rfl (Or.inl rfl) (pe_def G_law_any (hr.mono (by decide)) (pa_cons (pv 0) (pa_cons (pe_lst (pa_cons (pe_def G_law_draw (hr.mono (by decide)) (pa_cons (pv 0) (pa_cons (pv 2) pa_nil))) (pa_cons (pv 2) (pa_cons (pe_un un_neg pe_int) (pa_cons pe_bl (pa_cons pe_non (pa_cons pe_str (pa_cons (pe_op op_pow pe_int pe_int) pa_nil)))))))) pa_nil))))
    (pss_cons (ps_set (i := 6) sc__law_odd_deed.nd rfl (Or.inl rfl) (pe_def G_law_any (hr.mono (by decide)) (pa_cons (pv 0) (pa_cons (pe_lst (pa_cons pe_str (pa_cons pe_str (pa_cons pe_str (pa_cons pe_str (pa_cons pe_str (pa_cons pe_str (pa_cons pe_int (pa_cons pe_non pa_nil))))))))) pa_nil))))
    (pss_cons (ps_set (i := 7) sc__law_odd_deed.nd rfl (Or.inl rfl) (pe_lst (pa_cons (pe_tup (pa_cons pe_str (pa_cons (pv 4) (pa_cons (pv 5) pa_nil)))) (pa_cons (pe_tup (pa_cons pe_str (pa_cons (pv 4) pa_nil))) (pa_cons (pe_tup (pa_cons (pv 6) (pa_cons (pv 4) (pa_cons (pv 5) pa_nil)))) (pa_cons (pe_tup (pa_cons (pv 6) (pa_cons (pv 4) pa_nil))) (pa_cons (pe_lst (pa_cons pe_str (pa_cons (pv 4) pa_nil))) (pa_cons (pe_tup (pa_cons pe_str (pa_cons (pv 4) pa_nil))) (pa_cons pe_non pa_nil)))))))))
    (pss_one (ps_ret (pe_def G_law_any (hr.mono (by decide)) (pa_cons (pv 0) (pa_cons (pe_op op_cat (pv 7) (pe_lst (pa_cons (pe_tup pa_nil) (pa_cons (pe_tup (pa_cons pe_str (pa_cons (pv 4) (pa_cons (pv 5) pa_nil)))) (pa_cons pe_str (pa_cons pe_int (pa_cons pe_dnewK (pa_cons (pe_tup (pa_cons pe_str (pa_cons (pe_tup (pa_cons (pv 4) pa_nil)) (pa_cons (pv 5) pa_nil)))) (pa_cons (pe_def G_law_nested (hr.mono (by decide)) (pa_cons (pv 0) pa_nil)) pa_nil))))))))) pa_nil)))))))))), ?_⟩
  refine q_asgD (K := K) (d := .int (ms.length : Int)) (ed_eq (ed_lenT (ed_ixT (ds := [_, _]) (ed_var rfl r2) ed_int (by decide) rfl)) (by rw [List.length_map])) fun v4 H1 e1 r4 => ?_
  have ev4 := rp_int r4
  subst ev4
  have bnd : 1 ≤ (ms.length : Int) ∧ (ms.length : Int) ≤ 1000000 := by omega
  have dn : ∀ {σ : L2.St} {H' : Hp}, Le H H' → σ[0]? = some (some (.ref h)) → σ[3]? = some (some (.int (ms.length : Int))) → EP K (tCall (spD K R_draw) [] E0 (tCons (tVar 0) (tCons (tVar 3) tNil))) σ H' (fun d _ => Sc d) := fun e s0 s3 => ep_drawS (hh.le e) (ea_cons (ed_var s0 (.obj _)) (ea_cons (ed_var s3 (.int _)) ea_nil)) bnd
  have dk : ∀ {σ : L2.St} {H' : Hp}, Le H H' → σ[0]? = some (some (.ref h)) → σ[2]? = some (some (.int k)) → EP K (tCall (spD K R_draw) [] E0 (tCons (tVar 0) (tCons (tVar 2) tNil))) σ H' (fun d _ => Sc d) := fun e s0 s2 => ep_drawS (hh.le e) (ea_cons (ed_var s0 (.obj _)) (ea_cons (ed_var s2 (.int _)) ea_nil)) (by omega)
  have en : ∀ {σ : L2.St} {H' : Hp}, EP K (tC (.non)) σ H' (fun d _ => Sc d) := ep_of sc_mono ed_non (sc_of rfl fun _ e => nomatch e)
  have es : ∀ {σ : L2.St} {H' : Hp} (x : Str), EP K (tC (.str x)) σ H' (fun d _ => Sc d) := fun x => ep_of sc_mono ed_str (sc_of rfl fun _ e => nomatch e)
  have eb : ∀ {σ : L2.St} {H' : Hp} (x : Bool), EP K (tC (.bl x)) σ H' (fun d _ => Sc d) := fun x => ep_of sc_mono ed_bl (sc_of rfl fun _ e => nomatch e)
  -- room
  refine q_asg (K := K) (P := fun d _ => Sc d) (ep_anyH (n := 6) sc_mono (hh.le e1) (ed_var rfl (.obj _)) (ep_allL sc_mono (ea_allC sc_mono (dn e1 rfl rfl) (ea_allC sc_mono (dn e1 rfl rfl) (ea_allC sc_mono (ep_of sc_mono (ed_var rfl (.int _)) (sc_int (by omega))) (ea_allC sc_mono (ep_of sc_mono (ed_neg ed_int) (sc_int (by decide))) (ea_allC sc_mono (eb true) (ea_allC sc_mono en ea_all0)))))) (by decide) (by decide)) (by decide) (by decide)) fun v5 d5 H2 e2 p5 r5 => ?_
  have e12 := e1.trans e2
  -- tag
  refine q_asg (K := K) (P := fun d _ => Sc d) (ep_anyH (n := 7) sc_mono (hh.le e12) (ed_var rfl (.obj _)) (ep_allL sc_mono (ea_allC sc_mono (dk e12 rfl rfl) (ea_allC sc_mono (ep_of sc_mono (ed_var rfl (.int _)) (sc_int (by omega))) (ea_allC sc_mono (ep_of sc_mono (ed_neg ed_int) (sc_int (by decide))) (ea_allC sc_mono (eb true) (ea_allC sc_mono en (ea_allC sc_mono (es _) (ea_allC sc_mono (ep_of sc_mono (ed_I (f := fun i j => i ^ j.toNat) ed_int ed_int ⟨by decide, by decide, by decide⟩) (sc_int (by decide))) ea_all0))))))) (by decide) (by decide)) (by decide) (by decide)) fun v6 d6 H3 e3 p6 r6 => ?_
  have e13 := e12.trans e3
  -- word
  refine q_asg (K := K) (P := fun d _ => Sc d) (ep_anyH (n := 8) sc_mono (hh.le e13) (ed_var rfl (.obj _)) (ep_allL sc_mono (ea_allC sc_mono (es _) (ea_allC sc_mono (es _) (ea_allC sc_mono (es _) (ea_allC sc_mono (es _) (ea_allC sc_mono (es _) (ea_allC sc_mono (es _) (ea_allC sc_mono (ep_of sc_mono ed_int (sc_int (by decide))) (ea_allC sc_mono en ea_all0)))))))) (by decide) (by decide)) (by decide) (by decide)) fun v7 d7 H4 e4 p7 r7 => ?_
  have e14 := e13.trans e4
  have tup2 : ∀ {σ : L2.St} {H' : Hp} {ta tb : TE} {x y : D}, ED K ta σ H' x → ED K tb σ H' y → Sc x → Sc y → EP K (tTup (tCons ta (tCons tb tNil))) σ H' OddD := fun h1 h2 s1 s2 => (ed_tup (ea_cons h1 (ea_cons h2 ea_nil)) (by show 2 ≤ 100000; decide)).weak fun d H5 _ p => by
    have p' : d = .tup [_, _] := p
    subst p'
    exact odd_tup2 (s1.th _) (s2.th _)
  have tup3 : ∀ {σ : L2.St} {H' : Hp} {ta tb tc : TE} {x y z : D}, ED K ta σ H' x → ED K tb σ H' y → ED K tc σ H' z → Sc x → Sc y → Sc z → EP K (tTup (tCons ta (tCons tb (tCons tc tNil)))) σ H' OddD := fun h1 h2 h3 s1 s2 s3 => (ed_tup (ea_cons h1 (ea_cons h2 (ea_cons h3 ea_nil))) (by show 3 ≤ 100000; decide)).weak fun d H5 _ p => by
    have p' : d = .tup [_, _, _] := p
    subst p'
    exact odd_tup3 (s1.th _) (s2.th _) s3
  have ss : ∀ x : Str, Sc (.str x) := fun x => sc_of rfl fun _ e => nomatch e
  -- some
  refine q_asg (K := K) (P := AllL OddD 7) (ep_allL odd_mono (ea_allC odd_mono (tup3 ed_str (ed_var rfl (r5.le (e3.trans e4))) (ed_var rfl (r6.le e4)) (ss _) p5 p6) (ea_allC odd_mono (tup2 ed_str (ed_var rfl (r5.le (e3.trans e4))) (ss _) p5) (ea_allC odd_mono (tup3 (ed_var rfl r7) (ed_var rfl (r5.le (e3.trans e4))) (ed_var rfl (r6.le e4)) p7 p5 p6) (ea_allC odd_mono (tup2 (ed_var rfl r7) (ed_var rfl (r5.le (e3.trans e4))) p7 p5)
    (ea_allC odd_mono ((ep_lstO (P := fun ds _ => ds.length = 2) (EA_weak (ea_cons ed_str (ea_cons (ed_var rfl (r5.le (e3.trans e4))) ea_nil)) fun ds H5 p => by
      have p' : ds = [_, _] := p
      subst p'
      rfl) (fun ds H5 p => by rw [p]; decide)).weak fun d H5 _ p => odd_ob p) (ea_allC odd_mono (tup2 ed_str (ed_var rfl (r5.le (e3.trans e4))) (ss _) p5) (ea_allC odd_mono (ep_of odd_mono ed_non (odd_sc (sc_of rfl fun _ e => nomatch e))) ea_all0))))))) (by decide) (by decide)) fun v8 d8 H5 e5 p8 r8 => ?_
  have e15 := e14.trans e5
  have r5' := r5.le ((e3.trans e4).trans e5)
  have r6' := r6.le (e4.trans e5)
  have all_mono : Mono (AllL OddD 7) := fun d H H' e ⟨xs, h1, h2⟩ => ⟨xs, h1, AllA.mono odd_mono e h2⟩
  refine s_ret (K := K) (P := OddD) (ep_anyH (n := 7 + 7) odd_mono (hh.le e15) (ed_var rfl (.obj _)) (ep_allCat odd_mono (ep_var all_mono rfl r8 p8) (ep_allL odd_mono (ea_allC odd_mono (ep_of odd_mono (ed_tup ea_nil (by decide)) ⟨.tup (Nat.zero_le _) fun x hx => (nomatch hx), fun _ _ _ e => nomatch e⟩) (ea_allC odd_mono (tup3 ed_str (ed_var rfl r5') (ed_var rfl r6') (ss _) p5 p6) (ea_allC odd_mono (ep_of odd_mono ed_str (odd_sc (ss _))) (ea_allC odd_mono (ep_of odd_mono ed_int (odd_sc (sc_int (by decide)))) (ea_allC odd_mono (ep_dict.weak fun d H6 _ p => odd_ob p)
    (ea_allC odd_mono ((ed_tup (ea_cons ed_str (ea_cons (ed_tup (ea_cons (ed_var rfl r5') ea_nil) (by show 1 ≤ 100000; decide)) (ea_cons (ed_var rfl r6') ea_nil))) (by show 3 ≤ 100000; decide)).weak fun d H6 _ p => ?_) (ea_allC odd_mono ((ed_call (P := fun d H2 => Th H2 d ∧ Ns d) (ea_cons (ed_var rfl (.obj _)) ea_nil) fun H6 e6 => ⟨h, rfl, hh.le (e15.trans e6), rfl⟩).weak fun d H6 _ p => ⟨p.1, fun a b t e => absurd e (p.2.nt a b t)⟩) ea_all0))))))) (by decide) (by decide)) (by decide) (by decide)) (by decide) (by decide)) fun v d H6 e6 p r => q v d H6 (e15.trans e6) p r
  have p' : d = .tup [_, _, _] := p
  subst p'
  exact odd_tup3 ((ss _).th _) (.tup (by show 1 ≤ 50000; decide) fun x hx => by rw [List.mem_singleton.mp hx]; exact p5.th _) p6
end
end W1

set_option maxRecDepth 100000
set_option maxHeartbeats 4000000
namespace W1
open PySem PyProof.Rows L2
local macro_rules | `(tactic| walk_at "rp") => `(tactic| first | assumption | exact Rp.int _ | exact Rp.bl _ | exact Rp.str _ | exact Rp.non | exact Rp.obj _ | (refine Rp.le (by assumption) ?_; walk_at "rp"))
local macro_rules | `(tactic| walk_at "ed") => `(tactic| first
  | exact ed_int | exact ed_str | exact ed_bl | exact ed_non
  | (refine ed_var rfl ?_; walk_at "rp")
  | (refine ed_ixT (ds := [_, _]) ?_ ed_int (by decide) rfl; walk_at "ed")
  | (refine ed_I0 ?_ ?_ <;> walk_at "ed")
  | (refine ed_B0 ?_ ?_ <;> walk_at "ed")
  | (refine ed_eqS ?_ ?_ rfl rfl rfl <;> walk_at "ed")
  | assumption)
local macro_rules | `(tactic| walk_at "ea") => `(tactic| first | exact ea_nil | (refine ea_cons ?_ ?_; walk_at "ed"; walk_at "ea"))

abbrev s__law_bent_past : Stmt := topS 56
abbrev N__law_bent_past : List Str := ["_law_hand_here", "_law_parts_here", "_law_k", "_law_past_here", "_law_at", "_law_deed", "_law_some"]
theorem sc__law_bent_past : FnScope N__law_bent_past ["_law_hand_here", "_law_parts_here", "_law_k", "_law_past_here"] (defScope s__law_bent_past) := ⟨rfl, rfl, rfl, by decide +kernel, rfl, by decide +kernel, by decide +kernel⟩
def BentD : Pd := fun d H => Th H d ∧ ∀ xs, d = .tup xs → xs.length ≤ 1000 ∧ ∀ x ∈ xs, Bd x
theorem bent_mono : Mono BentD := fun _ _ _ e h => ⟨h.1.le e, h.2⟩
theorem bent_of {d : D} {H : Hp} {n : Nat} (hn : n ≤ 1000) (h : AllT OddD n d H) : BentD d H := by
  obtain ⟨xs, rfl, hl, hp⟩ := h
  refine ⟨.tup (by omega) fun d hd => (hp d hd).1, fun ys e => ?_⟩
  injection e with e
  subst e
  exact ⟨by omega, fun x hx => (hp x hx).2⟩
theorem bent_sc {d : D} {H : Hp} (h : sca d = true) : BentD d H := ⟨.sc h, fun xs e => by
  subst e
  exact nomatch h⟩
theorem bent_ob {d : D} {H : Hp} (h : ∃ v, d = .obj v ∧ Ob H v) : BentD d H := by
  obtain ⟨v, rfl, h⟩ := h
  exact ⟨.ob h, fun _ e => nomatch e⟩
theorem odd_eD {dd : Deed} (h : tagD dd ≤ 10 ^ 41) (H : Hp) : OddD (eD dd) H := by
  cases dd with
  | give r t => exact odd_tup3 (.sc rfl) (.sc rfl) (sc_int h)
  | back r => exact odd_tup2 (.sc rfl) (.sc rfl)
section
variable {P : Program} {w : World} {K : PySem.W.Frag} {mg : Str → Option Value} {base : Heap} {C : Addr}
def R_bent : List D → Hp → Pd → Prop := fun ds H P => ∃ (h : Addr) (ms : List Int) (ties : List (Int × Int)) (k : Int) (past : List Deed), ds = [.obj (.ref h), eW ms ties, .int k, .tup (past.map eD)] ∧ Hand H h ∧ 1 ≤ ms.length ∧ ms.length ≤ 60 ∧ 1 ≤ k ∧ k ≤ 200 ∧ past.length ≤ 200 ∧ (∀ d ∈ past, tagD d ≤ 10 ^ 41) ∧ P = BentD
theorem ok_bent (T : HTxt mg) (g : GDef K mg "_law_bent_past" s__law_bent_past ["_law_hand_here", "_law_parts_here", "_law_k", "_law_past_here"]) (G_law_draw : Def P w K mg base 1 "_law_draw" ["_law_hand_here", "_law_many"] (spD K R_draw))
    (G_law_any : Def P w K mg base 2 "_law_any" ["_law_hand_here", "_law_items"] (spD K R_any)) (G_law_nested : Def P w K mg base 3 "_law_nested" ["_law_hand_here"] (spD K R_nested)) (G_law_odd_deed : Def P w K mg base 4 "_law_odd_deed" ["_law_hand_here", "_law_parts_here", "_law_k"] (spD K R_odd)) :
    Def P w K mg base 5 "_law_bent_past" ["_law_hand_here", "_law_parts_here", "_law_k", "_law_past_here"] (spD K R_bent) := by
  refine defD g sc__law_bent_past (fun ds H Pd h => ?_) fun cdv A outer s f H vs ds Pd Q E hr r h q => ?_
  · obtain ⟨h, ms, ties, k, past, rfl, _⟩ := h
    rfl
  obtain ⟨h, ms, ties, k, past, rfl, hh, n1, n60, k1, k2, pl, pt, rfl⟩ := h
  cases r with
  | cons r1 r =>
    obtain ⟨v2, v3, v4, rfl, r2, r3, r4⟩ := rps3 r
    have ev := rp_obj r1
    subst ev
    refine ⟨_, (pss_cons (ps_par (i := 4) (j := 5) (by rfl) sc__law_bent_past.nd rfl rfl (by decide) rfl rfl (pa_cons (pe_def G_law_draw (hr.mono (by decide)) (pa_cons (pv 0) (pa_cons (pe_op op_add (pe_callB (kc_len (K := K)) (by rfl) T.n_len boot_len (pa_cons (pv 3) pa_nil)) pe_int) pa_nil))) (pa_cons (pe_def G_law_odd_deed (hr.mono (by decide)) (pa_cons (pv 0) (pa_cons (pv 1) (pa_cons (pv 2) pa_nil)))) pa_nil)) (by rfl))
    (pss_cons (ps_set (i := 6) sc__law_bent_past.nd rfl (Or.inl rfl) (pe_lst (pa_cons (pe_op (kop_catA (K := K)) (pe_op (kop_catA (K := K)) (pe_slice (ksl_tup (K := K)) (pv 3) po_none (po_some (pv 4))) (pe_tup (pa_cons (pv 5) pa_nil))) (pe_slice (ksl_tup (K := K)) (pv 3) (po_some (pv 4)) po_none)) (pa_cons (pe_op (kop_catA (K := K)) (pe_op (kop_catA (K := K)) (pe_slice (ksl_tup (K := K)) (pv 3) po_none (po_some (pv 4))) (pe_tup (pa_cons (pv 5) pa_nil))) (pe_slice (ksl_tup (K := K)) (pv 3) (po_some (pe_op op_add (pv 4) pe_int)) po_none)) (pa_cons (pe_op (kop_catA (K := K)) (pe_slice (ksl_tup (K := K)) (pv 3) po_none (po_some (pv 4))) (pe_slice (ksl_tup (K := K)) (pv 3) (po_some (pe_op op_add (pv 4) pe_int)) po_none)) pa_nil)))))
    (pss_cons (ps_set (i := 6) sc__law_bent_past.nd rfl (Or.inl rfl) (pe_op op_cat (pv 6) (pe_lst (pa_cons (pe_op (kop_catA (K := K)) (pv 3) (pv 3)) (pa_cons (pe_op (kop_catA (K := K)) (pe_op (kop_catA (K := K)) (pe_slice (ksl_tup (K := K)) (pv 3) po_none (po_some (pv 4))) (pe_slice (ksl_tup (K := K)) (pv 3) (po_some (pv 4)) (po_some (pe_op op_add (pv 4) pe_int)))) (pe_slice (ksl_tup (K := K)) (pv 3) (po_some (pv 4)) po_none)) (pa_cons (kpe_revT (K := K) (pv 3)) (pa_cons (pe_callTy (kc_list (K := K)) (by rfl) T.n_list boot_list (pa_cons (pv 3) pa_nil)) (pa_cons (pe_slice (ksl_tup (K := K)) (pv 3) po_none (po_some (pv 4))) (pa_cons pe_non (pa_cons pe_int (pa_cons pe_dnewK pa_nil)))))))))))
    (pss_one (ps_ret (pe_def G_law_any (hr.mono (by decide)) (pa_cons (pv 0) (pa_cons (pe_op op_cat (pv 6) (pe_lst (pa_cons (pe_op (kop_catA (K := K)) (pe_op (kop_catA (K := K)) (pe_slice (ksl_tup (K := K)) (pv 3) po_none (po_some (pv 4))) (kpe_revT (K := K) (pe_slice (ksl_tup (K := K)) (pv 3) (po_some (pv 4)) (po_some (pe_op op_add (pv 4) pe_int))))) (pe_slice (ksl_tup (K := K)) (pv 3) (po_some (pe_op op_add (pv 4) pe_int)) po_none)) (pa_cons (pe_tup (pa_cons (pv 3) pa_nil)) (pa_cons (pe_def G_law_nested (hr.mono (by decide)) (pa_cons (pv 0) pa_nil)) pa_nil))))) pa_nil)))))))), ?_⟩
    have pA : ∀ {σ : L2.St} {H' : Hp}, Le H H' → σ[3]? = some (some v4) → EP K (tVar 3) σ H' (AllT OddD 200) := fun e s3 => (ed_var s3 (r4.le e)).weak fun d H2 _ p => by
      have p' : d = .tup (past.map eD) := p
      subst p'
      refine ⟨_, rfl, by rw [List.length_map]; exact pl, fun d hd => ?_⟩
      obtain ⟨dd, hdd, rfl⟩ := List.mem_map.mp hd
      exact odd_eD (pt dd hdd) _
    -- at, deed
    refine q_par2 (K := K) (PA := fun ds H2 => ∃ (a : Int) (d : D), ds = [.int a, d] ∧ OddD d H2) (EA_weak (ep_cons (ep_draw hh (ea_cons (ed_var rfl (.obj _)) (ea_cons (ed_I0 (f := fun i j => i + j) (ed_lenT (ed_var rfl r4)) ed_int) ea_nil)) (by rw [List.length_map]; omega)) (ep_cons (ed_call (P := OddD) (ea_cons (ed_var rfl (.obj _)) (ea_cons (ed_var rfl r2) (ea_cons (ed_var rfl r3) ea_nil))) fun H1 e1 => ⟨h, ms, ties, k, rfl, hh.le e1, n1, n60, k1, k2, rfl⟩) ea_nil)) fun ds H2 p => ?_) (fun ds H2 p => ?_) fun v5 v6 d5 d6 H1 e1 p r5 r6 => ?_
    · obtain ⟨d1, t1, G1, rfl, f1, ⟨a, rfl, _⟩, d2, t2, G2, rfl, f2, ho, h3⟩ := p
      have h3' : t2 = [] := h3
      subst h3'
      exact ⟨a, d2, rfl, odd_mono _ _ _ f2 ho⟩
    · obtain ⟨a, d, rfl, _⟩ := p
      rfl
    obtain ⟨a, d, ee, hod⟩ := p
    injection ee with ea ee
    injection ee with eb _
    subst ea eb
    have ev5 := rp_int r5
    subst ev5
    have aI : ∀ {σ : L2.St} {H' : Hp}, σ[4]? = some (some (.int a)) → ED K (tVar 4) σ H' (.int a) := fun s4 => ed_var s4 (.int _)
    have aP : ∀ {σ : L2.St} {H' : Hp} {j : Int}, σ[4]? = some (some (.int a)) → ED K (tOp (rI0 fun i j => .int (i + j)) (tVar 4) (tC (.int j))) σ H' (.int (a + j)) := fun s4 => ed_I0 (f := fun i j => i + j) (aI s4) ed_int
    have lo : ∀ {σ : L2.St} {H' : Hp} {te : TE} {j : Int}, Le H H' → σ[3]? = some (some v4) → ED K te σ H' (.int j) → EP K (tSl (rSlA K) (tVar 3) (tPart te) tNoPart) σ H' (AllT OddD 200) := fun e s3 h => ep_slP odd_mono (pA e s3) (eo_some h) eo_none
    have hi : ∀ {σ : L2.St} {H' : Hp} {te : TE} {j : Int}, Le H H' → σ[3]? = some (some v4) → ED K te σ H' (.int j) → EP K (tSl (rSlA K) (tVar 3) tNoPart (tPart te)) σ H' (AllT OddD 200) := fun e s3 h => ep_slP odd_mono (pA e s3) eo_none (eo_some h)
    have mid : ∀ {σ : L2.St} {H' : Hp} {te tu : TE} {i j : Int}, Le H H' → σ[3]? = some (some v4) → ED K te σ H' (.int i) → ED K tu σ H' (.int j) → EP K (tSl (rSlA K) (tVar 3) (tPart te) (tPart tu)) σ H' (AllT OddD 200) := fun e s3 h h2 => ep_slP odd_mono (pA e s3) (eo_some h) (eo_some h2)
    have bw : ∀ {σ : L2.St} {H' : Hp} {te : TE} {n : Nat}, EP K te σ H' (AllT OddD n) → n ≤ 1000 → EP K te σ H' BentD := fun h hn => h.weak fun d H2 _ p => bent_of hn p
    -- some
    refine q_asg (K := K) (P := AllL BentD 3) (ep_allL bent_mono (ea_allC bent_mono (bw (ep_catP odd_mono (ep_catP odd_mono (hi e1 rfl (aI rfl)) (ep_tup1 odd_mono (ep_var odd_mono rfl r6 hod)) (by decide)) (lo e1 rfl (aI rfl)) (by decide)) (by decide))
      (ea_allC bent_mono (bw (ep_catP odd_mono (ep_catP odd_mono (hi e1 rfl (aI rfl)) (ep_tup1 odd_mono (ep_var odd_mono rfl r6 hod)) (by decide)) (lo e1 rfl (aP rfl)) (by decide)) (by decide))
      (ea_allC bent_mono (bw (ep_catP odd_mono (hi e1 rfl (aI rfl)) (lo e1 rfl (aP rfl)) (by decide)) (by decide)) ea_all0))) (by decide) (by decide)) fun v7 d7 H2 e2 p7 r7 => ?_
    have e12 := e1.trans e2
    have am3 : Mono (AllL BentD 3) := fun d H H' e ⟨xs, h1, h2⟩ => ⟨xs, h1, AllA.mono bent_mono e h2⟩
    have am11 : Mono (AllL BentD (3 + 8)) := fun d H H' e ⟨xs, h1, h2⟩ => ⟨xs, h1, AllA.mono bent_mono e h2⟩
    -- some = some + ..
    refine q_asg (K := K) (P := AllL BentD (3 + 8)) (ep_allCat bent_mono (ep_var am3 rfl r7 p7) (ep_allL bent_mono (ea_allC bent_mono (bw (ep_catP odd_mono (pA e12 rfl) (pA e12 rfl) (by decide)) (by decide))
      (ea_allC bent_mono (bw (ep_catP odd_mono (ep_catP odd_mono (hi e12 rfl (aI rfl)) (mid e12 rfl (aI rfl) (aP rfl)) (by decide)) (lo e12 rfl (aI rfl)) (by decide)) (by decide))
      (ea_allC bent_mono (bw (ep_revP odd_mono (pA e12 rfl)) (by decide))
      (ea_allC bent_mono ((ep_lstOfO ((pA e12 rfl).weak fun d H3 _ p => ⟨_, p.choose_spec.1⟩)).weak fun d H3 _ p => bent_ob p)
      (ea_allC bent_mono (bw (hi e12 rfl (aI rfl)) (by decide))
      (ea_allC bent_mono (ep_of bent_mono ed_non (bent_sc rfl)) (ea_allC bent_mono (ep_of bent_mono ed_int (bent_sc rfl)) (ea_allC bent_mono (ep_dict.weak fun d H3 _ p => bent_ob p) ea_all0)))))))) (by decide) (by decide)) (by decide) (by decide)) fun v8 d8 H3 e3 p8 r8 => ?_
    have e13 := e12.trans e3
    refine s_ret (K := K) (P := BentD) (ep_anyH (n := 3 + 8 + 3) bent_mono (hh.le e13) (ed_var rfl (.obj _)) (ep_allCat bent_mono (ep_var am11 rfl r8 p8) (ep_allL bent_mono (ea_allC bent_mono (bw (ep_catP odd_mono (ep_catP odd_mono (hi e13 rfl (aI rfl)) (ep_revP odd_mono (mid e13 rfl (aI rfl) (aP rfl))) (by decide)) (lo e13 rfl (aP rfl)) (by decide)) (by decide))
      (ea_allC bent_mono ((ed_tup (ea_cons (ed_var rfl (r4.le e13)) ea_nil) (by show 1 ≤ 100000; decide)).weak fun d H4 _ p => ?_)
      (ea_allC bent_mono ((ed_call (P := fun d H2 => Th H2 d ∧ Ns d) (ea_cons (ed_var rfl (.obj _)) ea_nil) fun H4 e4 => ⟨h, rfl, hh.le (e13.trans e4), rfl⟩).weak fun d H4 _ p => ?_) ea_all0))) (by decide) (by decide)) (by decide) (by decide)) (by decide) (by decide)) fun v d H4 e4 p r => q v d H4 (e13.trans e4) p r
    · have p' : d = .tup [.tup (past.map eD)] := p
      subst p'
      refine ⟨.tup (by show 1 ≤ 50000; decide) fun x hx => ?_, fun ys e => ?_⟩
      · rw [List.mem_singleton.mp hx]
        refine .tup (by rw [List.length_map]; omega) fun y hy => ?_
        obtain ⟨dd, hdd, rfl⟩ := List.mem_map.mp hy
        exact (odd_eD (pt dd hdd) _).1
      · injection e with e
        subst e
        refine ⟨by show 1 ≤ 1000; decide, fun x hx => ?_⟩
        rw [List.mem_singleton.mp hx]
        intro a b t e
        injection e with e
        exfalso
        have : D.int t ∈ past.map eD := by rw [e]; simp
        obtain ⟨dd, _, hdd⟩ := List.mem_map.mp this
        cases dd <;> cases hdd
    · exact ⟨p.1, fun xs e => ⟨Nat.le_trans (p.2.it xs e).1 (by decide), fun x hx a b t ex => absurd ex ((p.2.it xs e).2 x hx a b t)⟩⟩
end
end W1

set_option maxRecDepth 100000
set_option maxHeartbeats 4000000
namespace L2
open PySem PySem.Spec PyProof.Rows
/-- isinstance(e, c), e the error that the suite holds, of the class D and without a dict -/
def rIsE2 (K : PySem.W.Frag) (D a : Addr) (cls : Value) (d : Option Addr) : List V → Hp → VK → Prop := fun xs H Q => cls = .ref D ∧ d = none ∧ rIsE K D a xs H Q
theorem call_isE2 {X : Cx} {K : PySem.W.Frag} {a D : Addr} {oe : Obj} {pn : List (Addr × Obj)} {cls : Value} {d : Option Addr} (C : ExcC K D) (hz : Zc cls d oe) (hf : ∃ vs, oe.data = .fields vs) (hK : X.K = K := by rfl) : CallR (X.suite a ((a, oe) :: pn)) (.builtin "isinstance") (rIsE2 K D a cls d) := by
  subst hK
  intro pins s σ H xs us Q I r h
  obtain ⟨rfl, rfl, h⟩ := h
  exact call_isE C hz hf pins s σ H xs us Q I r h
end L2
namespace W1
open PySem PyProof.Rows L2
local macro_rules | `(tactic| walk_at "rp") => `(tactic| first | assumption | exact Rp.int _ | exact Rp.bl _ | exact Rp.str _ | exact Rp.non | exact Rp.obj _ | (refine Rp.le (by assumption) ?_; walk_at "rp"))
local macro_rules | `(tactic| walk_at "ed") => `(tactic| first
  | exact ed_int | exact ed_str | exact ed_bl | exact ed_non
  | (refine ed_var rfl ?_; walk_at "rp")
  | (refine ed_ixT (ds := [_, _]) ?_ ed_int (by decide) rfl; walk_at "ed")
  | (refine ed_I0 ?_ ?_ <;> walk_at "ed")
  | (refine ed_B0 ?_ ?_ <;> walk_at "ed")
  | (refine ed_eqS ?_ ?_ rfl rfl rfl <;> walk_at "ed")
  | assumption)
local macro_rules | `(tactic| walk_at "ea") => `(tactic| first | exact ea_nil | (refine ea_cons ?_ ?_; walk_at "ed"; walk_at "ea"))

abbrev s__law_after_word : Stmt := topS 57
abbrev N__law_after_word : List Str := ["_law_web", "_law_standing_here", "_law_deed", "_law_told", "e"]
theorem sc__law_after_word : FnScope N__law_after_word ["_law_web", "_law_standing_here", "_law_deed"] (defScope s__law_after_word) := ⟨rfl, rfl, rfl, by decide +kernel, rfl, by decide +kernel, by decide +kernel⟩
theorem pe_gx {X : Cx} {x : Str} {C : Addr} {pos : Pos} (hm : X.mg x = some (.ref C)) (hg : Gl X x) (hdb : (x == ("__debug__" : Str)) = false := by decide) : PE X (.Name x pos) (tC (.ref C)) := pe_gl ⟨_, hm, rfl⟩ hg hdb
structure NE (K : PySem.W.Frag) (mg : Str → Option Value) (CN CT : Addr) : Prop where
  mgC : mg "NoDeed" = some (.ref CN)
  ec : ExcC K CN
  self : PySem.W.kitOne K (.ref CN) (.ref CN) = some true
  ve : PySem.W.kitOne K (.ref CN) (.type "ValueError") = some true
  te : PySem.W.exmOne K (.ref CN) (.ref CT) = some true
section
variable {P : Program} {w : World} {K : PySem.W.Frag} {mg : Str → Option Value} {base : Heap} {C CN CT : Addr}
def awD (ms : List Int) (st : St1) (d : D) : D := match dOf st d with
  | none => .str "deed"
  | some dd => eT (wdL ms st dd)
def R_aw (K : PySem.W.Frag) (C : Addr) : List D → Hp → Pd → Prop := fun ds H P => ∃ a ms ties st d, ds = [.obj (.ref a), eT st, d] ∧ WebAt K C H a ms ties ∧ StOk st ∧ st.length = ms.length ∧ Th H d ∧ P = is (awD ms st d)
theorem ok_aw (T : HTxt mg) (g : GDef K mg "_law_after_word" s__law_after_word ["_law_web", "_law_standing_here", "_law_deed"]) (Gafter : DefX P w K mg base 6 "after" ["web", "standing", "deed"] (spAfter K C CN)) (c_NoDeed : NE K mg CN CT) (hmT : mg "TagError" = some (.ref CT)) :
    Def P w K mg base 8 "_law_after_word" ["_law_web", "_law_standing_here", "_law_deed"] (spD K (R_aw K C)) := by
  obtain ⟨fA, fdA, hmA, hkA, hbA, GA⟩ := Gafter
  refine defD g sc__law_after_word (fun ds H Pd h => ?_) fun cdv A outer s f H vs ds Pd Q E hr r h q => ?_
  · obtain ⟨a, ms, ties, st, d, rfl, _⟩ := h
    rfl
  obtain ⟨a, ms, ties, st, d, rfl, x, sok, hl, ht, rfl⟩ := h
  have rr := r
  obtain ⟨v1, v2, v3, rfl, r1, r2, r3⟩ := rps3 r
  refine ⟨_, (pss_cons (ps_try_as (i := 4) (tb := fun W => tAsg (tCallS (spAfter K C CN) (WE W) (tCons (tVar 0) (tCons (tVar 1) (tCons (tVar 2) tNil)))) (gName 3)) (ts := fun a cls d => tAsg (tIf (tAnd (tB (tCB (rIsE2 K CN a cls d) (tCons (tVar 4) (tCons (tC (.ref CN)) tNil)))) (tB (tCB (rIsE2 K CN a cls d) (tCons (tVar 4) (tCons (tC (.ty "ValueError")) tNil))))) (tC (.str "deed")) (tC (.str "other"))) (gName 3)) (Wout := fun _ _ _ _ => False) rfl rfl sc__law_after_word.nd rfl rfl ⟨rfl, by decide, Or.inl hmT⟩ takes0
  (fun W pn xe tk _ => pss_one (ps_set (i := 3) sc__law_after_word.nd rfl (Or.inl rfl) (by exact (pe_callS GA (hr.mono (by decide)) rfl hmA hkA hbA (fun σ => passAt tk σ) (by exact (pa_cons (pv 0) (pa_cons (pv 1) (pa_cons (pv 2) pa_nil))))))))
  (fun a oe cls d pn hz hf => pss_one (ps_set (i := 3) sc__law_after_word.nd rfl (Or.inl rfl) (by exact (pe_ifExp (PW.pt (pw_and (pt_val (pe_callB (call_isE2 c_NoDeed.ec hz hf) (by rfl) T.n_isinstance boot_isinstance (pa_cons (pv 4) (pa_cons (pe_gx c_NoDeed.mgC (by rfl)) pa_nil)))) (pw_and1 (pt_val (pe_callB (call_isE2 c_NoDeed.ec hz hf) (by rfl) T.n_isinstance boot_isinstance (pa_cons (pv 4) (pa_cons (pe_bltn (v := V.ty "ValueError") (by rfl) T.n_ValueError boot_ValueError rfl) pa_nil))))))) pe_str pe_str)))))
    (pss_one (ps_ret (pv 3)))), ?_⟩
  refine ⟨_, rfl, _, rfl, _, rfl, a, ms, ties, st, d, rr, x, sok, hl, ht, fun hn H2 e2 => ⟨true, c_NoDeed.te, fun _ a0 na => ?_, fun h => nomatch h⟩, fun dd hd v H2 e2 r4 => ?_⟩
  · have isE : ∀ {c : V} {cv : Value} {H3 : Hp}, (∀ u, RelV c u → u = cv) → PySem.W.kitOne K (.ref CN) cv = some true → EB (tB (tCB (rIsE2 K CN a0 (.ref CN) none) (tCons (tVar 4) (tCons (tC c) tNil)))) [some v1, some v2, some v3, none, some (.ref a0)] H3 true := fun hc hk => et_B (K := K) fun H4 e4 Q q => ⟨_, rfl, rfl, rfl, _, _, true, rfl, hc, hk, q _ _ H4 (Le.refl _) rfl (.bl _)⟩
    refine s_asgD (K := K) (d := .str "deed") (ep_if (b := true) (eb_and (a := true) (b := true) (isE (fun u h => h) c_NoDeed.self) fun _ => isE (fun u h => h) c_NoDeed.ve) (fun _ => ed_str) fun h => nomatch h) fun v H3 e3 r4 => ?_
    have ev := rp_str r4
    subst ev
    refine s_retD (K := K) (d := .str "deed") (ed_var rfl (.str _)) fun v H4 e4 r => q v _ H4 ((e2.trans e3).trans e4) ?_ r
    show D.str "deed" = awD ms st d
    unfold awD
    rw [hn]
  · refine s_retD (K := K) (d := eT (wdL ms st dd)) (ed_var rfl r4) fun v H3 e3 r => q v _ H3 (e2.trans e3) ?_ r
    show eT (wdL ms st dd) = awD ms st d
    unfold awD
    rw [hd]
end
end W1

set_option maxRecDepth 100000
set_option maxHeartbeats 4000000
namespace W1
open PySem PyProof.Rows L2
local macro_rules | `(tactic| walk_at "rp") => `(tactic| first | assumption | exact Rp.int _ | exact Rp.bl _ | exact Rp.str _ | exact Rp.non | exact Rp.obj _ | (refine Rp.le (by assumption) ?_; walk_at "rp"))
local macro_rules | `(tactic| walk_at "ed") => `(tactic| first
  | exact ed_int | exact ed_str | exact ed_bl | exact ed_non
  | (refine ed_var rfl ?_; walk_at "rp")
  | (refine ed_ixT (ds := [_, _]) ?_ ed_int (by decide) rfl; walk_at "ed")
  | (refine ed_I0 ?_ ?_ <;> walk_at "ed")
  | (refine ed_B0 ?_ ?_ <;> walk_at "ed")
  | (refine ed_eqS ?_ ?_ rfl rfl rfl <;> walk_at "ed")
  | assumption)
local macro_rules | `(tactic| walk_at "ea") => `(tactic| first | exact ea_nil | (refine ea_cons ?_ ?_; walk_at "ed"; walk_at "ea"))


theorem sorted_ext : ∀ {a b : List Int}, a.Pairwise (· < ·) → b.Pairwise (· < ·) → (∀ k, k ∈ a ↔ k ∈ b) → a = b
  | [], [], _, _, _ => rfl
  | [], y :: b, _, _, h => absurd ((h y).mpr (List.mem_cons_self ..)) (fun h => nomatch h)
  | x :: a, [], _, _, h => absurd ((h x).mp (List.mem_cons_self ..)) (fun h => nomatch h)
  | x :: a, y :: b, ha, hb, h => by
    obtain ⟨ha1, ha2⟩ := List.pairwise_cons.mp ha
    obtain ⟨hb1, hb2⟩ := List.pairwise_cons.mp hb
    have e : x = y := by
      rcases List.mem_cons.mp ((h x).mp (List.mem_cons_self ..)) with h1 | h1
      · exact h1
      · rcases List.mem_cons.mp ((h y).mpr (List.mem_cons_self ..)) with h2 | h2
        · exact h2.symm
        · have := hb1 x h1
          have := ha1 y h2
          omega
    subst e
    rw [sorted_ext ha2 hb2 fun k => ?_]
    constructor
    · intro hk
      rcases List.mem_cons.mp ((h k).mp (List.mem_cons_of_mem _ hk)) with h1 | h1
      · have := ha1 k hk
        omega
      · exact h1
    · intro hk
      rcases List.mem_cons.mp ((h k).mpr (List.mem_cons_of_mem _ hk)) with h1 | h1
      · have := hb1 k hk
        omega
      · exact h1
/-! ### standings compared -/
def pyR (x : Bool × List Int) : PyData := .tuple [.bool x.1, .tuple (x.2.map .int)]
def pyS (st : St1) : PyData := .tuple (st.map pyR)
theorem canAll {α : Type} {f : α → PyData} : ∀ (l : List α), (∀ x ∈ l, (f x).canLay0 = true) → PyData.canLayAll0 (l.map f) = true
  | [], _ => rfl
  | x :: l, h => by
    rw [List.map_cons]
    show ((f x).canLay0 && PyData.canLayAll0 (l.map f)) = true
    rw [h x (List.mem_cons_self ..), canAll l fun y hy => h y (List.mem_cons_of_mem _ hy)]
    rfl
theorem depAll {α : Type} {f : α → PyData} {m : Nat} : ∀ (l : List α), (∀ x ∈ l, (f x).depth ≤ m) → PyData.depthAll (l.map f) ≤ m
  | [], _ => Nat.zero_le _
  | x :: l, h => by
    rw [List.map_cons]
    show max (f x).depth (PyData.depthAll (l.map f)) ≤ m
    exact Nat.max_le.mpr ⟨h x (List.mem_cons_self ..), depAll l fun y hy => h y (List.mem_cons_of_mem _ hy)⟩
theorem can_ints (ns : List Int) : (PyData.tuple (ns.map .int)).canLay0 = true := by
  show PyData.canLayAll0 (ns.map .int) = true
  exact canAll ns fun x _ => rfl
theorem dep_ints (ns : List Int) : (PyData.tuple (ns.map .int)).depth ≤ 1 := by
  show PyData.depthAll (ns.map .int) + 1 ≤ 1
  have := depAll (f := PyData.int) (m := 0) ns fun x _ => Nat.le_refl _
  omega
theorem can_R (x : Bool × List Int) : (pyR x).canLay0 = true := by
  show PyData.canLayAll0 [.bool x.1, .tuple (x.2.map .int)] = true
  show ((PyData.bool x.1).canLay0 && ((PyData.tuple (x.2.map .int)).canLay0 && true)) = true
  rw [can_ints]
  rfl
theorem dep_R (x : Bool × List Int) : (pyR x).depth ≤ 2 := by
  show max (PyData.bool x.1).depth (max (PyData.tuple (x.2.map .int)).depth 0) + 1 ≤ 2
  have := dep_ints x.2
  show max 0 (max (PyData.tuple (x.2.map .int)).depth 0) + 1 ≤ 2
  omega
theorem can_S (st : St1) : (pyS st).canLay0 = true := canAll st fun x _ => can_R x
theorem shp_S (st : St1) : SeqAt.shaped (pyS st) = true := by
  unfold SeqAt.shaped
  rw [can_S, Bool.true_and]
  refine decide_eq_true ?_
  show PyData.depthAll (st.map pyR) + 1 ≤ 64
  have := depAll (m := 2) st fun x _ => dep_R x
  omega
section
variable {K : PySem.W.Frag} {H : Hp}
theorem dp_ints : ∀ {ns : List Int} {vs : List V}, Rps K H vs (ns.map D.int) → L2.DpAll K H vs (ns.map PyData.int)
  | [], _, h => by
    cases h
    exact .nil
  | n :: ns, _, h => by
    cases h with
    | cons a r =>
      cases a
      exact .cons (.int n) (dp_ints r)
theorem dp_R {v : V} {x : Bool × List Int} (r : Rp K H v (eR x)) : L2.Dp K H v (pyR x) := by
  obtain ⟨a, xs, rfl, s, rr⟩ := rp_tup r
  obtain ⟨w1, w2, rfl, q1, q2⟩ := rps2 rr
  obtain ⟨b, ys, rfl, s2, r2⟩ := rp_tup q2
  rw [rp_bl q1] at *
  exact .tup s (.cons (.bl _) (.cons (.tup s2 (dp_ints r2)) .nil))
theorem dp_Rs : ∀ {st : St1} {vs : List V}, Rps K H vs (st.map eR) → L2.DpAll K H vs (st.map pyR)
  | [], _, h => by
    cases h
    exact .nil
  | x :: st, _, h => by
    cases h with
    | cons a r => exact .cons (dp_R a) (dp_Rs r)
theorem dp_S {v : V} {st : St1} (r : Rp K H v (eT st)) : L2.Dp K H v (pyS st) := by
  obtain ⟨a, xs, rfl, s, rr⟩ := rp_tup r
  exact .tup s (dp_Rs rr)
theorem ed_neSt {σ : L2.St} {ta tb : TE} {st : St1} (h1 : ED K ta σ H (eT st)) (h2 : ED K tb σ H (eT st)) : ED K (tOp (rNeD K) ta tb) σ H (.bl false) := ed_op h1 h2 fun x y H2 _ r1 r2 Q q => by
  refine ⟨pyS st, pyS st, dp_S r1, dp_S r2, shp_S st, shp_S st, ?_⟩
  rw [SeqAt.eqv_refl _ (can_S st)]
  exact q _ _ H2 (Le.refl _) rfl (.bl false)
/-- deep enough for the law's own look -/
theorem dp4_S {st : St1} (h : st.length ≤ 60) (ht : ∀ x ∈ st, x.2.length ≤ 5000) : Dp 4 (eT st) := by
  refine ⟨by rw [List.length_map]; omega, fun d hd => ?_⟩
  obtain ⟨x, hx, rfl⟩ := List.mem_map.mp hd
  refine ⟨by show 2 ≤ 50000; decide, fun d hd => ?_⟩
  simp only [List.mem_cons, List.not_mem_nil, or_false] at hd
  rcases hd with rfl | rfl
  · trivial
  · refine ⟨by rw [List.length_map]; have := ht x hx; omega, fun d hd => ?_⟩
    obtain ⟨n, _, rfl⟩ := List.mem_map.mp hd
    trivial
theorem dp4_ints {ns : List Int} (h : ns.length ≤ 50000) : Dp 4 (.tup (ns.map .int)) := ⟨by rw [List.length_map]; exact h, fun d hd => by
  obtain ⟨n, _, rfl⟩ := List.mem_map.mp hd
  trivial⟩
theorem dp4_one {d : D} (h : sca d = true) : Dp 4 (.lst [d]) := ⟨by show 1 ≤ 50000; decide, fun x hx => by
  rw [List.mem_singleton.mp hx]
  cases d <;> first | trivial | exact nomatch h⟩
theorem dp4_sc {d : D} (h : sca d = true) : Dp 4 d := by
  cases d <;> first | trivial | exact nomatch h
theorem ed_is {σ : L2.St} {ta tb : TE} {E : XK} {d : D} (h1 : ED K ta σ H d) (h2 : ED K tb σ H d) (hd : Dp 4 d) : ED K (tCall (spD K (R_is 4)) [] E (tCons ta (tCons tb tNil))) σ H (.bl true) :=
  ed_call (ea_cons h1 (ea_cons h2 ea_nil)) fun H2 _ => ⟨rfl, .inl ⟨d, rfl, hd⟩⟩
/-- of two that are the same whatever they are -/
theorem ep_is {σ : L2.St} {ta tb : TE} {E : XK} {P1 P2 : D → Prop} (h1 : EP K ta σ H fun d _ => P1 d) (h2 : EP K tb σ H fun d _ => P2 d) (he : ∀ d1 d2, P1 d1 → P2 d2 → d1 = d2) (hd : ∀ d, P1 d → Dp 4 d) : ED K (tCall (spD K (R_is 4)) [] E (tCons ta (tCons tb tNil))) σ H (.bl true) :=
  ep_call (ep_cons h1 (ep_cons h2 ea_nil)) fun ds H2 e p => by
    obtain ⟨d1, r1, H3, rfl, e3, p1, d2, r2, H4, rfl, e4, p2, p3⟩ := p
    have p3' : r2 = [] := p3
    subst p3'
    have ed := he d1 d2 p1 p2
    subst ed
    exact ⟨is (.bl true), ⟨rfl, .inl ⟨d1, rfl, hd _ p1⟩⟩, fun _ _ _ x => x⟩
end
/-! ### the first that gives a barred tag -/
def FirstD (ms : List Int) (ties : List (Int × Int)) (past : List Deed) (j : Nat) (d : D) : Prop := (d = .non ∧ noBad ms ties past j) ∨ ∃ (i : Nat) (dd : Deed), d = .int (i : Int) ∧ i < j ∧ past[i]? = some dd ∧ badAt ms ties past i dd = true ∧ noBad ms ties past i
theorem FirstD.uniq {ms : List Int} {ties : List (Int × Int)} {past : List Deed} {j : Nat} {d1 d2 : D} (h1 : FirstD ms ties past j d1) (h2 : FirstD ms ties past j d2) : d1 = d2 := by
  rcases h1 with ⟨rfl, n1⟩ | ⟨i, dd, rfl, hi, g1, g2, g3⟩
  · rcases h2 with ⟨rfl, _⟩ | ⟨i, dd, rfl, hi, g1, g2, g3⟩
    · rfl
    · have := n1 i dd hi g1
      rw [this] at g2
      cases g2
  · rcases h2 with ⟨rfl, n1⟩ | ⟨i', dd', rfl, hi', g1', g2', g3'⟩
    · have := n1 i dd hi g1
      rw [this] at g2
      cases g2
    · rcases Nat.lt_trichotomy i i' with h | h | h
      · have := g3' i dd h g1
        rw [this] at g2
        cases g2
      · rw [h]
      · have := g3 i' dd' h g1'
        rw [this] at g2'
        cases g2'
theorem FirstD.sca {ms : List Int} {ties : List (Int × Int)} {past : List Deed} {j : Nat} {d : D} (h : FirstD ms ties past j d) : sca d = true := by
  rcases h with ⟨rfl, _⟩ | ⟨i, dd, rfl, _⟩ <;> rfl
/-! ### runs -/
theorem Run.st {n : Nat} {k : Int} {p : List Deed} {st : St1} (h : Run n k p st) : stF n p = st := by
  induction h with
  | nil => rfl
  | give h _ _ _ _ _ ih => rw [stF_more, ih]
  | back h _ _ _ ih => rw [stF_more, ih]
theorem get_app {α : Type} {l : List α} {a x : α} {i : Nat} (h : (l ++ [a])[i]? = some x) : (i < l.length ∧ l[i]? = some x) ∨ (i = l.length ∧ x = a) := by
  rcases Nat.lt_or_ge i l.length with hi | hi
  · rw [List.getElem?_append_left hi] at h
    exact .inl ⟨hi, h⟩
  · have hl := (List.getElem?_eq_some_iff.mp h).1
    rw [List.length_append, List.length_singleton] at hl
    have e : i = l.length := by omega
    subst e
    rw [List.getElem?_append_right (Nat.le_refl _), Nat.sub_self] at h
    exact .inr ⟨rfl, (Option.some.inj h).symm⟩
theorem Run.dok {n : Nat} {k : Int} {p : List Deed} {st : St1} (h : Run n k p st) : ∀ j dd, p[j]? = some dd → DOk (stF n (p.take j)) dd ∧ overK k dd = false ∧ 0 ≤ tagD dd := by
  induction h with
  | nil => exact fun j dd h => by simp at h
  | @give p st r t h r0 r1 hf t0 t1 ih =>
    intro j dd hd
    rcases get_app hd with ⟨hj, hd⟩ | ⟨rfl, rfl⟩
    · rw [List.take_append_of_le_length (by omega)]
      exact ih j dd hd
    · rw [List.take_left' rfl, h.st]
      refine ⟨⟨r0, by rw [h.ok.1]; exact r1, hf, fun r' t' e => ?_⟩, ?_, t0⟩
      · cases e
        exact t0
      · show (true && decide (k ≤ t)) = false
        rw [decide_eq_false (by omega)]
        rfl
  | @back p st r h r0 r1 hf ih =>
    intro j dd hd
    rcases get_app hd with ⟨hj, hd⟩ | ⟨rfl, rfl⟩
    · rw [List.take_append_of_le_length (by omega)]
      exact ih j dd hd
    · rw [List.take_left' rfl, h.st]
      exact ⟨⟨r0, by rw [h.ok.1]; exact r1, hf, fun r' t' e => nomatch e⟩, rfl, Int.le_refl _⟩
theorem one_some {step : St1 → Deed → St1} {k : Int} {st : St1} {dd : Deed} (h : DOk st dd) (ho : overK k dd = false) : one step k (some st) (eD dd) = some (step st dd) := by
  show (dOf st (eD dd)).bind _ = _
  rw [dOf_of h]
  show (if overK k dd = true then none else some _) = _
  rw [if_neg (by rw [ho]; exact Bool.false_ne_true)]
theorem Run.past {n : Nat} {k : Int} {p : List Deed} {st : St1} (h : Run n k p st) : pastRun doneL k (List.replicate n (false, [])) (p.map eD) = some st := by
  induction h with
  | nil => rfl
  | @give p st r t h r0 r1 hf t0 t1 ih =>
    unfold pastRun at ih ⊢
    rw [List.map_append, List.foldl_append, ih]
    refine one_some ⟨r0, by rw [h.ok.1]; exact r1, hf, fun r' t' e => ?_⟩ ?_
    · cases e
      exact t0
    · show (true && decide (k ≤ t)) = false
      rw [decide_eq_false (by omega)]
      rfl
  | @back p st r h r0 r1 hf ih =>
    unfold pastRun at ih ⊢
    rw [List.map_append, List.foldl_append, ih]
    exact one_some ⟨r0, by rw [h.ok.1]; exact r1, hf, fun r' t' e => nomatch e⟩ rfl
theorem Run.isPast {n : Nat} {k : Int} {p : List Deed} {st : St1} (h : Run n k p st) : pastB doneL k (List.replicate n (false, [])) (.tup (p.map eD)) = true := by
  show (pastRun doneL k _ (p.map eD)).isSome = true
  rw [h.past]
  rfl
theorem pastB_start (ms : List Int) (k : Int) (d : D) : pastB (wdL ms) k (List.replicate ms.length (false, [])) d = pastB doneL k (List.replicate ms.length (false, [])) d := by
  have h := pastB_cut ms k (List.replicate ms.length (false, [])) d
  rw [cut_start] at h
  exact h
end W1

set_option maxRecDepth 100000
set_option maxHeartbeats 4000000
namespace W1
open PySem PyProof.Rows L2
local macro_rules | `(tactic| walk_at "rp") => `(tactic| first | assumption | exact Rp.int _ | exact Rp.bl _ | exact Rp.str _ | exact Rp.non | exact Rp.obj _ | (refine Rp.le (by assumption) ?_; walk_at "rp"))
local macro_rules | `(tactic| walk_at "ed") => `(tactic| first
  | exact ed_int | exact ed_str | exact ed_bl | exact ed_non
  | (refine ed_var rfl ?_; walk_at "rp")
  | (refine ed_ixT (ds := [_, _]) ?_ ed_int (by decide) rfl; walk_at "ed")
  | (refine ed_I0 ?_ ?_ <;> walk_at "ed")
  | (refine ed_B0 ?_ ?_ <;> walk_at "ed")
  | (refine ed_eqS ?_ ?_ rfl rfl rfl <;> walk_at "ed")
  | assumption)
local macro_rules | `(tactic| walk_at "ea") => `(tactic| first | exact ea_nil | (refine ea_cons ?_ ?_; walk_at "ed"; walk_at "ea"))

theorem eb_or3 {t u : TT} {σ : L2.St} {H : Hp} {b : Bool} (h : EB t σ H b) : EB t σ H b := h
section
variable {P : Program} {w : World} {K : PySem.W.Frag} {mg : Str → Option Value} {base : Heap} {C : Addr}
def R_lispast : List D → Hp → Pd → Prop := fun ds H P => ∃ (ms : List Int) (ties : List (Int × Int)) (k : Int) (d : D), ds = [eW ms ties, .int k, d] ∧ PartsOk ms ties ∧ Th H d ∧ (∀ xs, d = .tup xs → xs.length ≤ 1000 ∧ ∀ x ∈ xs, Bd x) ∧ P = is (.bl (pastB doneL k (List.replicate ms.length (false, [])) d))
theorem ok_lispast (T : HTxt mg) (g : GDef K mg "_law_is_past" s__law_is_past ["_law_parts_here", "_law_k", "_law_thing"]) (G_law_start : Def P w K mg base 1 "_law_start" ["_law_parts_here"] (spD K R_start))
    (G_law_deed_can : Def P w K mg base 2 "_law_deed_can" ["_law_state", "_law_thing"] (spD K R_can)) (G_law_done : Def P w K mg base 1 "_law_done" ["_law_state", "_law_deed"] (spF K R_done)) : Def P w K mg base 4 "_law_is_past" ["_law_parts_here", "_law_k", "_law_thing"] (spD K R_lispast) := by
  refine defD g sc__law_is_past (fun ds H Pd h => ?_) fun cdv A outer s f H vs ds Pd Q E hr r h q => ?_
  · obtain ⟨ms, ties, k, d, rfl, _⟩ := h
    rfl
  obtain ⟨ms, ties, k, d, rfl, ok, ht, h5, rfl⟩ := h
  obtain ⟨v1, v2, v3, rfl, r1, r2, r3⟩ := rps3 r
  refine ⟨_, (pss_cons (ps_set (i := 3) sc__law_is_past.nd rfl (Or.inl rfl) (pe_def G_law_start (hr.mono (by decide)) (pa_cons (pv 0) pa_nil)))
    (pss_cons (ps_if (pt_not (pt_val (pe_callB (kc_isi (K := K)) (by rfl) T.n_isinstance boot_isinstance (pa_cons (pv 2) (pa_cons (pe_bltn (v := V.ty "tuple") (by rfl) T.n_tuple boot_tuple rfl) pa_nil)))))
      (pss_one (ps_ret pe_bl))
      pss_nil)
    (pss_cons (ps_for PassesOwn.never rfl (kpi_tup (K := K) (pv 2)) (pg_name (i := 4) sc__law_is_past.nd rfl (Or.inl rfl))
      (pss_cons (ps_if (PW.pt (pw_or (pt_not (pt_val (pe_def G_law_deed_can (hr.mono (by decide)) (pa_cons (pv 3) (pa_cons (pv 4) pa_nil))))) (pw_or1 (PW.pt (pw_and (pt_cmpR op_eq (pe_ix (kix_tup (K := K)) (pv 4) pe_int (fun _ _ => rfl)) pe_str (nomark _)) (pw_and1 (pt_cmpR op_ge (pe_ix (kix_tup (K := K)) (pv 4) pe_int (fun _ _ => rfl)) (pv 1) (nomark _))))))))
      (pss_one (ps_ret pe_bl))
      pss_nil)
    (pss_one (ps_set (i := 3) sc__law_is_past.nd rfl (Or.inl rfl) (pe_def G_law_done (hr.mono (by decide)) (pa_cons (pv 3) (pa_cons (pv 4) pa_nil)))))))
    (pss_one (ps_ret pe_bl))))), ?_⟩
  refine q_asgD (K := K) (d := eS (List.replicate ms.length (false, []))) (ed_call (ea_cons (ed_var rfl r1) ea_nil) fun H1 _ => ⟨ms, ties, rfl, ok.few, rfl⟩) fun v4 H1 e1 r4 => ?_
  by_cases hd : tupB d = false
  · refine q_whenB (b := true) (eb_eq (eb_not (et_B (K := K) (ed_isTup (ed_var rfl (r3.le e1)) (ht.le e1).tk))) (by rw [hd]; rfl)) (fun _ H2 e2 => ?_) fun h => nomatch h
    exact s_retD ed_bl fun v H3 e3 r => q v _ H3 ((e1.trans e2).trans e3) (by rw [pastB_not hd]) r
  obtain ⟨xs, rfl⟩ : ∃ xs, d = .tup xs := by
    cases d with
    | tup xs => exact ⟨xs, rfl⟩
    | _ => exact absurd rfl hd
  obtain ⟨hz, hi⟩ := ht.items
  obtain ⟨h1000, hbd⟩ := h5 xs rfl
  refine q_no (b := false) (eb_eq (eb_not (et_B (K := K) (ed_isTup (ed_var rfl (r3.le e1)) (ht.le e1).tk))) rfl) rfl fun H2 e2 => ?_
  have e12 := e1.trans e2
  refine q_forT2 (K := K) (ds := xs) (ed_var rfl (r3.le e12)) fun H4 e4 => ?_
  have e14 := e12.trans e4
  refine ⟨fun i σ H' => ∃ v4 y5 st, σ = [some v1, some v2, some v3, some v4, y5] ∧ Le H4 H' ∧ Rp K H' v4 (eS st) ∧ pastRun doneL k (List.replicate ms.length (false, [])) (xs.take i) = some st ∧ Rch ms.length i st,
    ⟨v4, none, _, rfl, Le.refl _, r4.le (e2.trans e4), by rw [List.take_zero]; rfl, rch_start _⟩, fun i σ' H' _ ⟨_, _, _, _, e, _⟩ => e, ?_, ?_⟩
  · rintro i d v σ' H5 hdi rv ⟨v4, y5, st, rfl, e5, r4, hrun, hch⟩
    have e15 := e14.trans e5
    have hil : i < xs.length := (List.getElem?_eq_some_iff.mp hdi).1
    have td : Th H5 d := (hi d (List.mem_of_getElem? hdi)).le e15
    have bd : Bd d := hbd d (List.mem_of_getElem? hdi)
    have hm := run_more (step := doneL) (k := k) (st := List.replicate ms.length (false, [])) hdi
    rw [hrun] at hm
    have sok : StOk st := hch.ok ok.few (by omega)
    have hcan : EB (tNot (tB (tCall (spD K R_can) [] E0 (tCons (tVar 3) (tCons (tVar 4) tNil))))) [some v1, some v2, some v3, some v4, some v] H5 (!(dOf st d).isSome) := eb_not (et_B (K := K) (ed_call (ea_cons (ed_var rfl r4) (ea_cons (ed_var rfl rv) ea_nil)) fun H6 e6 => ⟨st, d, rfl, td.le e6, bd, rfl⟩))
    cases h : dOf st d with
    | none =>
      rw [h] at hcan
      refine q_whenB (b := true) (eb_eq (eb_or (a := true) (b := true) hcan fun h => nomatch h) rfl) (fun _ H6 e6 => ?_) fun h => nomatch h
      exact s_retD ed_bl fun v H7 e7 r => q v _ H7 ((e15.trans e6).trans e7) (by
        show D.bl false = D.bl (pastRun doneL k _ xs).isSome
        have h2 : pastRun doneL k (List.replicate ms.length (false, [])) (xs.take (i + 1)) = none := by
          rw [hm]
          show (dOf st d).bind _ = none
          rw [h]
          rfl
        rw [run_dead h2]
        rfl) r
    | some dd =>
      rw [h] at hcan
      obtain ⟨rfl, dok⟩ := dOf_ok h
      refine q_whenB (b := overK k dd) (eb_eq (eb_or (a := false) (b := overK k dd) hcan fun _ => ed_over (K := K) (ed_var rfl rv) (ed_var rfl (r2.le e15))) (Bool.false_or _)) (fun ho H6 e6 => ?_) fun ho H6 e6 => ?_
      · exact s_retD ed_bl fun v H8 e8 r => q v _ H8 ((e15.trans e6).trans e8) (by
          show D.bl false = D.bl (pastRun doneL k _ xs).isSome
          have h2 : pastRun doneL k (List.replicate ms.length (false, [])) (xs.take (i + 1)) = none := by
            rw [hm]
            show (dOf st (eD dd)).bind _ = none
            rw [h]
            show (if overK k dd = true then none else some _) = none
            rw [if_pos ho]
          rw [run_dead h2]
          rfl) r
      · refine s_asgD (K := K) (d := eS (doneL st dd)) (EFD.ed (ef_call (ea_cons (ed_var rfl (r4.le e6)) (ea_cons (ed_var rfl (rv.le e6)) ea_nil)) fun H7 _ => ⟨st, dd, rfl, sok, dok.r0, dok.r1, rfl⟩)) fun v H8 e8 r8 => ?_
        refine ⟨v, _, _, rfl, (e5.trans e6).trans e8, r8, ?_, hch.done dok⟩
        rw [hm]
        show (dOf st (eD dd)).bind _ = _
        rw [h]
        show (if overK k dd = true then none else some _) = _
        rw [if_neg (by rw [ho]; exact Bool.false_ne_true)]
  · rintro σ' H5 ⟨v4, y5, st, rfl, e5, r4, hrun, _⟩
    rw [List.take_length] at hrun
    exact s_retD ed_bl fun v H6 e6 r => q v _ H6 ((e14.trans e5).trans e6) (by
      show D.bl true = D.bl (pastRun doneL k _ xs).isSome
      rw [hrun]
      rfl) r
end
/-! ### several names at once -/
section
variable {K : PySem.W.Frag} {σ : L2.St} {H H' : Hp} {ta te : TE} {D1 : Ends} {tu tz : TS} {g : TG} {vs : List Nat}
theorem s_tup2A {i j : Nat} {PA : List D → Hp → Prop} {A : TA} (h : EA K A σ H PA) (hl : ∀ ds H1, PA ds H1 → ds.length = 2)
    (k : ∀ v w d1 d2 H1, Le H H1 → PA [d1, d2] H1 → Rp K H1 v d1 → Rp K H1 w d2 → ∀ H2, Le H1 H2 → D1.nx ((σ.set i (some v)).set j (some w)) H2) : tAsg (tTup A) (gTup K 2 (gCons (gName i) (gCons (gName j) gNil))) D1 σ H := h H (Le.refl _) _ fun us ds H1 e p r => by
  have l2 := hl ds H1 p
  refine ⟨by rw [r.len, l2]; decide, fun a na => ?_⟩
  obtain ⟨d1, d2, rfl⟩ : ∃ d1 d2, ds = [d1, d2] := by
    match ds, l2 with
    | [d1, d2], _ => exact ⟨d1, d2, rfl⟩
  obtain ⟨w1, w2, rfl, r1, r2⟩ := rps2 r
  exact ⟨a, _, rfl, Evl.st_of upd_same, rfl, _, _, rfl, _, _, rfl, rfl, k _ _ _ _ H1 e p r1 r2 _ (Le.new na)⟩
theorem q_tup2A {i j : Nat} {PA : List D → Hp → Prop} {A : TA} (h : EA K A σ H PA) (hl : ∀ ds H1, PA ds H1 → ds.length = 2)
    (k : ∀ v w d1 d2 H1, Le H H1 → PA [d1, d2] H1 → Rp K H1 v d1 → Rp K H1 w d2 → ∀ H2, Le H1 H2 → tz D1 ((σ.set i (some v)).set j (some w)) H2) : tSeq (tAsg (tTup A) (gTup K 2 (gCons (gName i) (gCons (gName j) gNil)))) tz D1 σ H := s_tup2A (D1 := { D1 with nx := tz D1 }) h hl k
theorem s_par3 {i j l : Nat} {PA : List D → Hp → Prop} {A : TA} (h : EA K A σ H PA) (hl : ∀ ds H1, PA ds H1 → ds.length = 3)
    (k : ∀ v w u d1 d2 d3 H1, Le H H1 → PA [d1, d2, d3] H1 → Rp K H1 v d1 → Rp K H1 w d2 → Rp K H1 u d3 → D1.nx (((σ.set i (some v)).set j (some w)).set l (some u)) H1) : tPar3 i j l A D1 σ H := h H (Le.refl _) _ fun us ds H1 e p r => by
  have l3 := hl ds H1 p
  obtain ⟨d1, d2, d3, rfl⟩ : ∃ d1 d2 d3, ds = [d1, d2, d3] := by
    match ds, l3 with
    | [d1, d2, d3], _ => exact ⟨d1, d2, d3, rfl⟩
  obtain ⟨w1, w2, w3, rfl, r1, r2, r3⟩ := rps3 r
  exact ⟨_, _, _, rfl, k _ _ _ _ _ _ H1 e p r1 r2 r3⟩
theorem q_par3 {i j l : Nat} {PA : List D → Hp → Prop} {A : TA} (h : EA K A σ H PA) (hl : ∀ ds H1, PA ds H1 → ds.length = 3)
    (k : ∀ v w u d1 d2 d3 H1, Le H H1 → PA [d1, d2, d3] H1 → Rp K H1 v d1 → Rp K H1 w d2 → Rp K H1 u d3 → tz D1 (((σ.set i (some v)).set j (some w)).set l (some u)) H1) : tSeq (tPar3 i j l A) tz D1 σ H := s_par3 (D1 := { D1 with nx := tz D1 }) h hl k
theorem Th.updL {H : Hp} {l : Addr} {ws xs : List V} (hl : H l = some (.lst ws)) {d : D} (h : Th H d) : Th (upd H l (.lst xs)) d := by
  induction h with
  | sc h => exact .sc h
  | tup hl _ ih => exact .tup hl ih
  | @ob v h =>
    obtain ⟨a, rfl, h⟩ := h
    refine .ob ⟨a, rfl, ?_⟩
    by_cases e : a = l
    · subst e
      exact .inl ⟨xs, upd_same⟩
    · rw [upd_ne e]
      exact h
/-- [.. for x in range(5)] + [y] -/
theorem ep_five {ra : TA} {j i0 : Nat} {v0 : V} {d0 : D} (h : EDA K ra σ H [.int 5]) (hw : ∀ x, wipe ((wipe σ vs).set j (some x)) vs = wipe σ vs) (he : ∀ (i : Nat) H1, Le H H1 → EP K te ((wipe σ vs).set j (some (.int (i : Int)))) H1 BentD)
    (h0 : σ[i0]? = some (some v0)) (r0 : Rp K H v0 d0) (b0 : BentD d0 H) : EP K (tOp rCat (tLc (iRng1 ra) (gName j) tYes te vs) (tLst (tCons (tVar i0) tNil))) σ H (AllL BentD 6) := fun H1 e Q q => h H1 e _ fun us es H2 e2 p rr => by
  have p' : es = [.int 5] := p
  subst p'
  obtain ⟨v, rfl, r1⟩ := rps1 rr
  have ev := rp_int r1
  subst ev
  refine ⟨5, rfl, by decide, by decide, fun L hL => lc_it (walk_range (lo := 0) (n := 5)) (fun i H' => H2 L = none ∧ Le H2 H' ∧ ∃ ws acc, H' L = some (.lst ws) ∧ Rps K H' ws acc ∧ acc.length = i ∧ ∀ d ∈ acc, BentD d H') ⟨hL, Le.new hL, [], [], upd_same, .nil, rfl, fun d hd => nomatch hd⟩ (fun _ _ _ _ => trivial) ?_ (fun H' c => ?_)⟩
  · rintro i x H' _ hi ⟨c1, c2, ws, acc, c3, c4, c5, c6⟩ ⟨rfl, rfl⟩
    have e0 : (0 : Int) + (i : Int) = (i : Int) := Int.zero_add _
    dsimp only
    rw [e0]
    have nh : NotH ws := notH_len (by rw [c4.len, c5]; omega)
    refine ⟨hw _, ?_⟩
    show te _ _ _
    refine he i _ ((e.trans e2).trans c2) _ (Le.refl _) _ fun y d H4 e4 p4 r4 => ?_
    have l4 := e4.lst c3 nh
    refine ⟨ws, l4, Evl.sz_lt (by rw [c4.len, c5]; omega), c1, (c2.trans e4).mut c1, ws ++ [y], acc ++ [d], upd_same, ?_, by rw [List.length_append, c5]; rfl, fun z hz => ?_⟩
    · exact ((c4.le e4).upd l4 fun d hd => ((c6 d hd).1).noL).app (.cons (r4.upd l4 p4.1.noL) .nil)
    · rcases List.mem_append.mp hz with hz | hz
      · exact ⟨((c6 z hz).1.le e4).updL l4, (c6 z hz).2⟩
      · rw [List.mem_singleton.mp hz]
        exact ⟨p4.1.updL l4, p4.2⟩
  · obtain ⟨c1, c2, ws, acc, c3, c4, c5, c6⟩ := c
    refine ⟨v0, h0, by show 1 ≤ sizeLine; decide, fun p np => ?_⟩
    have hLp : L ≠ p := ne_of_none c3 np
    have lp : Le H' (upd H' p (.lst [v0])) := Le.new np
    refine ⟨L, p, ws, [v0], rfl, rfl, by rw [upd_ne hLp]; exact c3, upd_same, by rw [c4.len, c5]; show 5 + 1 ≤ sizeLine; decide, fun z nz => ?_⟩
    have lz : Le (upd H' p (.lst [v0])) (upd (upd H' p (.lst [v0])) z (.lst (ws ++ [v0]))) := Le.new nz
    have le := lp.trans lz
    refine q _ (.lst (acc ++ [d0])) _ ((e2.trans c2).trans le) ⟨_, rfl, by rw [List.length_append, c5]; rfl, fun x hx => ?_⟩ (.lst upd_same (notH_len (by rw [List.length_append, c4.len, c5]; show 5 + 1 ≠ 5; decide)) ((c4.le le).app (.cons (r0.le (((e.trans e2).trans c2).trans le)) .nil)))
    rcases List.mem_append.mp hx with hx | hx
    · exact bent_mono _ _ _ le (c6 x hx)
    · rw [List.mem_singleton.mp hx]
      exact bent_mono _ _ _ (((e.trans e2).trans c2).trans le) b0
/-- a loop over a list that is known by what holds of its items -/
theorem s_forLA {Pc : Pd} {n : Nat} (M : Mono Pc) (h : EP K te σ H (AllL Pc n))
    (k : ∀ H1, Le H H1 → ∃ Pv : Nat → L2.St → Hp → Prop, Pv 0 σ H1 ∧ (∀ i σ' H', i ≤ n → Pv i σ' H' → Le H1 H') ∧
      (∀ i d v σ' H', i < n → Pc d H' → Rp K H' v d → Pv i σ' H' → g v σ' H' fun σ2 H2 => tu (bodyEnds D1 (Pv (i + 1))) σ2 H2) ∧ ∀ σ' H', Pv n σ' H' → D1.nx σ' H') : tFor (iList K te) g tu D1 σ H := h H (Le.refl _) _ fun v d0 H1 e p r => by
  obtain ⟨ds, rfl, hn, hp⟩ := p
  subst hn
  obtain ⟨a, xs, rfl, s, nh, rr⟩ := rp_lst r
  obtain ⟨Pv, h0, hle, hs, hd⟩ := k H1 e
  refine ⟨a, rfl, ⟨xs, SqL.of s⟩, for_it (walk_list (xs := xs)) Pv h0 (fun i σ' H' hi q => SqL.of ((hle i σ' H' (by rw [← rr.len]; exact hi) q).lst s nh)) ?_ (fun σ' H' q => hd σ' H' (by rw [← rr.len]; exact q))⟩
  rintro i x σ' H' _ hi q ⟨rfl, hx⟩
  obtain ⟨d, h1, h2⟩ := rr.at' hx
  have el := hle i σ' _ (by rw [← rr.len]; omega) q
  exact hs i d x σ' _ (by rw [← rr.len]; exact hi) (M _ _ _ el (hp d (List.mem_of_getElem? h1))) (h2.le el) q
end
end W1

set_option maxRecDepth 100000
set_option maxHeartbeats 4000000
namespace W1
open PySem PyProof.Rows L2
local macro_rules | `(tactic| walk_at "rp") => `(tactic| first | assumption | exact Rp.int _ | exact Rp.bl _ | exact Rp.str _ | exact Rp.non | exact Rp.obj _ | (refine Rp.le (by assumption) ?_; walk_at "rp"))
local macro_rules | `(tactic| walk_at "ed") => `(tactic| first
  | exact ed_int | exact ed_str | exact ed_bl | exact ed_non
  | (refine ed_var rfl ?_; walk_at "rp")
  | (refine ed_ixT (ds := [_, _]) ?_ ed_int (by decide) rfl; walk_at "ed")
  | (refine ed_I0 ?_ ?_ <;> walk_at "ed")
  | (refine ed_B0 ?_ ?_ <;> walk_at "ed")
  | (refine ed_eqS ?_ ?_ rfl rfl rfl <;> walk_at "ed")
  | assumption)
local macro_rules | `(tactic| walk_at "ea") => `(tactic| first | exact ea_nil | (refine ea_cons ?_ ?_; walk_at "ed"; walk_at "ea"))

abbrev s_law : Stmt := topS 59
abbrev N_law : List Str := ["_law_script", "_law_hand_here", "_law_turn", "_law_parts_here", "_law_k", "_law_many", "_law_web", "_law_past_here", "_law_state", "_law_standing_here", "_law_first", "_law_at", "_law_deed", "_law_due", "_law_room", "_law_odd", "_law_later", "_law_kept", "_law_thing", "_law_least", "_law_again"]
theorem sc_law : FnScope N_law ["_law_script"] (defScope s_law) := ⟨rfl, rfl, rfl, by decide +kernel, rfl, by decide +kernel, by decide +kernel⟩
theorem passF {X : Cx} : Passes (L2.CX X.prog X.w) X (fun _ _ _ => False) := fun pins σ H s e s' I c => by
  obtain ⟨a, B, H', cls, d, _, _, _, _, _, _, _, h⟩ := c
  exact h.elim
theorem th_eD (dd : Deed) (H : Hp) : Th H (eD dd) := by
  cases dd with
  | give r t =>
    refine .tup (by show 3 ≤ 50000; decide) fun d hd => ?_
    simp only [List.mem_cons, List.not_mem_nil, or_false] at hd
    rcases hd with h | h | h
    · rw [h]; exact .sc rfl
    · rw [h]; exact .sc rfl
    · rw [h]; exact .sc rfl
  | back r =>
    refine .tup (by show 2 ≤ 50000; decide) fun d hd => ?_
    simp only [List.mem_cons, List.not_mem_nil, or_false] at hd
    rcases hd with h | h
    · rw [h]; exact .sc rfl
    · rw [h]; exact .sc rfl
theorem sorted_len : ∀ {a : List Int} {L : List Int}, a.Pairwise (· < ·) → (∀ x ∈ a, x ∈ L) → a.length ≤ L.length
  | [], _, _, _ => Nat.zero_le _
  | x :: a, L, h, hs => by
    obtain ⟨h1, h2⟩ := List.pairwise_cons.mp h
    have hx : x ∈ L := hs x (List.mem_cons_self ..)
    have ih := sorted_len (L := L.erase x) h2 fun y hy => (List.mem_erase_of_ne (by have := h1 y hy; omega)).mpr (hs y (List.mem_cons_of_mem _ hy))
    rw [List.length_erase_of_mem hx] at ih
    have : 0 < L.length := List.length_pos_of_mem hx
    rw [List.length_cons]
    omega
theorem bars_len {ms : List Int} {ties : List (Int × Int)} {st : St1} {r : Int} {m : Nat} (ok : PartsOk ms ties) (h8 : ms.length ≤ 8) (hm : (stAt st r).2.length ≤ m) (h0 : 0 ≤ r) (h1 : r < ms.length) : (barsL ms ties st r).length ≤ m + 8 := by
  unfold barsL
  rw [List.length_append]
  have a1 : (ownL ms st r).length ≤ m := Nat.le_trans (List.length_take_le' _ _) hm
  have a2 := flatMap_len (fun o => shownL (stAt st o)) 1 (rawNear ties r) fun o _ => by
    unfold shownL
    split <;> first | exact List.length_take_le _ _ | exact Nat.zero_le _
  have a3 := near_le ok h8 h0 h1
  omega
def isNonD : D → Bool
  | .non => true
  | _ => false
theorem sqL_le {K : PySem.W.Frag} {H H' : Hp} {a : Addr} {ns : List Int} (e : Le H H') (h : SqL K H a (ns.map V.int)) : SqL K H' a (ns.map V.int) := by
  rcases h with (h | ⟨o, h⟩) | h
  · exact .inl (.inl (e.lst h (notH_ints _)))
  · exact .inl (.inr ⟨o, e.frz h⟩)
  · exact .inr h
section
variable {K : PySem.W.Frag} {σ : L2.St} {H : Hp} {ta te : TE} {C CN : Addr}
theorem ed_isN2 {d : D} (ha : ED K ta σ H d) (n : ∀ v, d ≠ .obj v) : ED K (tOp (fun x y H Q => y = .non ∧ Q (.bl (decide (x = .non))) H) ta (tC .non)) σ H (.bl (isNonD d)) := ed_eq (ed_isN ha n) (by cases d <;> rfl)
theorem ed_after {A : TA} {E : XK} {a : Addr} {ms : List Int} {ties : List (Int × Int)} {st : St1} {dd : Deed} (ha : EDA K A σ H [.obj (.ref a), eT st, eD dd]) (x : WebAt K C H a ms ties) (sok : StOk st) (hl : st.length = ms.length) (ok : DOk st dd) :
    ED K (tCall (spAfter K C CN) [] E A) σ H (eT (wdL ms st dd)) := fun H1 e Q q => ha H1 e _ fun vs ds H2 e2 p r => by
  have p' : ds = [_, _, _] := p
  subst p'
  refine ⟨a, ms, ties, st, eD dd, by rw [List.append_nil]; exact r, x.le (e.trans e2), sok, hl, th_eD dd _, fun h => ?_, fun dd' h v H3 e3 r3 => ?_⟩
  · rw [dOf_of ok] at h
    cases h
  · rw [dOf_of ok] at h
    cases h
    exact q v _ H3 (e2.trans e3) rfl r3
theorem no_is (h : ED K te σ H (.bl true)) : EB (tNot (tB te)) σ H false := eb_eq (eb_not (et_B (K := K) h)) rfl
theorem or_ff {t u : TT} (h1 : EB t σ H false) (h2 : EB u σ H false) : EB (tOr t u) σ H false := eb_eq (eb_or (a := false) (b := false) h1 fun _ => h2) rfl
theorem ed_isnTrue (h : ED K te σ H (.bl true)) : EB (tTest (tOp (fun x y H Q => ∃ a b, x = .bl a ∧ y = .bl b ∧ Q (.bl (!decide (a = b))) H) te (tC (.bl true)))) σ H false := et_test (K := K) (ed_op h ed_bl fun x y H2 _ r1 r2 Q q => ⟨true, true, rp_bl r1, rp_bl r2, q _ _ H2 (Le.refl _) rfl (.bl false)⟩)
end
/-- what comes behind an odd deed, by the law's own books -/
def ltD (ms : List Int) (st : St1) (d : D) : D := match dOf st d with
  | none => .str "deed"
  | some dd => eT (cutSt ms (doneL st dd))
theorem aw_lt (ms : List Int) (st : St1) (d : D) : awD ms (cutSt ms st) d = ltD ms st d := by
  unfold awD ltD
  rw [dOf_cut]
  cases h : dOf st d with
  | none => rfl
  | some dd =>
    obtain ⟨_, ok⟩ := dOf_ok h
    show eT (wdL ms (cutSt ms st) dd) = eT (cutSt ms (doneL st dd))
    rw [cut_wd ok.r0 ok.r1]
theorem dp4_lt {ms : List Int} {st : St1} {d : D} {n m : Nat} (h : Rch n m st) (hn : n ≤ 60) (hm : m + 1 ≤ 5000) : Dp 4 (ltD ms st d) := by
  unfold ltD
  cases hd : dOf st d with
  | none => exact dp4_sc rfl
  | some dd =>
    obtain ⟨_, ok⟩ := dOf_ok hd
    have h1 := cut_ok (ms := ms) ((h.done ok).ok hn hm)
    exact dp4_S (by rw [cut_len, doneL_len, h.len]; exact hn) h1.tags
theorem rch_take {n : Nat} {k : Int} {past : List Deed} {st : St1} (h : Run n k past st) : ∀ j, j ≤ past.length → Rch n j (stF n (past.take j))
  | 0, _ => by
    rw [List.take_zero]
    exact rch_start n
  | j + 1, hj => by
    have hd : past[j]? = some past[j] := List.getElem?_eq_getElem (by omega)
    obtain ⟨ok, _, _⟩ := h.dok j _ hd
    rw [take_more hd, stF_more]
    exact (rch_take h j (by omega)).done ok
def spLaw (K : PySem.W.Frag) : Sp := fun vs H Q _ => ∃ (a : Addr) (ns : List Int), vs = [.ref a] ∧ SqL K H a (ns.map V.int) ∧ ns.length ≤ 63 ∧ ∀ H', Q (.bl true) H'
section
variable {P : Program} {w : World} {K : PySem.W.Frag} {mg : Str → Option Value} {base : Heap} {C CN : Addr}
theorem ok_law {f : Addr} {fd : FuncData} (T : HTxt mg) (F : Fun K "law" "law" s_law f fd) (G_law_hand : Def P w K mg base 1 "_law_hand" ["_law_script"] (spD K (R_hand K))) (G_law_draw : Def P w K mg base 1 "_law_draw" ["_law_hand_here", "_law_many"] (spD K R_draw))
    (G_law_parts : Def P w K mg base 2 "_law_parts" ["_law_hand_here", "_law_most", "_law_memory"] (spD K R_parts)) (G_law_deep_parts : Def P w K mg base 3 "_law_deep_parts" ["_law_hand_here", "_law_most"] (spD K R_deep))
    (G_law_past : Def P w K mg base 3 "_law_past" ["_law_hand_here", "_law_parts_here", "_law_k", "_law_many", "_law_careful"] (spD K R_past)) (G_law_made : Def P w K mg base 7 "_law_made" ["_law_parts_here"] (spD K (R_made K C)))
    (G_law_start : Def P w K mg base 1 "_law_start" ["_law_parts_here"] (spD K R_start)) (Gbegun : Def P w K mg base 1 "begun" ["web"] (spD K (R_begun K C))) (G_law_standing : Def P w K mg base 1 "_law_standing" ["_law_parts_here", "_law_state"] (spD K R_lstand))
    (G_law_is : Def P w K mg base 5 "_law_is" ["_law_told", "_law_due"] (spD K (R_is 4))) (Gstanding_of : Def P w K mg base 2 "standing_of" ["web", "past"] (spD K (R_so K C))) (Gbarred : Def P w K mg base 6 "barred" ["web", "standing", "room"] (spD K (R_barred K C)))
    (G_law_bars : Def P w K mg base 2 "_law_bars" ["_law_parts_here", "_law_state", "_law_room"] (spD K R_bars)) (G_law_odd_deed : Def P w K mg base 4 "_law_odd_deed" ["_law_hand_here", "_law_parts_here", "_law_k"] (spD K R_odd)) (G_law_deed_can : Def P w K mg base 2 "_law_deed_can" ["_law_state", "_law_thing"] (spD K R_can))
    (G_law_done : Def P w K mg base 1 "_law_done" ["_law_state", "_law_deed"] (spF K R_done)) (G_law_after_word : Def P w K mg base 8 "_law_after_word" ["_law_web", "_law_standing_here", "_law_deed"] (spD K (R_aw K C))) (Gafter : DefX P w K mg base 6 "after" ["web", "standing", "deed"] (spAfter K C CN))
    (Gfirst_barred : Def P w K mg base 8 "first_barred" ["web", "past"] (spD K (R_first K C))) (Gis_past : Def P w K mg base 6 "is_past" ["web", "k", "thing"] (spD K (R_ispast K C))) (G_law_is_past : Def P w K mg base 4 "_law_is_past" ["_law_parts_here", "_law_k", "_law_thing"] (spD K R_lispast))
    (G_law_bent_past : Def P w K mg base 5 "_law_bent_past" ["_law_hand_here", "_law_parts_here", "_law_k", "_law_past_here"] (spD K R_bent)) :
    FnOk P w K mg base CX0 9 f fd ["_law_script"] (spLaw K) := by
  obtain ⟨fA, fdA, hmA, hkA, hbA, GA⟩ := Gafter
  refine F.ok sc_law (fun vs H Q E h => ?_) (fun cdv A outer s H vs Q E hr h => ?_)
  · obtain ⟨a, ns, rfl, _⟩ := h
    rfl
  obtain ⟨a, ns, rfl, hS, hl, q⟩ := h
  refine ⟨_, (pss_cons (ps_set (i := 1) sc_law.nd rfl (Or.inr rfl) (pe_def G_law_hand (hr.mono (by decide)) (pa_cons (pv 0) pa_nil)))
    (pss_cons (ps_for PassesOwn.never rfl (pi_range1 (by rfl) T.n_range (pa_cons pe_int pa_nil)) (pg_name (i := 2) sc_law.nd rfl (Or.inl rfl))
      (pss_cons (ps_asg (pe_tup (pa_cons (pe_def G_law_parts (hr.mono (by decide)) (pa_cons (pv 1) (pa_cons pe_int (pa_cons pe_int pa_nil)))) (pa_cons (pe_op op_add pe_int (pe_def G_law_draw (hr.mono (by decide)) (pa_cons (pv 1) (pa_cons pe_int pa_nil)))) (pa_cons (pe_def G_law_draw (hr.mono (by decide)) (pa_cons (pv 1) (pa_cons pe_int pa_nil))) pa_nil)))) (kpg_tup (K := K) (n := 3) rfl (pgs_cons (pg_name (i := 3) sc_law.nd rfl (Or.inr rfl)) (pgs_cons (pg_name (i := 4) sc_law.nd rfl (Or.inr rfl)) (pgs_cons (pg_name (i := 5) sc_law.nd rfl (Or.inl rfl)) pgs_nil)))))
    (Evl.pss_cut (ps_if (PW.pt (pw_and (pt_cmpR op_eq (pv 2) pe_int (nomark _)) (pw_and1 (pt_cmpR op_eq (pe_def G_law_draw (hr.mono (by decide)) (pa_cons (pv 1) (pa_cons pe_int pa_nil))) pe_int (nomark _)))))
      (pss_one (ps_asg (pe_tup (pa_cons (pe_def G_law_deep_parts (hr.mono (by decide)) (pa_cons (pv 1) (pa_cons pe_int pa_nil))) (pa_cons (pe_op op_add pe_int (pe_def G_law_draw (hr.mono (by decide)) (pa_cons (pv 1) (pa_cons pe_int pa_nil)))) (pa_cons (pe_op op_add pe_int (pe_def G_law_draw (hr.mono (by decide)) (pa_cons (pv 1) (pa_cons pe_int pa_nil)))) pa_nil)))) (kpg_tup (K := K) (n := 3) rfl (pgs_cons (pg_name (i := 3) sc_law.nd rfl (Or.inr rfl)) (pgs_cons (pg_name (i := 4) sc_law.nd rfl (Or.inr rfl)) (pgs_cons (pg_name (i := 5) sc_law.nd rfl (Or.inl rfl)) pgs_nil))))))
      pss_nil)
    (pss_cons (ps_asg (pe_tup (pa_cons (pe_def G_law_made (hr.mono (by decide)) (pa_cons (pv 3) pa_nil)) (pa_cons (pe_def G_law_past (hr.mono (by decide)) (pa_cons (pv 1) (pa_cons (pv 3) (pa_cons (pv 4) (pa_cons (pv 5) (pa_cons pe_int pa_nil)))))) pa_nil))) (kpg_tup (K := K) (n := 2) rfl (pgs_cons (pg_name (i := 6) sc_law.nd rfl (Or.inl rfl)) (pgs_cons (pg_name (i := 7) sc_law.nd rfl (Or.inr rfl)) pgs_nil))))
    (pss_cons (ps_par3 (i := 8) (j := 9) (l := 10) rfl sc_law.nd rfl rfl rfl (by decide) (by decide) (by decide) rfl rfl rfl (pa_cons (pe_def G_law_start (hr.mono (by decide)) (pa_cons (pv 3) pa_nil)) (pa_cons (pe_def Gbegun (hr.mono (by decide)) (pa_cons (pv 6) pa_nil)) (pa_cons pe_non pa_nil))) (by rfl))
    (pss_cons (ps_for PassesOwn.never rfl (kpi_enumT (K := K) (by rfl) T.n_enumerate (pa_cons (pv 7) pa_nil)) (kpg_tup (K := K) (n := 2) rfl (pgs_cons (pg_name (i := 11) sc_law.nd rfl (Or.inl rfl)) (pgs_cons (pg_name (i := 12) sc_law.nd rfl (Or.inl rfl)) pgs_nil)))
      (pss_cons (ps_set (i := 13) sc_law.nd rfl (Or.inl rfl) (pe_def G_law_standing (hr.mono (by decide)) (pa_cons (pv 3) (pa_cons (pv 8) pa_nil))))
    (pss_cons (ps_if (PW.pt (pw_or (pt_not (pt_val (pe_def G_law_is (hr.mono (by decide)) (pa_cons (pv 9) (pa_cons (pv 13) pa_nil))))) (pw_or1 (pt_not (pt_val (pe_def G_law_is (hr.mono (by decide)) (pa_cons (pe_def Gstanding_of (hr.mono (by decide)) (pa_cons (pv 6) (pa_cons (pe_slice (ksl_tup (K := K)) (pv 7) po_none (po_some (pv 11))) pa_nil))) (pa_cons (pv 13) pa_nil))))))))
      (pss_one (ps_ret pe_bl))
      pss_nil)
    (pss_cons (ps_for PassesOwn.never rfl (pi_range1 (by rfl) T.n_range (pa_cons (pe_callB (kc_len (K := K)) (by rfl) T.n_len boot_len (pa_cons (pe_ix (kix_tup (K := K)) (pv 3) pe_int (fun _ _ => rfl)) pa_nil)) pa_nil)) (pg_name (i := 14) sc_law.nd rfl (Or.inl rfl))
      (pss_one (ps_if (pt_not (pt_val (pe_def G_law_is (hr.mono (by decide)) (pa_cons (pe_def Gbarred (hr.mono (by decide)) (pa_cons (pv 6) (pa_cons (pv 9) (pa_cons (pv 14) pa_nil)))) (pa_cons (pe_def G_law_bars (hr.mono (by decide)) (pa_cons (pv 3) (pa_cons (pv 8) (pa_cons (pv 14) pa_nil)))) pa_nil)))))
      (pss_one (ps_ret pe_bl))
      pss_nil)))
    (Evl.pss_cut (ps_if (PW.pt (pw_and (pt_cmpR op_isN (pv 10) pe_non (nomark _)) (pw_and (pt_cmpR op_eq (pe_ix (kix_tup (K := K)) (pv 12) pe_int (fun _ _ => rfl)) pe_str (nomark _)) (pw_and1 (pt_cmpR (kop_in (K := K)) (pe_ix (kix_tup (K := K)) (pv 12) pe_int (fun _ _ => rfl)) (pe_def G_law_bars (hr.mono (by decide)) (pa_cons (pv 3) (pa_cons (pv 8) (pa_cons (pe_ix (kix_tup (K := K)) (pv 12) pe_int (fun _ _ => rfl)) pa_nil)))) (by rfl))))))
      (pss_one (ps_set (i := 10) sc_law.nd rfl (Or.inl rfl) (pv 11)))
      pss_nil)
    (pss_cons (ps_set (i := 15) sc_law.nd rfl (Or.inl rfl) (pe_def G_law_odd_deed (hr.mono (by decide)) (pa_cons (pv 1) (pa_cons (pv 3) (pa_cons (pv 4) pa_nil)))))
    (pss_cons (ps_set (i := 16) sc_law.nd rfl (Or.inl rfl) (pe_ifExp (pt_val (pe_def G_law_deed_can (hr.mono (by decide)) (pa_cons (pv 8) (pa_cons (pv 15) pa_nil)))) (pe_def G_law_standing (hr.mono (by decide)) (pa_cons (pv 3) (pa_cons (pe_def G_law_done (hr.mono (by decide)) (pa_cons (pv 8) (pa_cons (pv 15) pa_nil))) pa_nil))) pe_str))
    (pss_cons (ps_if (pt_not (pt_val (pe_def G_law_is (hr.mono (by decide)) (pa_cons (pe_def G_law_after_word (hr.mono (by decide)) (pa_cons (pv 6) (pa_cons (pv 9) (pa_cons (pv 15) pa_nil)))) (pa_cons (pv 16) pa_nil)))))
      (pss_one (ps_ret pe_bl))
      pss_nil)
    (pss_cons (ps_par (i := 17) (j := 9) (by rfl) sc_law.nd rfl rfl (by decide) rfl rfl (pa_cons (pv 9) (pa_cons (pe_call GA (hr.mono (by decide)) (by rfl) hmA hkA hbA .nil passF (pa_cons (pv 6) (pa_cons (pv 9) (pa_cons (pv 12) pa_nil)))) pa_nil)) (by rfl))
    (pss_cons (ps_set (i := 8) sc_law.nd rfl (Or.inl rfl) (pe_def G_law_done (hr.mono (by decide)) (pa_cons (pv 8) (pa_cons (pv 12) pa_nil))))
    (pss_one (ps_if (pt_cmpR (kop_neD (K := K) hr.units) (pv 17) (pv 13) (nomark _))
      (pss_one (ps_ret pe_bl))
      pss_nil))))))))))))
    (pss_cons (ps_if (PW.pt (pw_or (pt_not (pt_val (pe_def G_law_is (hr.mono (by decide)) (pa_cons (pe_def Gstanding_of (hr.mono (by decide)) (pa_cons (pv 6) (pa_cons (pv 7) pa_nil))) (pa_cons (pv 9) pa_nil))))) (pw_or1 (pt_not (pt_val (pe_def G_law_is (hr.mono (by decide)) (pa_cons (pe_lst (pa_cons (pe_def Gfirst_barred (hr.mono (by decide)) (pa_cons (pv 6) (pa_cons (pv 7) pa_nil))) pa_nil)) (pa_cons (pe_lst (pa_cons (pv 10) pa_nil)) pa_nil))))))))
      (pss_one (ps_ret pe_bl))
      pss_nil)
    (pss_cons (ps_if (PW.pt (pw_or (pt_not (pt_val (pe_def G_law_is (hr.mono (by decide)) (pa_cons (pv 9) (pa_cons (pe_def G_law_standing (hr.mono (by decide)) (pa_cons (pv 3) (pa_cons (pv 8) pa_nil))) pa_nil))))) (pw_or1 (pt_cmpR op_isnot_bl (pe_def Gis_past (hr.mono (by decide)) (pa_cons (pv 6) (pa_cons (pv 4) (pa_cons (pv 7) pa_nil)))) pe_bl (nomark _)))))
      (pss_one (ps_ret pe_bl))
      pss_nil)
    (pss_one (ps_for PassesOwn.never rfl (kpi_list (K := K) (pe_op op_cat (pe_lc (own := [("_law_again", 20)]) rfl sc_law.nd (pi_range1 (by rfl) T.n_range (pa_cons pe_int pa_nil)) (blkOk_by (N := N_law) (sc := defScope s_law) (by decide +kernel)) (fun _ _ _ _ _ => (pg_name (i := 20) sc_law.nd rfl (Or.inl rfl))) (fun _ _ _ _ _ => pts_nil) (fun _ _ _ _ _ => (pe_def G_law_bent_past (hr.mono (by decide)) (pa_cons (pv 1) (pa_cons (pv 3) (pa_cons (pv 4) (pa_cons (pv 7) pa_nil))))))) (pe_lst (pa_cons (pv 7) pa_nil)))) (pg_name (i := 18) sc_law.nd rfl (Or.inl rfl))
      (pss_cons (ps_set (i := 19) sc_law.nd rfl (Or.inl rfl) (pe_op op_add pe_int (pe_def G_law_draw (hr.mono (by decide)) (pa_cons (pv 1) (pa_cons (pv 4) pa_nil)))))
    (pss_one (ps_if (pt_not (pt_val (pe_def G_law_is (hr.mono (by decide)) (pa_cons (pe_lst (pa_cons (pe_def Gis_past (hr.mono (by decide)) (pa_cons (pv 6) (pa_cons (pv 19) (pa_cons (pv 18) pa_nil)))) pa_nil)) (pa_cons (pe_lst (pa_cons (pe_def G_law_is_past (hr.mono (by decide)) (pa_cons (pv 3) (pa_cons (pv 19) (pa_cons (pv 18) pa_nil)))) pa_nil)) pa_nil)))))
      (pss_one (ps_ret pe_bl))
      pss_nil)))))))))))))
    (pss_one (ps_ret pe_bl)))), ?_⟩
  -- hand
  refine q_asg (K := K) (P := fun d H2 => ∃ h, d = .obj (.ref h) ∧ Hand H2 h) (ed_call (ea_cons (ed_var rfl (.obj (.ref a))) ea_nil) fun H1 e1 => ⟨a, ns, rfl, sqL_le e1 hS, hl, rfl⟩) fun v1 d H1 e1 p1 r1 => ?_
  obtain ⟨h, rfl, hh⟩ := p1
  have ev := rp_obj r1
  subst ev
  refine q_forR1 (K := K) (n := 3) (ea_cons ed_int ea_nil) (by omega) fun H2 e2 => ?_
  refine ⟨fun i σ H' => ∃ y2 y3 y4 y5 y6 y7 y8 y9 y10 y11 y12 y13 y14 y15 y16 y17 y18 y19 y20, σ = [some (.ref a), some (.ref h), y2, y3, y4, y5, y6, y7, y8, y9, y10, y11, y12, y13, y14, y15, y16, y17, y18, y19, y20] ∧ Hand H' h,
    ⟨none, none, none, none, none, none, none, none, none, none, none, none, none, none, none, none, none, none, none, rfl, hh.le e2⟩, ?_, fun σ' H' _ => s_retD (K := K) ed_bl fun v H3 _ r => by rw [rp_bl r]; exact q H3⟩
  rintro i σ' H3 hi ⟨y2, y3, y4, y5, y6, y7, y8, y9, y10, y11, y12, y13, y14, y15, y16, y17, y18, y19, y20, rfl, hh3⟩
  have dr : ∀ {σ : L2.St} {H' : Hp} {n : Int}, Le H3 H' → σ[1]? = some (some (.ref h)) → 1 ≤ n ∧ n ≤ 1000000 → EP K (tCall (spD K R_draw) [] E0 (tCons (tVar 1) (tCons (tC (.int n)) tNil))) σ H' (fun d _ => ∃ r : Int, d = .int r ∧ 0 ≤ r ∧ r < n) := fun e s1 hn => ep_draw (hh3.le e) (ea_cons (ed_var s1 (.obj _)) (ea_cons ed_int ea_nil)) hn
  -- parts, k, many
  refine q_tup3 (K := K) (PA := fun ds _ => ∃ ms ties k m, ds = [eW ms ties, .int k, .int m] ∧ PartsOk ms ties ∧ ms.length ≤ 8 ∧ 1 ≤ k ∧ k ≤ 200 ∧ 0 ≤ m ∧ m ≤ 150) (EA_weak (ep_cons (ed_call (P := fun d _ => ∃ ms ties, d = eW ms ties ∧ PartsOk ms ties ∧ (ms.length : Int) ≤ 8 ∧ ∀ z ∈ ms, z ≤ 3) (ea_cons (ed_var rfl (.obj (.ref h))) (ea_cons ed_int (ea_cons ed_int ea_nil))) fun H4 e4 => ⟨h, 8, 3, rfl, hh3.le e4, by decide, by decide, by decide, by decide, rfl⟩)
    (ep_cons (ep_plus (dr (Le.refl _) rfl (by omega))) (ep_cons (dr (Le.refl _) rfl (by omega)) ea_nil))) ?_) ?_ fun v3 v4 v5 d3 d4 d5 H4 e4 p r3 r4 r5 H5 e5 => ?_
  · rintro ds H4 ⟨d1, r1, _, rfl, _, ⟨ms, ties, rfl, ok, h8, _⟩, d2, r2, _, rfl, _, ⟨k, rfl, k0, k1⟩, d3, r3, _, rfl, _, ⟨m, rfl, m0, m1⟩, rfl⟩
    exact ⟨ms, ties, k, m, rfl, ok, by omega, by omega, by omega, by omega, by omega⟩
  · rintro ds H4 ⟨ms, ties, k, m, rfl, _⟩
    rfl
  obtain ⟨ms, ties, k, m, ee, ok, h8, k1, k2, m0, m1⟩ := p
  injection ee with ea ee
  injection ee with eb ee
  injection ee with ec _
  subst ea eb ec
  have ev4 := rp_int r4
  have ev5 := rp_int r5
  subst ev4 ev5
  have e35 := e4.trans e5
  have r35 := r3.le e5
  clear r1 r3 r4 r5
  -- now and then deeper parts
  refine q_cut (M := fun σ H' => ∃ v3 ms ties k m, σ = [some (.ref a), some (.ref h), some (.int (i : Int)), some v3, some (.int k), some (.int m), y6, y7, y8, y9, y10, y11, y12, y13, y14, y15, y16, y17, y18, y19, y20] ∧ Le H3 H' ∧ Rp K H' v3 (eW ms ties) ∧ PartsOk ms ties ∧ ms.length ≤ 8 ∧ 1 ≤ k ∧ k ≤ 200 ∧ 0 ≤ m ∧ m ≤ 150) ?_ ?_
  · refine s_if (et_and (et_eq0 (K := K) (EP.weak (ed_var rfl (.int (i : Int))) fun d _ _ p => ⟨_, p⟩)) fun _ => et_eq0 (K := K) (EP.anyI (dr e35 rfl (by omega)))) (fun _ H6 e6 => ?_) (fun _ H6 e6 => ?_)
    · have e36 := e35.trans e6
      refine s_tup3 (K := K) (PA := fun ds _ => ∃ ms ties k m, ds = [eW ms ties, .int k, .int m] ∧ PartsOk ms ties ∧ ms.length ≤ 8 ∧ 1 ≤ k ∧ k ≤ 200 ∧ 0 ≤ m ∧ m ≤ 150) (EA_weak (ep_cons (ed_call (P := fun d _ => ∃ ms ties, d = eW ms ties ∧ PartsOk ms ties ∧ (ms.length : Int) ≤ 3) (ea_cons (ed_var rfl (.obj (.ref h))) (ea_cons ed_int ea_nil)) fun H7 e7 => ⟨h, 3, rfl, hh3.le (e36.trans e7), by decide, by decide, rfl⟩)
        (ep_cons (ep_plus (dr e36 rfl (by omega))) (ep_cons (ep_plus (dr e36 rfl (by omega))) ea_nil))) ?_) ?_ fun w1 w2 w3 d1 d2 d3 H7 e7 p q1 q2 q3 H8 e8 => ?_
      · rintro ds H7 ⟨d1, r1, _, rfl, _, ⟨ms, ties, rfl, ok, h8⟩, d2, r2, _, rfl, _, ⟨k, rfl, k0, k1⟩, d3, r3, _, rfl, _, ⟨m, rfl, m0, m1⟩, rfl⟩
        exact ⟨ms, ties, k, m, rfl, ok, by omega, by omega, by omega, by omega, by omega⟩
      · rintro ds H7 ⟨ms, ties, k, m, rfl, _⟩
        rfl
      obtain ⟨ms, ties, k, m, ee, ok, h8, k1, k2, m0, m1⟩ := p
      injection ee with ea ee
      injection ee with eb ee
      injection ee with ec _
      subst ea eb ec
      have f2 := rp_int q2
      have f3 := rp_int q3
      subst f2 f3
      exact ⟨w1, ms, ties, k, m, rfl, (e36.trans e7).trans e8, q1.le e8, ok, h8, k1, k2, m0, m1⟩
    · exact ⟨v3, ms, ties, k, m, rfl, e35.trans e6, r35.le e6, ok, h8, k1, k2, m0, m1⟩
  clear r35 ok h8 k1 k2 m0 m1 ms ties k m v3
  rintro σ H6 ⟨v3, ms, ties, k, m, rfl, e6, r3, ok, h8, k1, k2, m0, m1⟩
  have hh6 := hh3.le e6
  have few := ok.few
  have some1 := ok.some
  -- web, past
  refine q_tup2A (K := K) (PA := fun ds H7 => ∃ aw past st, ds = [.obj (.ref aw), .tup (past.map eD)] ∧ WebAt K C H7 aw ms ties ∧ Run ms.length k past st ∧ (past.length : Int) = m) (EA_weak (ep_cons (ed_call (P := fun d H8 => ∃ aw, d = .obj (.ref aw) ∧ WebAt K C H8 aw ms ties) (ea_cons (ed_var rfl r3) ea_nil) fun H8 e8 => ⟨ms, ties, rfl, ok, rfl⟩)
    (ep_cons (ed_call (P := fun d _ => ∃ past st, d = .tup (past.map eD) ∧ Run ms.length k past st ∧ (past.length : Int) = m) (ea_cons (ed_var rfl (.obj (.ref h))) (ea_cons (ed_var rfl r3) (ea_cons (ed_var rfl (.int k)) (ea_cons (ed_var rfl (.int m)) (ea_cons ed_int ea_nil))))) fun H7 e7 => ⟨h, ms, ties, k, m, 3, rfl, hh6.le e7, ok, h8, k1, k2, m0, by omega, by decide, by decide, rfl⟩) ea_nil)) ?_) ?_ fun v6 v7 d6 d7 H7 e7 p r6 r7 H8 e8 => ?_
  · rintro ds H7 ⟨d1, t1, G1, rfl, f1, ⟨aw, rfl, hw⟩, d2, t2, G2, rfl, f2, ⟨past, st, rfl, run, hpm⟩, rfl⟩
    exact ⟨aw, past, st, rfl, hw.le f1, run, hpm⟩
  · rintro ds H7 ⟨aw, past, st, rfl, _⟩
    rfl
  obtain ⟨aw, past, stE, ee, hw, run, hpm⟩ := p
  injection ee with ea ee
  injection ee with eb _
  subst ea eb
  have ev6 := rp_obj r6
  subst ev6
  have hw8 := hw.le e8
  have r38 := r3.le (e7.trans e8)
  have r78 := r7.le e8
  have hh8 := hh6.le (e7.trans e8)
  have pl : past.length ≤ 150 := by omega
  have prm : ∀ d ∈ past, 0 ≤ d.room ∧ d.room < ms.length := fun d hd => by
    obtain ⟨j, hj⟩ := List.mem_iff_getElem?.mp hd
    obtain ⟨dok, _, _⟩ := run.dok j d hj
    have h1 := dok.r1
    rw [stF_len] at h1
    exact ⟨dok.r0, h1⟩
  have ptg : ∀ d ∈ past, tagD d ≤ 10 ^ 41 := fun d hd => by
    obtain ⟨j, hj⟩ := List.mem_iff_getElem?.mp hd
    obtain ⟨_, ho, _⟩ := run.dok j d hj
    cases d with
    | give r t =>
      have h1 := over_of (dd := .give r t) rfl ho
      have h2 : t < k := h1
      show t ≤ 10 ^ 41
      omega
    | back r =>
      show (0 : Int) ≤ 10 ^ 41
      decide
  clear r3 r7 hw
  -- state, standing, first
  refine q_par3 (K := K) (PA := fun ds _ => ds = [eS (stF ms.length (past.take 0)), eT (cutSt ms (stF ms.length (past.take 0))), .non]) (ea_cons (ed_call (ea_cons (ed_var rfl r38) ea_nil) fun H9 _ => ⟨ms, ties, rfl, few, ?_⟩) (ea_cons (ed_call (ea_cons (ed_var rfl (.obj (.ref aw))) ea_nil) fun H9 e9 => ⟨aw, ms, ties, rfl, hw8.le e9, some1, few, ?_⟩) (ea_cons ed_non ea_nil))) ?_ fun v8 v9 v10 d8 d9 d10 H9 e9 p r8 r9 r10 => ?_
  · rw [List.take_zero]
    rfl
  · rw [List.take_zero]
    show is (eT (cutSt ms (List.replicate ms.length (false, [])))) = _
    rw [cut_start]
  · rintro ds H9 rfl
    rfl
  injection p with ea ee
  injection ee with eb ee
  injection ee with ec _
  subst ea eb ec
  -- for at, deed in enumerate(past)
  have e89 := e9
  refine q_forE (K := K) (ds := past.map eD) (ea_cons (ed_var rfl (r78.le e9)) ea_nil) (enc_D.nl _) fun H10 e10 => ?_
  have e810 := e9.trans e10
  have ed : ∀ {j : Nat}, ∀ x ∈ stF ms.length (past.take j), x.2.length ≤ 150 := fun {j} x hx => by
    rcases Nat.lt_or_ge past.length j with hj | hj
    · rw [List.take_of_length_le (by omega), ← List.take_length (l := past)] at hx
      exact Nat.le_trans ((rch_take run past.length (Nat.le_refl _)).tags x hx) pl
    · exact Nat.le_trans ((rch_take run j hj).tags x hx) (by omega)
  refine ⟨fun j σ H' => ∃ y11 y12 y13 y14 y15 y16 y17 v8 v9 v10 fd, σ = [some (.ref a), some (.ref h), some (.int (i : Int)), some v3, some (.int k), some (.int m), some (.ref aw), some v7, some v8, some v9, some v10, y11, y12, y13, y14, y15, y16, y17, y18, y19, y20] ∧ Le H8 H' ∧ Le H10 H' ∧
      Rp K H' v8 (eS (stF ms.length (past.take j))) ∧ Rp K H' v9 (eT (cutSt ms (stF ms.length (past.take j)))) ∧ Rp K H' v10 fd ∧ FirstD ms ties past j fd,
    ⟨y11, y12, y13, y14, y15, y16, y17, v8, v9, v10, .non, rfl, e810, Le.refl _, r8.le e10, r9.le e10, r10.le e10, .inl ⟨rfl, fun j dd hj => absurd hj (Nat.not_lt_zero _)⟩⟩, fun j σ H' _ ⟨_, _, _, _, _, _, _, _, _, _, _, _, _, e, _⟩ => e.t, ?_, ?_⟩
  · clear r8 r9 r10
    rintro j d v σ' H11 H12 hd ⟨y11, y12, y13, y14, y15, y16, y17, v8, v9, v10, fd, rfl, e811, e1011, r8, r9, r10, hfd⟩ e12 rv
    obtain ⟨dd, hdd, rfl⟩ := map_at hd
    have hj : j < past.length := (List.getElem?_eq_some_iff.mp hdd).1
    obtain ⟨dok, _, _⟩ := run.dok j dd hdd
    obtain ⟨rm0, rm1⟩ := prm dd (List.mem_of_getElem? hdd)
    have etk : stF ms.length (past.take (j + 1)) = doneL (stF ms.length (past.take j)) dd := by rw [take_more hdd, stF_more]
    have hch : Rch ms.length j (stF ms.length (past.take j)) := rch_take run j (by omega)
    have hbad : badAt ms ties past j dd = bad ms ties (stF ms.length (past.take j)) dd := rfl
    have est : stF ms.length (past.take j) = stF ms.length (past.take j) := rfl
    generalize hst : stF ms.length (past.take j) = st at *
    have sok : StOk st := hch.ok few (by omega)
    have cok : StOk (cutSt ms st) := cut_ok sok
    have dpS : Dp 4 (eT (cutSt ms st)) := dp4_S (by rw [cut_len, hch.len]; exact few) cok.tags
    have dokC : DOk (cutSt ms st) dd := ⟨dok.r0, by rw [cut_len]; exact dok.r1, by rw [cut_at ms st dok.r0 dok.r1]; exact dok.fl, dok.t0⟩
    have lenC : (cutSt ms st).length = ms.length := by rw [cut_len, hch.len]
    refine ⟨rfl, ?_⟩
    have e812 := e811.trans e12
    -- due
    refine q_asgD (K := K) (d := eT (cutSt ms st)) (ed_call (ea_cons (ed_var rfl (r38.le e812)) (ea_cons (ed_var rfl (r8.le e12)) ea_nil)) fun H13 _ => ⟨ms, ties, st, rfl, ok, hch.len, rfl⟩) fun v13 H13 e13 r13 => ?_
    have e813 := e812.trans e13
    have e1113 := e12.trans e13
    refine q_no (b := false) (or_ff (no_is (ed_is (ed_var rfl (r9.le e1113)) (ed_var rfl r13) dpS)) (no_is (ed_is (ed_call (ea_cons (ed_var rfl (.obj (.ref aw))) (ea_cons (ed_eq (ed_slT (lo := none) (hi := some (j : Int)) (ed_var rfl (r78.le e813)) eo_none (eo_some (K := K) (ed_var rfl (.int (j : Int))))) (show D.tup _ = D.tup ((past.take j).map eD) by rw [cutG_hi _ _ (by omega), Int.toNat_natCast, ← List.map_take])) ea_nil)) fun H14 e14 => ⟨aw, ms, ties, past.take j, rfl, hw8.le (e813.trans e14), few, Nat.le_trans (List.length_take_le' _ _) (by omega), fun d hd => prm d (List.mem_of_mem_take hd), by rw [hst]⟩) (ed_var rfl r13) dpS))) rfl fun H14 e14 => ?_
    have e814 := e813.trans e14
    have e1114 := e1113.trans e14
    -- for room in range(..)
    refine q_forR1 (K := K) (n := (ms.length : Int)) (ea_cons (ed_eq (ed_lenT (ed_ixT (ds := [_, _]) (ed_var rfl (r38.le e814)) ed_int (by decide) rfl)) (by rw [List.length_map])) ea_nil) (by omega) fun H15 e15 => ?_
    refine ⟨fun r σ H' => ∃ y14, σ = [some (.ref a), some (.ref h), some (.int (i : Int)), some v3, some (.int k), some (.int m), some (.ref aw), some v7, some v8, some v9, some v10, some (.int (j : Int)), some v, some v13, y14, y15, y16, y17, y18, y19, y20] ∧ Le H14 H', ⟨y14, rfl, e15⟩, ?_, ?_⟩
    · rintro rr σ' H16 hrr ⟨y14, rfl, e16⟩
      have e816 := e814.trans e16
      refine s_no (b := false) (no_is (ep_is (P1 := fun d => ∃ ns : List Int, d = .tup (ns.map .int) ∧ ns.Pairwise (· < ·) ∧ ∀ x, x ∈ ns ↔ x ∈ barsL ms ties st (rr : Int)) (P2 := fun d => ∃ ns : List Int, d = .tup (ns.map .int) ∧ Bars ms ties st (rr : Int) ns) ?_ (ed_call (ea_cons (ed_var rfl (r38.le e816)) (ea_cons (ed_var rfl (r8.le (e1114.trans e16))) (ea_cons (ed_var rfl (.int _)) ea_nil))) fun H17 e17 => ⟨ms, ties, st, (rr : Int), rfl, ok, sok, hch.len, h8, by omega, by omega, rfl⟩) ?_ ?_)) rfl fun H17 e17 => ⟨_, rfl, e16.trans e17⟩
      · refine EP.weak (ed_call (P := fun d _ => ∃ ns : List Int, d = .tup (ns.map .int) ∧ ns.Pairwise (· < ·) ∧ ∀ x, x ∈ ns ↔ x ∈ barsL ms ties (cutSt ms st) (rr : Int)) (ea_cons (ed_var rfl (.obj (.ref aw))) (ea_cons (ed_var rfl (r9.le (e1114.trans e16))) (ea_cons (ed_var rfl (.int _)) ea_nil))) fun H17 e17 => ⟨aw, ms, ties, cutSt ms st, (rr : Int), rfl, hw8.le (e816.trans e17), ok, h8, cok, lenC, by omega, by omega, rfl⟩) fun d H17 _ p => ?_
        rw [cut_bars (r := (rr : Int)) ok hch.len (by omega) (by omega)] at p
        exact p
      · rintro d1 d2 ⟨ns1, rfl, s1, m1⟩ ⟨ns2, rfl, b2⟩
        rw [sorted_ext s1 b2.up fun x => (m1 x).trans (b2.in x).symm]
      · rintro d1 ⟨ns1, rfl, s1, m1⟩
        refine dp4_ints (Nat.le_trans (sorted_len s1 fun x hx => (m1 x).mp hx) (Nat.le_trans (bars_len (m := 5000) ok h8 (sok.tags _ (st_mem (by omega) (by rw [hch.len]; omega))) (by omega) (by omega)) (by decide)))
    · rintro σ' H16 ⟨y14, rfl, e16⟩
      have e816 := e814.trans e16
      have e1116 := e1114.trans e16
      -- the first
      refine q_cut (M := fun σ H' => ∃ v10 fd, σ = [some (.ref a), some (.ref h), some (.int (i : Int)), some v3, some (.int k), some (.int m), some (.ref aw), some v7, some v8, some v9, some v10, some (.int (j : Int)), some v, some v13, y14, y15, y16, y17, y18, y19, y20] ∧ Le H16 H' ∧ Rp K H' v10 fd ∧ FirstD ms ties past (j + 1) fd) ?_ ?_
      · have nob : ∀ v, fd ≠ .obj v := fun v e => by
          have h1 := hfd.sca
          rw [e] at h1
          cases h1
        refine s_ifB (b := isNonD fd && bad ms ties st dd) (eb_and (et_test (K := K) (ed_isN2 (ed_var rfl (r10.le e1116)) nob)) fun _ => ?_) (fun hb H17 e17 => ?_) (fun hb H17 e17 => ?_)
        · cases dd with
          | back rm => exact eb_eq (eb_and (a := false) (b := true) (et_test (K := K) (ed_give (dd := .back rm) (ed_var rfl (rv.le (e13.trans (e14.trans e16)))))) fun h => nomatch h) rfl
          | give rm t =>
            refine eb_eq (eb_and (a := true) (b := bad ms ties st (.give rm t)) (et_test (K := K) (ed_give (dd := .give rm t) (ed_var rfl (rv.le (e13.trans (e14.trans e16)))))) fun _ => et_test (K := K) ?_) rfl
            refine EP.weak (ep_inT (x := t) (PN := fun ns => Bars ms ties st rm ns) (ed_dtag (r := rm) (ed_var rfl (rv.le (e13.trans (e14.trans e16))))) (EP.weak (ed_call (P := fun d _ => ∃ ns : List Int, d = .tup (ns.map .int) ∧ Bars ms ties st rm ns) (ea_cons (ed_var rfl (r38.le e816)) (ea_cons (ed_var rfl (r8.le e1116)) (ea_cons (ed_droom (dd := .give rm t) (ed_var rfl (rv.le (e13.trans (e14.trans e16))))) ea_nil))) fun H17 e17 => ⟨ms, ties, st, rm, rfl, ok, sok, hch.len, h8, rm0, rm1, rfl⟩) fun d H2 _ p => p)) fun d H2 _ p => ?_
            obtain ⟨ns, hn, rfl⟩ := p
            show D.bl (decide (t ∈ ns)) = D.bl (decide (t ∈ barsL ms ties st rm))
            rw [decide_eq_decide.mpr (hn.in t)]
        · rw [Bool.and_eq_true] at hb
          refine s_asgD (K := K) (d := .int (j : Int)) (ed_var rfl (.int _)) fun w H18 e18 rw18 => ⟨w, .int (j : Int), rfl, e17.trans e18, rw18, ?_⟩
          rcases hfd with ⟨rfl, nb⟩ | ⟨i0, dd0, rfl, _⟩
          · exact .inr ⟨j, dd, rfl, Nat.lt_succ_self j, hdd, hbad.trans hb.2, nb⟩
          · cases hb.1
        · refine ⟨v10, fd, rfl, e17, r10.le (e1116.trans e17), ?_⟩
          rcases hfd with ⟨rfl, nb⟩ | ⟨i0, dd0, rfl, h1, h2, h3, h4⟩
          · refine .inl ⟨rfl, fun j' dj hj' hdj => ?_⟩
            rcases Nat.lt_succ_iff_lt_or_eq.mp hj' with h5 | h5
            · exact nb j' dj h5 hdj
            · rw [h5] at hdj ⊢
              have h6 : dd = dj := Option.some.inj (hdd.symm.trans hdj)
              rw [← h6]
              refine hbad.trans ?_
              cases hx : bad ms ties st dd with
              | false => rfl
              | true =>
                rw [hx] at hb
                cases hb
          · exact .inr ⟨i0, dd0, rfl, by omega, h2, h3, h4⟩
      clear r10 hfd v10 fd
      rintro σ' H17 ⟨v10, fd, rfl, e17, r10, hfd⟩
      have e817 := e816.trans e17
      have e1117 := e1116.trans e17
      have rv17 := rv.le (((e13.trans e14).trans e16).trans e17)
      -- odd
      refine q_asg (K := K) (P := OddD) (ed_call (ea_cons (ed_var rfl (.obj (.ref h))) (ea_cons (ed_var rfl (r38.le e817)) (ea_cons (ed_var rfl (.int k)) ea_nil))) fun H18 e18 => ⟨h, ms, ties, k, rfl, hh8.le (e817.trans e18), some1, few, k1, k2, rfl⟩) fun v15 od H18 e18 po r15 => ?_
      have e818 := e817.trans e18
      have e1118 := e1117.trans e18
      -- later
      refine q_asgD (K := K) (d := ltD ms st od) (ep_if (b := (dOf st od).isSome) (et_B (K := K) (ed_call (ea_cons (ed_var rfl (r8.le e1118)) (ea_cons (ed_var rfl r15) ea_nil)) fun H19 e19 => ⟨st, od, rfl, po.1.le e19, po.2, rfl⟩)) (fun hb => ?_) fun hb => ?_) fun v16 H19 e19 r16 => ?_
      · cases hd : dOf st od with
        | none =>
          rw [hd] at hb
          cases hb
        | some dd2 =>
          obtain ⟨rfl, ok2⟩ := dOf_ok hd
          refine ed_eq (ed_call (P := is (eT (cutSt ms (doneL st dd2)))) (ea_cons (ed_var rfl (r38.le e818)) (ea_cons (EFD.ed (ds := (doneL st dd2).map eR) (ef_call (ea_cons (ed_var rfl (r8.le e1118)) (ea_cons (ed_var rfl r15) ea_nil)) fun H19 _ => ⟨st, dd2, rfl, sok, ok2.r0, ok2.r1, rfl⟩)) ea_nil)) fun H19 _ => ⟨ms, ties, doneL st dd2, rfl, ok, by rw [doneL_len, hch.len], rfl⟩) ?_
          unfold ltD
          rw [hd]
      · cases hd : dOf st od with
        | none =>
          refine ed_eq ed_str ?_
          unfold ltD
          rw [hd]
        | some dd2 =>
          rw [hd] at hb
          cases hb
      have e819 := e818.trans e19
      have e1119 := e1118.trans e19
      refine q_no (b := false) (no_is (ed_is (ed_eq (ed_call (P := is (awD ms (cutSt ms st) od)) (ea_cons (ed_var rfl (.obj (.ref aw))) (ea_cons (ed_var rfl (r9.le e1119)) (ea_cons (ed_var rfl (r15.le e19)) ea_nil))) fun H20 e20 => ⟨aw, ms, ties, cutSt ms st, od, rfl, hw8.le (e819.trans e20), cok, lenC, po.1.le (e19.trans e20), rfl⟩) (aw_lt ms st od)) (ed_var rfl r16) (dp4_lt hch few (by omega)))) rfl fun H20 e20 => ?_
      have e820 := e819.trans e20
      have e1120 := e1119.trans e20
      have rv20 := rv17.le ((e18.trans e19).trans e20)
      -- kept, standing
      refine q_par2 (K := K) (PA := fun ds _ => ds = [eT (cutSt ms st), eT (wdL ms (cutSt ms st) dd)]) (ea_cons (ed_var rfl (r9.le e1120)) (ea_cons (ed_after (K := K) (C := C) (CN := CN) (ea_cons (ed_var rfl (.obj (.ref aw))) (ea_cons (ed_var rfl (r9.le e1120)) (ea_cons (ed_var rfl rv20) ea_nil))) (hw8.le e820) cok lenC dokC) ea_nil)) ?_ fun v17 w9 d17 d9 H21 e21 p r17 r9' => ?_
      · rintro ds H21 rfl
        rfl
      injection p with ea ee
      injection ee with eb _
      subst ea eb
      have e821 := e820.trans e21
      have e1121 := e1120.trans e21
      -- state
      refine q_asgD (K := K) (d := eS (doneL st dd)) (EFD.ed (ef_call (ea_cons (ed_var rfl (r8.le e1121)) (ea_cons (ed_var rfl (rv20.le e21)) ea_nil)) fun H22 _ => ⟨st, dd, rfl, sok, rm0, by rw [hch.len]; exact rm1, rfl⟩)) fun w8 H22 e22 r8' => ?_
      refine s_no (b := false) (et_test (K := K) (ed_neSt (ed_var rfl (r17.le e22)) (ed_var rfl (r13.le ((((((e14.trans e16).trans e17).trans e18).trans e19).trans e20).trans (e21.trans e22)))))) rfl fun H23 e23 => ?_
      refine ⟨_, _, _, _, _, _, _, w8, w9, v10, fd, rfl, ((e821.trans e22).trans e23), (e1011.trans ((e1121.trans e22).trans e23)), ?_, ?_, r10.le ((((((e18.trans e19).trans e20).trans e21).trans e22).trans e23)), hfd⟩
      · rw [etk]
        exact r8'.le e23
      · rw [etk, ← cut_wd rm0 (by rw [hch.len]; exact rm1)]
        exact r9'.le (e22.trans e23)
  · rintro σ' H11 ⟨y11, y12, y13, y14, y15, y16, y17, v8, v9, v10, fd, rfl, e811, _, r8, r9, r10, hfd⟩
    rw [List.length_map] at r8 r9 hfd
    rw [List.take_length] at r8 r9
    have hch : Rch ms.length past.length (stF ms.length past) := by
      have := rch_take run past.length (Nat.le_refl _)
      rw [List.take_length] at this
      exact this
    generalize hst : stF ms.length past = st at *
    have cok : StOk (cutSt ms st) := cut_ok (hch.ok few (by omega))
    have dpS : Dp 4 (eT (cutSt ms st)) := dp4_S (by rw [cut_len, hch.len]; exact few) cok.tags
    refine q_no (b := false) (or_ff (no_is (ed_is (ed_call (P := is (eT (cutSt ms st))) (ea_cons (ed_var rfl (.obj (.ref aw))) (ea_cons (ed_var rfl (r78.le e811)) ea_nil)) fun H12 e12 => ⟨aw, ms, ties, past, rfl, hw8.le (e811.trans e12), few, by omega, prm, by rw [hst]⟩) (ed_var rfl r9) dpS)) (no_is (ep_is (P1 := fun d => ∃ x, d = .lst [x] ∧ FirstD ms ties past past.length x) (P2 := fun d => d = .lst [fd]) (ep_lst (P := fun d _ => ∃ x, d = .lst [x] ∧ FirstD ms ties past past.length x) (PA := fun ds _ => ∃ x, ds = [x] ∧ FirstD ms ties past past.length x) (EA_weak (ep_cons (ed_call (P := fun d _ => (d = .non ∧ noBad ms ties past past.length) ∨ ∃ (i : Nat) (dd : Deed), d = .int (i : Int) ∧ past[i]? = some dd ∧ badAt ms ties past i dd = true ∧ noBad ms ties past i) (ea_cons (ed_var rfl (.obj (.ref aw))) (ea_cons (ed_var rfl (r78.le e811)) ea_nil)) fun H12 e12 => ⟨aw, ms, ties, past, rfl, hw8.le (e811.trans e12), ok, h8, by omega, prm, rfl⟩) ea_nil) ?_) ?_ ?_ ?_) (ed_lst (ds := [fd]) (ea_cons (ed_var rfl r10) ea_nil) (by show 1 ≤ 100000; decide) ?_) ?_ ?_))) rfl fun H12 e12 => ?_
    · rintro ds H12 ⟨d1, t1, G1, rfl, _, h1, h2⟩
      have h2' : t1 = [] := h2
      subst h2'
      refine ⟨d1, rfl, ?_⟩
      rcases h1 with h1 | ⟨i0, dd0, rfl, g1, g2, g3⟩
      · exact .inl h1
      · exact .inr ⟨i0, dd0, rfl, (List.getElem?_eq_some_iff.mp g1).1, g1, g2, g3⟩
    · rintro ds H12 ⟨x, rfl, _⟩
      show 1 ≤ 100000
      decide
    · rintro ds H12 xs ⟨x, rfl, _⟩ r
      exact notH_len (by rw [r.len]; show 1 ≠ 5; decide)
    · rintro ds H12 ⟨x, rfl, hx⟩ H13 _
      exact ⟨x, rfl, hx⟩
    · have h1 := hfd.sca
      cases fd <;> first | rfl | cases h1
    · rintro d1 d2 ⟨x, rfl, hx⟩ rfl
      rw [hx.uniq hfd]
    · rintro d1 ⟨x, rfl, hx⟩
      exact dp4_one hx.sca
    have e812 := e811.trans e12
    refine q_no (b := false) (or_ff (no_is (ed_is (ed_var rfl (r9.le e12)) (ed_call (P := is (eT (cutSt ms st))) (ea_cons (ed_var rfl (r38.le e812)) (ea_cons (ed_var rfl (r8.le e12)) ea_nil)) fun H13 _ => ⟨ms, ties, st, rfl, ok, hch.len, rfl⟩) dpS)) (ed_isnTrue (K := K) (ed_eq (ed_call (P := is (.bl (pastB (wdL ms) k (List.replicate ms.length (false, [])) (.tup (past.map eD))))) (ea_cons (ed_var rfl (.obj (.ref aw))) (ea_cons (ed_var rfl (.int k)) (ea_cons (ed_var rfl (r78.le e812)) ea_nil))) fun H13 e13 => ⟨aw, ms, ties, k, _, rfl, hw8.le (e812.trans e13), some1, few, k1, k2, ?_, ?_, rfl⟩) (congrArg D.bl ((pastB_start ms k _).trans run.isPast))))) rfl fun H13 e13 => ?_
    · refine .tup (by rw [List.length_map]; omega) fun d hd => ?_
      obtain ⟨dd, _, rfl⟩ := List.mem_map.mp hd
      exact th_eD dd _
    · intro xs e
      injection e with e
      rw [← e, List.length_map]
      omega
    have e813 := e812.trans e13
    -- bent pasts
    refine s_forLA (K := K) (Pc := BentD) (n := 6) bent_mono (ep_five (ea_cons ed_int ea_nil) (fun _ => rfl) (fun i0 H14 e14 => ed_call (P := BentD) (ea_cons (ed_var rfl (.obj (.ref h))) (ea_cons (ed_var rfl (r38.le (e813.trans e14))) (ea_cons (ed_var rfl (.int k)) (ea_cons (ed_var rfl (r78.le (e813.trans e14))) ea_nil)))) fun H15 e15 => ⟨h, ms, ties, k, past, rfl, hh8.le ((e813.trans e14).trans e15), some1, few, k1, k2, by omega, ptg, rfl⟩) rfl (r78.le e813) (bent_of (n := 150) (by decide) ⟨_, rfl, by rw [List.length_map]; exact pl, fun d hd => by
      obtain ⟨dd, hdd, rfl⟩ := List.mem_map.mp hd
      exact odd_eD (ptg dd hdd) _⟩)) fun H14 e14 => ?_
    refine ⟨fun i0 σ H' => ∃ y18 y19, σ = [some (.ref a), some (.ref h), some (.int (i : Int)), some v3, some (.int k), some (.int m), some (.ref aw), some v7, some v8, some v9, some v10, y11, y12, y13, y14, y15, y16, y17, y18, y19, y20] ∧ Le H14 H', ⟨y18, y19, rfl, Le.refl _⟩, fun i0 σ' H' _ ⟨_, _, _, e⟩ => e, ?_, ?_⟩
    · rintro i0 d v σ' H15 hi0 bd rv ⟨y18, y19, rfl, e15⟩
      have e815 := (e813.trans e14).trans e15
      refine q_asg (K := K) (P := fun d _ => ∃ l : Int, d = .int l ∧ 1 ≤ l ∧ l ≤ k) (EP.weak (ep_plus (ep_draw (hh8.le e815) (ea_cons (ed_var rfl (.obj (.ref h))) (ea_cons (ed_var rfl (.int k)) ea_nil)) (by omega))) fun d H16 _ p => ?_) fun v19 d19 H16 e16 p r19 => ?_
      · obtain ⟨l, rfl, l0, l1⟩ := p
        exact ⟨_, rfl, by omega, by omega⟩
      obtain ⟨l, rfl, l1, l2⟩ := p
      have e816 := e815.trans e16
      refine s_no (b := false) (no_is (ed_is (d := .lst [.bl (pastB doneL l (List.replicate ms.length (false, [])) d)]) (ed_lst (ds := [_]) (ea_cons (ed_eq (ed_call (P := is (.bl (pastB (wdL ms) l (List.replicate ms.length (false, [])) d))) (ea_cons (ed_var rfl (.obj (.ref aw))) (ea_cons (ed_var rfl r19) (ea_cons (ed_var rfl (rv.le e16)) ea_nil))) fun H17 e17 => ⟨aw, ms, ties, l, d, rfl, hw8.le (e816.trans e17), some1, few, l1, by omega, bd.1.le (e16.trans e17), fun xs e => Nat.le_trans (bd.2 xs e).1 (by decide), rfl⟩) (congrArg D.bl (pastB_start ms l d))) ea_nil) (by show 1 ≤ 100000; decide) rfl) (ed_lst (ds := [_]) (ea_cons (ed_call (ea_cons (ed_var rfl (r38.le e816)) (ea_cons (ed_var rfl r19) (ea_cons (ed_var rfl (rv.le e16)) ea_nil))) fun H17 e17 => ⟨ms, ties, l, d, rfl, ok, bd.1.le (e16.trans e17), bd.2, rfl⟩) ea_nil) (by show 1 ≤ 100000; decide) rfl) (dp4_one rfl))) rfl fun H17 e17 => ⟨_, _, rfl, (e15.trans e16).trans e17⟩
    · rintro σ' H15 ⟨y18, y19, rfl, e15⟩
      exact ⟨_, _, _, _, _, _, _, _, _, _, _, _, _, _, _, _, _, _, _, rfl, hh8.le ((e813.trans e14).trans e15)⟩
end
end W1

set_option maxRecDepth 100000
set_option maxHeartbeats 4000000
namespace W1
open PySem PySem.Spec PyProof.Rows L2
/-- what of the text a def must have -/
def Fact (K : PySem.W.Frag) (x : Str) (st : Stmt) : Prop := ∃ (f : Addr) (od an : Option Addr) (sl : Array (Option Value)) (oc kV dc pm cd ct : Value), PySem.W.nsIn K mainGlobals x = some (some (.ref f)) ∧
  K.lookup f = some ⟨oc, od, .func (PySem.W.fnOf x x (defArgs st) (defBody st) (defScope st) .none kV dc pm an cd ct), sl⟩ ∧ PySem.W.codeIn K cd x = true ∧ PySem.W.keepIn K (.ref f) = true
theorem fact_mk {K : PySem.W.Frag} {x : Str} {st : Stmt} {f : Addr} {od an : Option Addr} {sl : Array (Option Value)} {oc kV dc pm cd ct : Value} (a : PySem.W.nsIn K mainGlobals x = some (some (.ref f)))
    (l : K.lookup f = some ⟨oc, od, .func (PySem.W.fnOf x x (defArgs st) (defBody st) (defScope st) .none kV dc pm an cd ct), sl⟩) (c : PySem.W.codeIn K cd x = true) (k : PySem.W.keepIn K (.ref f) = true) : Fact K x st := ⟨f, od, an, sl, oc, kV, dc, pm, cd, ct, a, l, c, k⟩
theorem Fact.g {K : PySem.W.Frag} {h : Heap} {mg : Str → Option Value} {x : Str} {st : Stmt} {ps : List Str} (F : Fact K x st) (X : K.In h) (G : h.Ns mainGlobals mg)
    (hb : ∀ (kV doc pm : Value) (an : Option Addr) (cdv ct : Value) (us : List Value), us.length = ps.length → bindArgs (PySem.W.fnOf x x (defArgs st) (defBody st) (defScope st) .none kV doc pm an cdv ct) ⟨us, []⟩ = pure (ps.zip us)) : GDef K mg x st ps := by
  obtain ⟨f, od, an, sl, oc, kV, dc, pm, cd, ct, a, l, c, k⟩ := F
  have F := fun_mk (st := st) l c k
  exact ⟨f, _, PySem.W.mg_of X G a, F, F.binds hb⟩
def WebFact (K : PySem.W.Frag) : Prop := ∃ (C f : Addr) (od an : Option Addr) (sl : Array (Option Value)) (oc kV dc pm cd ct : Value), PySem.W.nsIn K mainGlobals "Web" = some (some (.ref C)) ∧ PySem.W.findIn K (.ref C) "__init__" = some (some (.ref f)) ∧ PySem.W.isFn K (.ref f) = true ∧
  K.lookup f = some ⟨oc, od, .func (PySem.W.fnOf "__init__" "Web.__init__" (defArgs s_Web___init__) (defBody s_Web___init__) (defScope s_Web___init__) .none kV dc pm an cd ct), sl⟩ ∧ PySem.W.codeIn K cd "Web.__init__" = true ∧ PySem.W.keepIn K (.ref f) = true ∧
  PySem.W.plainGet K C Str.empty = true ∧ PySem.W.hasDictIn K C = true ∧ PySem.W.plainOver K C = true ∧ PySem.W.findIn K (.ref C) "__setattr__" = some (some (.builtin "object.__setattr__")) ∧ PySem.W.makesIn K C = true ∧ PySem.W.keepIn K (.ref C) = true ∧
  PySem.W.findIn K (.ref C) "memories" = some none ∧ PySem.W.findIn K (.ref C) "ties" = some none ∧ PySem.W.findIn K (.ref C) "near" = some none
theorem web_mk {K : PySem.W.Frag} {C f : Addr} {od an : Option Addr} {sl : Array (Option Value)} {oc kV dc pm cd ct : Value} (aC : PySem.W.nsIn K mainGlobals "Web" = some (some (.ref C))) (ai : PySem.W.findIn K (.ref C) "__init__" = some (some (.ref f))) (ii : PySem.W.isFn K (.ref f) = true)
    (li : K.lookup f = some ⟨oc, od, .func (PySem.W.fnOf "__init__" "Web.__init__" (defArgs s_Web___init__) (defBody s_Web___init__) (defScope s_Web___init__) .none kV dc pm an cd ct), sl⟩) (ci : PySem.W.codeIn K cd "Web.__init__" = true) (ki : PySem.W.keepIn K (.ref f) = true)
    (pg : PySem.W.plainGet K C Str.empty = true) (hd : PySem.W.hasDictIn K C = true) (po : PySem.W.plainOver K C = true) (sa : PySem.W.findIn K (.ref C) "__setattr__" = some (some (.builtin "object.__setattr__"))) (mk : PySem.W.makesIn K C = true) (kc : PySem.W.keepIn K (.ref C) = true)
    (nM : PySem.W.findIn K (.ref C) "memories" = some none) (nT : PySem.W.findIn K (.ref C) "ties" = some none) (nN : PySem.W.findIn K (.ref C) "near" = some none) : WebFact K := ⟨C, f, od, an, sl, oc, kV, dc, pm, cd, ct, aC, ai, ii, li, ci, ki, pg, hd, po, sa, mk, kc, nM, nT, nN⟩
def NumFact (K : PySem.W.Frag) (x : Str) (n : Int) : Prop := ∃ u, PySem.W.nsIn K mainGlobals x = some (some u) ∧ RelV (.int n) u
theorem num_mk {K : PySem.W.Frag} {x : Str} {n : Int} {u : Value} (a : PySem.W.nsIn K mainGlobals x = some (some u)) (r : RelV (.int n) u) : NumFact K x n := ⟨u, a, r⟩
theorem NumFact.g {K : PySem.W.Frag} {h : Heap} {mg : Str → Option Value} {x : Str} {n : Int} (F : NumFact K x n) (X : K.In h) (G : h.Ns mainGlobals mg) : ∃ u, mg x = some u ∧ RelV (.int n) u := by
  obtain ⟨u, a, r⟩ := F
  exact ⟨u, PySem.W.mg_of X G a, r⟩
/-- what the written part says of an error class, told by one test -/
def clsB (K : PySem.W.Frag) (C D : Addr) : Bool :=
  decide (PySem.W.findIn K (.ref C) "__setattr__" = some (some (.builtin "object.__setattr__"))) && (decide (PySem.W.subIn K (.ref C) (.type "BaseException") = some true) && (decide (PySem.W.typeIn K (.ref C) = some (.type "type")) && (PySem.W.keepIn K (.ref C) &&
  (decide (PySem.W.findIn K (.ref C) "__getattribute__" = some (some (.builtin "BaseException.__getattribute__"))) && (decide (PySem.W.findIn K (.ref C) "__getattr__" = some none) && (PySem.W.hasDictIn K C && (decide (PySem.W.findIn K (.ref C) "__class__" = some (some (.builtin "object.__class__"))) &&
  (decide (PySem.W.specialIn K (.builtin "object.__class__") "__get__" = some (some (.builtin "getset_descriptor.__get__"))) && (decide (PySem.W.takesIn K (.builtin "object.__class__") = some true) && (decide (PySem.W.mroIn K C (.type "object") = some true) && (decide (PySem.W.mroIn K C (.ref D) = some true) &&
  (decide (PySem.W.ks_superIn K C D "__init__" = some (some (.builtin "ValueError.__init__"))) && (decide (PySem.W.subIn K (.ref C) (.type "ValueError") = some true) && decide (PySem.W.kitOne K (.ref C) (.type "ValueError") = some true))))))))))))))
structure CF (K : PySem.W.Frag) (x : Str) (C D : Addr) : Prop where
  a : PySem.W.nsIn K mainGlobals x = some (some (.ref C))
  ox : OexC K C
  xf : XfC K C
  ec : ExcC K C
  sc : PySem.W.mroIn K C (.ref D) = some true ∧ PySem.W.ks_superIn K C D "__init__" = some (some (.builtin "ValueError.__init__")) ∧ PySem.W.subIn K (.ref C) (.type "ValueError") = some true
  ve : PySem.W.kitOne K (.ref C) (.type "ValueError") = some true
theorem cf_mk {K : PySem.W.Frag} {x : Str} {C D : Addr} {nm q : Str} {N : Addr} {bs bm : List Value} {sn : List Str} {sub : List Value} {ab : Bool} {col : Option Bool} {dd : Option Addr} {k0 k1 k2 k3 k5 : Option Value} (a : PySem.W.nsIn K mainGlobals x = some (some (.ref C)))
    (lk : K.lookup C = some (excClassObj nm q C N bs bm true sn sub ab col dd k0 k1 k2 k3 k5 "ValueError.__new__")) (hb : PySem.HandSPX.refsVE bm = true) (b : clsB K C D = true) : CF K x C D := by
  unfold clsB at b
  simp only [Bool.and_eq_true, decide_eq_true_eq] at b
  obtain ⟨b1, b2, b3, b4, b5, b6, b7, b8, b9, b10, b11, b12, b13, b14, b15⟩ := b
  exact ⟨a, ⟨⟨nm, q, N, bs, bm, sn, sub, ab, col, dd, k0, k1, k2, k3, k5, lk, hb⟩, b1, b2, b3, b4⟩, ⟨b5, b6, b2, b7⟩, ⟨b5, b6, b2, b7, b8, b9, b10, b11⟩, ⟨b12, b13, b14⟩, b15⟩

theorem all_ok {l : PySem.W.OpenLaw} {w : World} {K : PySem.W.Frag} {h : Heap} {mg : Str → Option Value} {fa : Addr} {C_TagError C_NoDeed fT cda cc : Addr} {ocT kVT dcT pmT ctT ccl clC : Value} {odT anT cdd cld : Option Addr} {slT ccs csl : Array (Option Value)} {vsA : Array Value} {file : Str} {tf : Tok} (X : K.In h) (G : h.Ns mainGlobals mg) (hfa : mg "law" = some (.ref fa))
    (z_len : PySem.W.nsIn K mainGlobals "len" = some none)
    (z_abs : PySem.W.nsIn K mainGlobals "abs" = some none)
    (z_int : PySem.W.nsIn K mainGlobals "int" = some none)
    (z_range : PySem.W.nsIn K mainGlobals "range" = some none)
    (z_tuple : PySem.W.nsIn K mainGlobals "tuple" = some none)
    (z_list : PySem.W.nsIn K mainGlobals "list" = some none)
    (z_sorted : PySem.W.nsIn K mainGlobals "sorted" = some none)
    (z_set : PySem.W.nsIn K mainGlobals "set" = some none)
    (z_enumerate : PySem.W.nsIn K mainGlobals "enumerate" = some none)
    (z_isinstance : PySem.W.nsIn K mainGlobals "isinstance" = some none)
    (z_all : PySem.W.nsIn K mainGlobals "all" = some none)
    (z_max : PySem.W.nsIn K mainGlobals "max" = some none)
    (z_min : PySem.W.nsIn K mainGlobals "min" = some none)
    (z_bool : PySem.W.nsIn K mainGlobals "bool" = some none)
    (z_zip : PySem.W.nsIn K mainGlobals "zip" = some none)
    (z_str : PySem.W.nsIn K mainGlobals "str" = some none)
    (z_ValueError : PySem.W.nsIn K mainGlobals "ValueError" = some none)
    (z_super : PySem.W.nsIn K mainGlobals "super" = some none)
    (v_r : NumFact K "MOST_ROOMS" 60) (v_m : NumFact K "MOST_MEMORY" 30) (v_t : NumFact K "MOST_TAGS" 200) (wf : WebFact K)
    (aT : PySem.W.nsIn K mainGlobals "TagError" = some (some (.ref C_TagError))) (iT : PySem.W.findIn K (.ref C_TagError) "__init__" = some (some (.ref fT))) (tT : PySem.W.typeIn K (.ref fT) = some (.type "function"))
    (lT : K.lookup fT = some ⟨ocT, odT, .func (PySem.W.fnX "__init__" "TagError.__init__" (defArgs s_TagError___init__) (defBody s_TagError___init__) (defScope s_TagError___init__) [("__class__", cc)] .none kVT dcT pmT anT (.ref cda) ctT), slT⟩) (kT : PySem.W.codeIn K (.ref cda) "TagError.__init__" = true)
    (lA : K.lookup cda = some ⟨ccl, cdd, .fields vsA, ccs⟩) (vA : vsA[2]? = some (.str file tf)) (fA : ((l.prog.main.file : Str) == file) = true) (lC : K.lookup cc = some ⟨clC, cld, .cell (some (.ref C_TagError)), csl⟩)
    (cD : (PySem.W.clsIn K C_TagError).isSome = true) (opq : PySem.W.nsIn K cStatics "thirdparty.any" = some none) (top : (l.prog.main.scope.names.lookup ("super" : Str)).isSome = false)
    (c_NoDeed : CF K "NoDeed" C_NoDeed C_TagError) (i_NoDeed : PySem.W.findIn K (.ref C_NoDeed) "__init__" = some (some (.ref fT))) (x_NoDeed : PySem.W.exmOne K (.ref C_NoDeed) (.ref C_TagError) = some true) (s_NoDeed : PySem.W.kitOne K (.ref C_NoDeed) (.ref C_NoDeed) = some true)
    (h_is_integer : Fact K "is_integer" s_is_integer)
    (h_is_number : Fact K "is_number" s_is_number)
    (h_is_between : Fact K "is_between" s_is_between)
    (h_check_tags : Fact K "check_tags" s_check_tags)
    (h_check_memories : Fact K "check_memories" s_check_memories)
    (h_check_ties : Fact K "check_ties" s_check_ties)
    (h_is_tie : Fact K "is_tie" s_is_tie)
    (h_near_lots : Fact K "near_lots" s_near_lots)
    (h_is_room : Fact K "is_room" s_is_room)
    (h_check_room : Fact K "check_room" s_check_room)
    (h_tied : Fact K "tied" s_tied)
    (h_begun : Fact K "begun" s_begun)
    (h_is_ask : Fact K "is_ask" s_is_ask)
    (h_is_deed : Fact K "is_deed" s_is_deed)
    (h_after : Fact K "after" s_after)
    (h_with_deed : Fact K "with_deed" s_with_deed)
    (h_kept_tags : Fact K "kept_tags" s_kept_tags)
    (h_standing_of : Fact K "standing_of" s_standing_of)
    (h_newest : Fact K "newest" s_newest)
    (h_barred : Fact K "barred" s_barred)
    (h_gives_barred : Fact K "gives_barred" s_gives_barred)
    (h_is_past : Fact K "is_past" s_is_past)
    (h_first_barred : Fact K "first_barred" s_first_barred)
    (h__law_hand : Fact K "_law_hand" s__law_hand)
    (h__law_draw : Fact K "_law_draw" s__law_draw)
    (h__law_any : Fact K "_law_any" s__law_any)
    (h__law_is : Fact K "_law_is" s__law_is)
    (h__law_nested : Fact K "_law_nested" s__law_nested)
    (h__law_pairs : Fact K "_law_pairs" s__law_pairs)
    (h__law_parts : Fact K "_law_parts" s__law_parts)
    (h__law_made : Fact K "_law_made" s__law_made)
    (h__law_near : Fact K "_law_near" s__law_near)
    (h__law_start : Fact K "_law_start" s__law_start)
    (h__law_done : Fact K "_law_done" s__law_done)
    (h__law_standing : Fact K "_law_standing" s__law_standing)
    (h__law_bars : Fact K "_law_bars" s__law_bars)
    (h__law_asks : Fact K "_law_asks" s__law_asks)
    (h__law_past : Fact K "_law_past" s__law_past)
    (h__law_int : Fact K "_law_int" s__law_int)
    (h__law_deed_can : Fact K "_law_deed_can" s__law_deed_can)
    (h__law_is_past : Fact K "_law_is_past" s__law_is_past)
    (h__law_odd_deed : Fact K "_law_odd_deed" s__law_odd_deed)
    (h__law_bent_past : Fact K "_law_bent_past" s__law_bent_past)
    (h__law_after_word : Fact K "_law_after_word" s__law_after_word)
    (h__law_deep_parts : Fact K "_law_deep_parts" s__law_deep_parts)
    (h_law : Fact K "law" s_law) :
    ∃ fd : FuncData, (∀ (s : Shared) (v : Value), BindsTo s fd ⟨[v], []⟩ [("_law_script", v)]) ∧ ∀ base : Heap, K.In base → base.Ns mainGlobals mg → FnOk l.prog w K mg base CX0 9 fa fd ["_law_script"] (spLaw K) := by
  have T : HTxt mg := ⟨⟨⟨PySem.W.mg_none_of X G z_len, PySem.W.mg_none_of X G z_abs, PySem.W.mg_none_of X G z_int, PySem.W.mg_none_of X G z_range, PySem.W.mg_none_of X G z_tuple, PySem.W.mg_none_of X G z_list, PySem.W.mg_none_of X G z_sorted, PySem.W.mg_none_of X G z_set, PySem.W.mg_none_of X G z_enumerate, PySem.W.mg_none_of X G z_isinstance, PySem.W.mg_none_of X G z_all, PySem.W.mg_none_of X G z_max, PySem.W.mg_none_of X G z_min, PySem.W.mg_none_of X G z_bool⟩, v_r.g X G, v_m.g X G⟩, PySem.W.mg_none_of X G z_zip, PySem.W.mg_none_of X G z_str, PySem.W.mg_none_of X G z_ValueError, v_t.g X G⟩
  have TS : STxt mg := ⟨T.toTxt, T.n_zip⟩
  obtain ⟨C, fi, odi, ani, sli, oci, kVi, dci, pmi, cdi, cti, aC, ai, ii, li, ci, ki, pg, hd, po, sa, mk, kc, nM, nT, nN⟩ := wf
  have W : WTxt K C := ⟨⟨pg, hd, po, sa⟩, nM, nT, nN⟩
  have FI := fun_mk (st := s_Web___init__) li ci ki
  have bI : Binds K _ ["self", "memories", "ties"] [] := FI.binds fun _ _ _ _ _ _ us hl => match us, hl with | [_, _, _], _ => rfl
  have g_is_integer := h_is_integer.g (ps := ["thing"]) X G fun _ _ _ _ _ _ us hl => match us, hl with | [_], _ => rfl
  have g_is_number := h_is_number.g (ps := ["thing"]) X G fun _ _ _ _ _ _ us hl => match us, hl with | [_], _ => rfl
  have g_is_between := h_is_between.g (ps := ["least", "most", "thing"]) X G fun _ _ _ _ _ _ us hl => match us, hl with | [_, _, _], _ => rfl
  have g_check_tags := h_check_tags.g (ps := ["k"]) X G fun _ _ _ _ _ _ us hl => match us, hl with | [_], _ => rfl
  have g_check_memories := h_check_memories.g (ps := ["memories"]) X G fun _ _ _ _ _ _ us hl => match us, hl with | [_], _ => rfl
  have g_check_ties := h_check_ties.g (ps := ["many", "ties"]) X G fun _ _ _ _ _ _ us hl => match us, hl with | [_, _], _ => rfl
  have g_is_tie := h_is_tie.g (ps := ["many", "thing"]) X G fun _ _ _ _ _ _ us hl => match us, hl with | [_, _], _ => rfl
  have g_near_lots := h_near_lots.g (ps := ["many", "ties"]) X G fun _ _ _ _ _ _ us hl => match us, hl with | [_, _], _ => rfl
  have g_is_room := h_is_room.g (ps := ["web", "thing"]) X G fun _ _ _ _ _ _ us hl => match us, hl with | [_, _], _ => rfl
  have g_check_room := h_check_room.g (ps := ["web", "room"]) X G fun _ _ _ _ _ _ us hl => match us, hl with | [_, _], _ => rfl
  have g_tied := h_tied.g (ps := ["web", "room"]) X G fun _ _ _ _ _ _ us hl => match us, hl with | [_, _], _ => rfl
  have g_begun := h_begun.g (ps := ["web"]) X G fun _ _ _ _ _ _ us hl => match us, hl with | [_], _ => rfl
  have g_is_ask := h_is_ask.g (ps := ["web", "standing", "thing"]) X G fun _ _ _ _ _ _ us hl => match us, hl with | [_, _, _], _ => rfl
  have g_is_deed := h_is_deed.g (ps := ["web", "standing", "thing"]) X G fun _ _ _ _ _ _ us hl => match us, hl with | [_, _, _], _ => rfl
  have g_after := h_after.g (ps := ["web", "standing", "deed"]) X G fun _ _ _ _ _ _ us hl => match us, hl with | [_, _, _], _ => rfl
  have g_with_deed := h_with_deed.g (ps := ["web", "standing", "deed"]) X G fun _ _ _ _ _ _ us hl => match us, hl with | [_, _, _], _ => rfl
  have g_kept_tags := h_kept_tags.g (ps := ["web", "room"]) X G fun _ _ _ _ _ _ us hl => match us, hl with | [_, _], _ => rfl
  have g_standing_of := h_standing_of.g (ps := ["web", "past"]) X G fun _ _ _ _ _ _ us hl => match us, hl with | [_, _], _ => rfl
  have g_newest := h_newest.g (ps := ["tags", "many"]) X G fun _ _ _ _ _ _ us hl => match us, hl with | [_, _], _ => rfl
  have g_barred := h_barred.g (ps := ["web", "standing", "room"]) X G fun _ _ _ _ _ _ us hl => match us, hl with | [_, _, _], _ => rfl
  have g_gives_barred := h_gives_barred.g (ps := ["web", "standing", "deed"]) X G fun _ _ _ _ _ _ us hl => match us, hl with | [_, _, _], _ => rfl
  have g_is_past := h_is_past.g (ps := ["web", "k", "thing"]) X G fun _ _ _ _ _ _ us hl => match us, hl with | [_, _, _], _ => rfl
  have g_first_barred := h_first_barred.g (ps := ["web", "past"]) X G fun _ _ _ _ _ _ us hl => match us, hl with | [_, _], _ => rfl
  have g__law_hand := h__law_hand.g (ps := ["_law_script"]) X G fun _ _ _ _ _ _ us hl => match us, hl with | [_], _ => rfl
  have g__law_draw := h__law_draw.g (ps := ["_law_hand_here", "_law_many"]) X G fun _ _ _ _ _ _ us hl => match us, hl with | [_, _], _ => rfl
  have g__law_any := h__law_any.g (ps := ["_law_hand_here", "_law_items"]) X G fun _ _ _ _ _ _ us hl => match us, hl with | [_, _], _ => rfl
  have g__law_is := h__law_is.g (ps := ["_law_told", "_law_due"]) X G fun _ _ _ _ _ _ us hl => match us, hl with | [_, _], _ => rfl
  have g__law_nested := h__law_nested.g (ps := ["_law_hand_here"]) X G fun _ _ _ _ _ _ us hl => match us, hl with | [_], _ => rfl
  have g__law_pairs := h__law_pairs.g (ps := ["_law_many"]) X G fun _ _ _ _ _ _ us hl => match us, hl with | [_], _ => rfl
  have g__law_parts := h__law_parts.g (ps := ["_law_hand_here", "_law_most", "_law_memory"]) X G fun _ _ _ _ _ _ us hl => match us, hl with | [_, _, _], _ => rfl
  have g__law_made := h__law_made.g (ps := ["_law_parts_here"]) X G fun _ _ _ _ _ _ us hl => match us, hl with | [_], _ => rfl
  have g__law_near := h__law_near.g (ps := ["_law_parts_here", "_law_room"]) X G fun _ _ _ _ _ _ us hl => match us, hl with | [_, _], _ => rfl
  have g__law_start := h__law_start.g (ps := ["_law_parts_here"]) X G fun _ _ _ _ _ _ us hl => match us, hl with | [_], _ => rfl
  have g__law_done := h__law_done.g (ps := ["_law_state", "_law_deed"]) X G fun _ _ _ _ _ _ us hl => match us, hl with | [_, _], _ => rfl
  have g__law_standing := h__law_standing.g (ps := ["_law_parts_here", "_law_state"]) X G fun _ _ _ _ _ _ us hl => match us, hl with | [_, _], _ => rfl
  have g__law_bars := h__law_bars.g (ps := ["_law_parts_here", "_law_state", "_law_room"]) X G fun _ _ _ _ _ _ us hl => match us, hl with | [_, _, _], _ => rfl
  have g__law_asks := h__law_asks.g (ps := ["_law_state"]) X G fun _ _ _ _ _ _ us hl => match us, hl with | [_], _ => rfl
  have g__law_past := h__law_past.g (ps := ["_law_hand_here", "_law_parts_here", "_law_k", "_law_many", "_law_careful"]) X G fun _ _ _ _ _ _ us hl => match us, hl with | [_, _, _, _, _], _ => rfl
  have g__law_int := h__law_int.g (ps := ["_law_thing", "_law_least", "_law_most"]) X G fun _ _ _ _ _ _ us hl => match us, hl with | [_, _, _], _ => rfl
  have g__law_deed_can := h__law_deed_can.g (ps := ["_law_state", "_law_thing"]) X G fun _ _ _ _ _ _ us hl => match us, hl with | [_, _], _ => rfl
  have g__law_is_past := h__law_is_past.g (ps := ["_law_parts_here", "_law_k", "_law_thing"]) X G fun _ _ _ _ _ _ us hl => match us, hl with | [_, _, _], _ => rfl
  have g__law_odd_deed := h__law_odd_deed.g (ps := ["_law_hand_here", "_law_parts_here", "_law_k"]) X G fun _ _ _ _ _ _ us hl => match us, hl with | [_, _, _], _ => rfl
  have g__law_bent_past := h__law_bent_past.g (ps := ["_law_hand_here", "_law_parts_here", "_law_k", "_law_past_here"]) X G fun _ _ _ _ _ _ us hl => match us, hl with | [_, _, _, _], _ => rfl
  have g__law_after_word := h__law_after_word.g (ps := ["_law_web", "_law_standing_here", "_law_deed"]) X G fun _ _ _ _ _ _ us hl => match us, hl with | [_, _, _], _ => rfl
  have g__law_deep_parts := h__law_deep_parts.g (ps := ["_law_hand_here", "_law_most"]) X G fun _ _ _ _ _ _ us hl => match us, hl with | [_, _], _ => rfl
  obtain ⟨f, od, an, sl, oc, kV, dc, pm, cd, ct, a, lk, c, k⟩ := h_law
  have e := hfa.symm.trans (PySem.W.mg_of X G a)
  cases e
  have F := fun_mk (st := s_law) lk c k
  refine ⟨PySem.W.fnOf "law" "law" (defArgs s_law) (defBody s_law) (defScope s_law) .none kV dc pm an cd ct, fun s v => .of_eq rfl, fun base _ _ => ?_⟩
  have S : SupF l.prog K mg C_TagError fT (PySem.W.fnX "__init__" "TagError.__init__" (defArgs s_TagError___init__) (defBody s_TagError___init__) (defScope s_TagError___init__) [("__class__", cc)] .none kVT dcT pmT anT (.ref cda) ctT) :=
    ⟨⟨ocT, odT, slT, kVT, dcT, pmT, anT, cda, ctT, cc, rfl, lT, kT, ⟨ccl, cdd, vsA, ccs, file, tf, lA, vA, fA⟩, ⟨clC, cld, csl, lC⟩⟩, Option.isSome_iff_exists.mp cD, opq, PySem.W.mg_none_of X G z_super, top⟩
  have ST := sup_ok (w := w) (base := base) (k := 0) S
  have bT : Binds K (PySem.W.fnX "__init__" "TagError.__init__" (defArgs s_TagError___init__) (defBody s_TagError___init__) (defScope s_TagError___init__) [("__class__", cc)] .none kVT dcT pmT anT (.ref cda) ctT) ["self"] [] := .all fun us hl => match us, hl with | [_], _ => rfl
  have N : NC l.prog w K mg base "NoDeed" C_NoDeed C_TagError := ⟨PySem.W.mg_of X G c_NoDeed.a, ⟨c_NoDeed.ox, c_NoDeed.sc.1, c_NoDeed.sc.2.1, c_NoDeed.sc.2.2⟩, ⟨c_NoDeed.ox.exC, c_NoDeed.ox.tyC⟩, fT, _, i_NoDeed, tT, ST, bT⟩
  have NE' : NE K mg C_NoDeed C_TagError := ⟨PySem.W.mg_of X G c_NoDeed.a, c_NoDeed.ec, s_NoDeed, c_NoDeed.ve, x_NoDeed⟩
  have G1 := ok_isint (P := l.prog) (w := w) (base := base) T.toTxt g_is_integer
  have G1n := ok_isnum g_is_number G1
  have G2 := ok_btw T.toTxt g_is_between G1
  have G2t := ok_ctags T g_check_tags G2
  have G3 := ok_cmem T.toGTxt g_check_memories G2
  have G4 := ok_istie T.toTxt g_is_tie G2
  have G5 := ok_cties T.toGTxt g_check_ties G4
  have G6 := ok_nlots (P := l.prog) (w := w) (base := base) T.toGTxt g_near_lots
  have M : WMk l.prog w K mg base C := ⟨PySem.W.mg_of X G aC, fi, _, ⟨mk, ai, ii, kc⟩, ok_web T.toGTxt W FI G3 G5 G6, bI⟩
  have G7 := ok_isroom T.toGTxt W g_is_room G2
  have G8 := ok_chroom g_check_room G7
  have G9 := ok_tied W g_tied G8
  have G10 := ok_begun (P := l.prog) (w := w) (base := base) T.toGTxt W g_begun
  have G11 := ok_kept (P := l.prog) (w := w) (base := base) T.toGTxt W g_kept_tags
  have G12 := ok_wd T.toGTxt W g_with_deed G11
  have G13 := ok_newest (P := l.prog) (w := w) (base := base) T.toGTxt g_newest
  have G14 := ok_barred T.toGTxt W g_barred G9
  have G15 := ok_gb T.toGTxt g_gives_barred G14
  have G16 := ok_so T.toGTxt W g_standing_of G11 G13
  have G17 := ok_first T.toGTxt g_first_barred G10 G12 G15
  have G18 := ok_isask T W g_is_ask G7
  have G19 := ok_isdeed T g_is_deed G18 G1n
  have G20 := ok_after T g_after G19 G12 N
  have G21 := ok_ispast T g_is_past G2t G10 G19 G12
  have L1 := ok_hand (P := l.prog) (w := w) (base := base) T.toTxt g__law_hand
  have L2' := ok_draw (P := l.prog) (w := w) (base := base) T.toTxt g__law_draw
  have L3 := ok_any T.toTxt g__law_any L2'
  have L4 := ok_pairs (P := l.prog) (w := w) (base := base) T.toTxt g__law_pairs
  have L5 := ok_parts T.toTxt g__law_parts L2' L4
  have L6 := ok_made M g__law_made
  have L7 := ok_near (P := l.prog) (w := w) (base := base) T.toTxt g__law_near
  have L8 := ok_start (P := l.prog) (w := w) (base := base) T.toTxt g__law_start
  have L9 := ok_done (P := l.prog) (w := w) (base := base) T.toTxt g__law_done
  have L10 := ok_bars T.toTxt g__law_bars L7
  have L11 := ok_asks (P := l.prog) (w := w) (base := base) T.toTxt g__law_asks
  have L12 := ok_past T.toTxt g__law_past L2' L3 L8 L11 L10 L9
  have L14 := ok_deep T.toTxt g__law_deep_parts L2' L3 L4
  have L15 := ok_is (P := l.prog) (w := w) (base := base) TS g__law_is 4
  have L16 := ok_nested TS g__law_nested L3
  have L17 := ok_lstand (P := l.prog) (w := w) (base := base) T g__law_standing
  have L18 := ok_lint (P := l.prog) (w := w) (base := base) T g__law_int
  have L19 := ok_can T g__law_deed_can L18
  have L20 := ok_lispast T g__law_is_past L8 L19 L9
  have L21 := ok_odd T g__law_odd_deed L2' L3 L16
  have L22 := ok_bent T g__law_bent_past L2' L3 L16 L21
  have L23 := ok_aw T g__law_after_word G20 NE' (PySem.W.mg_of X G aT)
  exact ok_law T F L1 L2' L5 L14 L12 L6 L8 G10 L17 L15 G16 G14 L10 L21 L19 L9 L23 G20 G17 G21 L20 L22
theorem walk {l : PySem.W.OpenLaw} {q : Program} {loose : List Str} {XP : (Str → Option Value) → Heap → Prop} {YP : World → Heap → Prop} {d : DefRec} {K : Params → PySem.W.Frag} (hn : l.most = some 63) (hdf : d.params.defaults = [])
    (hY : ∀ (w : World) (h : Heap), YP w h → (K w.params).In h)
    (F : ∀ (w : World) (mg : Str → Option Value) (fa : Addr) (h : Heap), (K w.params).In h → h.Ns mainGlobals mg → mg d.name = some (.ref fa) →
      ∃ fd : FuncData, (∀ (s : Shared) (u : Value), BindsTo s fd ⟨[u], []⟩ [("_law_script", u)]) ∧ ∀ base : Heap, (K w.params).In base → base.Ns mainGlobals mg → FnOk l.prog w (K w.params) mg base CX0 9 fa fd ["_law_script"] (spLaw (K w.params))) :
    PySem.W.WalkO q loose XP YP l.row.toRowW d [] (fun f vs => PySem.call f vs) :=
  L2.walk_of (n := 63) (k := 9) (x := "_law_script") (CX := fun _ => CX0) (sp := fun w => spLaw (K w.params)) hn (by decide) hdf ⟨rfl, by decide, by decide⟩ hY F (fun _ _ a ns hl _ hS => ⟨a, ns, rfl, hS, hl, fun _ => rfl⟩) fun _ _ _ _ _ z => z
end W1

set_option maxRecDepth 100000
open PySem PySem.W PyProof.Rows
local macro_rules | `(tactic| walk_at "fact") => `(tactic| (refine' W1.fact_mk ?a ?l ?c ?k; (case a => k_is); (case l => k_is); (case c => k_is); (case k => k_is)))
local macro_rules | `(tactic| walk_at "cf") => `(tactic| (refine' W1.cf_mk ?a ?lk ?hb ?b; (case a => k_is); (case lk => k_is); (case hb => first | rfl | decide +kernel | k_is); (case b => first | kernel_rfl | rfl | decide +kernel)))
set_option maxHeartbeats 0 in
theorem PySem.Challenge.cw_staletags_k03_whole_pasts_bars_and_stand_holds : PySem.Challenge.rw_staletags_k03_whole_pasts_bars_and_stand.Holds := by
  w_on; o_law; k_head; (case hw => w_witness2)
  k_fill
  refine W1.walk (l := PySem.Challenge.rw_staletags_k03_whole_pasts_bars_and_stand) rfl rfl (fun w h Y => PySem.W.kIn_of Y) ?F
  case F =>
    intro w mg fa h KX G hmg
    refine' W1.all_ok (l := PySem.Challenge.rw_staletags_k03_whole_pasts_bars_and_stand) KX G hmg ?z_len ?z_abs ?z_int ?z_range ?z_tuple ?z_list ?z_sorted ?z_set ?z_enumerate ?z_isinstance ?z_all ?z_max ?z_min ?z_bool ?z_zip ?z_str ?z_ValueError ?z_super ?vr ?vm ?vt ?wf ?aT ?iT ?tT ?lT ?kT ?lA ?vA ?fA ?lC ?cD ?opq ?top ?cN ?iN ?xN ?sN ?h_is_integer ?h_is_number ?h_is_between ?h_check_tags ?h_check_memories ?h_check_ties ?h_is_tie ?h_near_lots ?h_is_room ?h_check_room ?h_tied ?h_begun ?h_is_ask ?h_is_deed ?h_after ?h_with_deed ?h_kept_tags ?h_standing_of ?h_newest ?h_barred ?h_gives_barred ?h_is_past ?h_first_barred ?h__law_hand ?h__law_draw ?h__law_any ?h__law_is ?h__law_nested ?h__law_pairs ?h__law_parts ?h__law_made ?h__law_near ?h__law_start ?h__law_done ?h__law_standing ?h__law_bars ?h__law_asks ?h__law_past ?h__law_int ?h__law_deed_can ?h__law_is_past ?h__law_odd_deed ?h__law_bent_past ?h__law_after_word ?h__law_deep_parts ?h_law
    (case z_len => k_is)
    (case z_abs => k_is)
    (case z_int => k_is)
    (case z_range => k_is)
    (case z_tuple => k_is)
    (case z_list => k_is)
    (case z_sorted => k_is)
    (case z_set => k_is)
    (case z_enumerate => k_is)
    (case z_isinstance => k_is)
    (case z_all => k_is)
    (case z_max => k_is)
    (case z_min => k_is)
    (case z_bool => k_is)
    (case z_zip => k_is)
    (case z_str => k_is)
    (case z_ValueError => k_is)
    (case z_super => k_is)
    (case vr => refine' W1.num_mk ?a ?r; (case a => k_is); (case r => exact ⟨_, rfl⟩))
    (case vm => refine' W1.num_mk ?a ?r; (case a => k_is); (case r => exact ⟨_, rfl⟩))
    (case vt => refine' W1.num_mk ?a ?r; (case a => k_is); (case r => exact ⟨_, rfl⟩))
    (case wf => refine' W1.web_mk ?aC ?ai ?ii ?li ?ci ?ki ?pg ?hd ?po ?sa ?mk ?kc ?nM ?nT ?nN; (case aC => k_is); (case ai => k_is); (case ii => k_is); (case li => k_is); (case ci => k_is); (case ki => k_is); (case pg => k_is); (case hd => k_is); (case po => k_is); (case sa => k_is); (case mk => k_is); (case kc => k_is); (case nM => k_is); (case nT => k_is); (case nN => k_is))
    (case aT => k_is)
    (case iT => k_is)
    (case tT => k_is)
    (case lT => k_is)
    (case kT => k_is)
    (case lA => k_is)
    (case vA => first | rfl | k_is)
    (case fA => first | rfl | decide +kernel | k_is)
    (case lC => k_is)
    (case cD => first | kernel_rfl | rfl)
    (case opq => k_is)
    (case top => first | rfl | decide +kernel | k_is)
    (case cN => walk_at "cf")
    (case iN => k_is)
    (case xN => first | kernel_rfl | rfl | k_is)
    (case sN => first | kernel_rfl | rfl | k_is)
    (case h_is_integer => walk_at "fact")
    (case h_is_number => walk_at "fact")
    (case h_is_between => walk_at "fact")
    (case h_check_tags => walk_at "fact")
    (case h_check_memories => walk_at "fact")
    (case h_check_ties => walk_at "fact")
    (case h_is_tie => walk_at "fact")
    (case h_near_lots => walk_at "fact")
    (case h_is_room => walk_at "fact")
    (case h_check_room => walk_at "fact")
    (case h_tied => walk_at "fact")
    (case h_begun => walk_at "fact")
    (case h_is_ask => walk_at "fact")
    (case h_is_deed => walk_at "fact")
    (case h_after => walk_at "fact")
    (case h_with_deed => walk_at "fact")
    (case h_kept_tags => walk_at "fact")
    (case h_standing_of => walk_at "fact")
    (case h_newest => walk_at "fact")
    (case h_barred => walk_at "fact")
    (case h_gives_barred => walk_at "fact")
    (case h_is_past => walk_at "fact")
    (case h_first_barred => walk_at "fact")
    (case h__law_hand => walk_at "fact")
    (case h__law_draw => walk_at "fact")
    (case h__law_any => walk_at "fact")
    (case h__law_is => walk_at "fact")
    (case h__law_nested => walk_at "fact")
    (case h__law_pairs => walk_at "fact")
    (case h__law_parts => walk_at "fact")
    (case h__law_made => walk_at "fact")
    (case h__law_near => walk_at "fact")
    (case h__law_start => walk_at "fact")
    (case h__law_done => walk_at "fact")
    (case h__law_standing => walk_at "fact")
    (case h__law_bars => walk_at "fact")
    (case h__law_asks => walk_at "fact")
    (case h__law_past => walk_at "fact")
    (case h__law_int => walk_at "fact")
    (case h__law_deed_can => walk_at "fact")
    (case h__law_is_past => walk_at "fact")
    (case h__law_odd_deed => walk_at "fact")
    (case h__law_bent_past => walk_at "fact")
    (case h__law_after_word => walk_at "fact")
    (case h__law_deep_parts => walk_at "fact")
    (case h_law => walk_at "fact")

