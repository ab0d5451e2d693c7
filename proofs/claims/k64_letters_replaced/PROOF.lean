import PyProof.Rows.All
import Wide.All
import OpenK.AllK
import Wide.FinOn
import HandS.ForMost
import HandS.SetKeys
import HandS.Walk
import HandS.Style
import HandS.SetFor
import HandS.IsInst
import HandS.Wide
import PyProof.Draws
import PyProof.EnumMake
import HandS.Replace
import HandS.Exc
import HandS.WordsExc
import HandS.ExcInit
import HandS.ExcField
import HandS.ExcIs
import HandS.TryOnly
import HandS.CallSlots
import HandS.ExcOwn
import PyProof.ReprRoads
import HandS.Ends
import HandS.EndOwn
import HandS.RaiseMore
import HandS.TupAny
import HandS.TupMul
import PyProof.TupleOfStr
import PyProof.NeKinds
import PyProof.EqAt
import PyProof.ReprBulk
import PyProof.Rows.StrBin
import PyProof.Rows.ReprOcc
import PyProof.ReprLen
import KE.KIndexOf
import HandS.TryMany
import KE.KExcInit
import PyProof.ExcBaseAll.OverflowError
import HandS.Evl
import PyProof.WalksMore
import HandS.DictEq
import HandS.DictComp
import PyProof.ListStr
import KE.GoesEnum
import HandS.Call
import HandS.Comp
import KE.KEqSeq
import PyProof.Rows.StrOr
import PySem.Challenge.RW_mustoccur_k64_letters_replaced
set_option Elab.async false
set_option linter.all false
set_option maxRecDepth 100000
set_option maxHeartbeats 8000000
/-! Rules that the laws of this program want and the layer lacks: repr and reversal of a text, enumerate of a text, the set of a text's signs and its size. -/
namespace Mo
open PySem PySem.Spec PyProof.Rows L2
/-! ### signs met, in the order of first occurrence -/
def metStep (acc : List Nat) (c : Nat) : List Nat := if c ∈ acc then acc else acc ++ [c]
def met (cs : List Nat) : List Nat := cs.foldl metStep []
theorem met_snoc (cs : List Nat) (c : Nat) : met (cs ++ [c]) = metStep (met cs) c := by
  unfold met
  rw [List.foldl_append]
  rfl
theorem mem_metStep {acc : List Nat} {c d : Nat} : d ∈ metStep acc c ↔ d ∈ acc ∨ d = c := by
  unfold metStep
  by_cases h : c ∈ acc
  · rw [if_pos h]
    constructor
    · exact Or.inl
    · rintro (q | q)
      · exact q
      · rw [q]; exact h
  · rw [if_neg h, List.mem_append, List.mem_singleton]
theorem mem_fold : ∀ (cs acc : List Nat) (d : Nat), d ∈ cs.foldl metStep acc ↔ d ∈ acc ∨ d ∈ cs
  | [], acc, d => by simp
  | c :: cs, acc, d => by
    rw [List.foldl_cons, mem_fold cs (metStep acc c) d, mem_metStep, List.mem_cons, or_assoc]
theorem mem_met {cs : List Nat} {d : Nat} : d ∈ met cs ↔ d ∈ cs := by
  unfold met
  rw [mem_fold]
  simp
theorem metStep_length (acc : List Nat) (c : Nat) : (metStep acc c).length = if c ∈ acc then acc.length else acc.length + 1 := by
  unfold metStep
  split <;> simp
theorem metStep_nodup {acc : List Nat} (h : acc.Nodup) (c : Nat) : (metStep acc c).Nodup := by
  unfold metStep
  by_cases q : c ∈ acc
  · rw [if_pos q]; exact h
  · rw [if_neg q]
    exact List.nodup_append.mpr ⟨h, by simp, by rintro a ha b hb rfl; exact q (by rw [← List.mem_singleton.mp hb]; exact ha)⟩
theorem fold_nodup : ∀ (cs acc : List Nat), acc.Nodup → (cs.foldl metStep acc).Nodup
  | [], _, h => h
  | c :: cs, _, h => fold_nodup cs _ (metStep_nodup h c)
theorem met_nodup (cs : List Nat) : (met cs).Nodup := fold_nodup cs [] List.nodup_nil
theorem met_length_le : ∀ cs : List Nat, (met cs).length ≤ cs.length := fun cs => by
  have key : ∀ (cs acc : List Nat), (cs.foldl metStep acc).length ≤ acc.length + cs.length := by
    intro cs
    induction cs with
    | nil => intro acc; simp
    | cons c cs ih =>
      intro acc
      rw [List.foldl_cons]
      have h1 := ih (metStep acc c)
      have h2 := metStep_length acc c
      rw [List.length_cons]
      split at h2 <;> omega
  have h := key cs []
  simpa [met] using h
/-- the keys that are signs of cs -/
def inS (cs : List Nat) (k : Key) : Bool := cs.any fun c => decide (k = Sum.inr (⟨#[c]⟩ : Str))
theorem sign_inj {c d : Nat} (h : (⟨#[c]⟩ : Str) = ⟨#[d]⟩) : c = d := by
  injection h with h
  simpa using h
theorem inS_sign (cs : List Nat) (c : Nat) : inS cs (Sum.inr ⟨#[c]⟩) = decide (c ∈ cs) := by
  unfold inS
  by_cases h : c ∈ cs
  · rw [decide_eq_true h]
    exact List.any_eq_true.mpr ⟨c, h, decide_eq_true rfl⟩
  · rw [decide_eq_false h]
    cases q : cs.any fun d => decide ((Sum.inr ⟨#[c]⟩ : Key) = Sum.inr ⟨#[d]⟩) with
    | false => rfl
    | true =>
      obtain ⟨d, hd, e⟩ := List.any_eq_true.mp q
      exact absurd (by rw [sign_inj (Sum.inr.inj (of_decide_eq_true e))]; exact hd) h
section
variable {P : Program} {w : World} {A : Around} {E : Value → Shared → Prop} {s : Shared}
theorem signs_loop {I : Addr} {fp wr : List Addr} {G : Array GenState → Array GenState → Prop} {n : Nat} {Pv : Nat → Value → Prop} {St : Nat → Shared → Prop} {R : Result → Shared → Prop}
    (W : WalksS P w A.in1 I fp wr G n Pv St) (D : Addr) (hD : D ∉ fp) (cs : List Nat) (hn : n = cs.length) (hb : cs.length + 1 < scanBound)
    (hval : ∀ i v, Pv i v → ∃ c t, cs[i]? = some c ∧ v = .str ⟨#[c]⟩ t) :
    ∀ (k i : Nat) (s : Shared), n - i = k → i ≤ n → St i s → s.heap.SetOf (mixKind P w) D (inS (cs.take i)) (met (cs.take i)).length →
      (∀ s', Moved (D :: wr) G s s' → s'.heap.SetOf (mixKind P w) D (inS cs) (met cs).length → R (.ok (.ret .none)) s') →
      codeAny (model P w) A (.builtin "set.update.loop" ⟨[.ref D, .ref I], []⟩) R s := by
  have hDw : D ∉ wr := fun h => hD (W.sub _ h)
  have up : ∀ b ∈ wr, b ∈ D :: wr := fun b q => List.mem_cons_of_mem _ q
  intro k
  induction k with
  | zero =>
    intro i s hk hi hst hS hR
    obtain rfl : i = n := by omega
    refine codeAny_builtin PyProof.Rows.F.entry_set_update_loop (by
      rw [Around.under_plainId PyProof.Rows.F.plain_set_update_loop _]
      show wpAny _ A.in1 (pyNext (.ref I) >>= _) _ _ s
      refine wpAny_bind (W.done s _ _ hst fun s' hm => wpAny_pure (hR s' (hm.mono up) ?_))
      rw [List.take_of_length_le (by omega)] at hS
      obtain ⟨o, es, ep, t, ho, rest⟩ := hS
      exact ⟨o, es, ep, t, hm.heap D _ hDw ho, rest⟩)
  | succ k ih =>
    intro i s hk hi hst hS hR
    have hlt : i < n := by omega
    refine codeAny_builtin PyProof.Rows.F.entry_set_update_loop (by
      rw [Around.under_plainId PyProof.Rows.F.plain_set_update_loop _]
      show wpAny _ A.in1 (pyNext (.ref I) >>= _) _ _ s
      refine wpAny_bind (W.item i s _ _ hlt hst fun v s' hP hst' hm => ?_)
      obtain ⟨c, t, hc, rfl⟩ := hval i v hP
      have hS' : s'.heap.SetOf (mixKind P w) D (inS (cs.take i)) (met (cs.take i)).length := by
        obtain ⟨o, es, ep, tb, ho, rest⟩ := hS
        exact ⟨o, es, ep, tb, hm.heap D _ hDw ho, rest⟩
      show wpAny _ A.in1 (holding [Value.str ⟨#[c]⟩ t] (setAdd D (.str ⟨#[c]⟩ t)) >>= _) _ _ s'
      refine wpAny_bind (wpAny_holding (by
        unfold setAdd
        refine wpAny_holding (wpAny_bind ((mixKind P w).pyHash (k := Sum.inr ⟨#[c]⟩) (mixKind_str _ _ _ _) ?_))
        have room : (met (cs.take i)).length + 1 < scanBound := by
          have h1 := met_length_le (cs.take i)
          rw [List.length_take] at h1
          omega
        refine wpAny_setAddHashed_of (knd := mixKind P w) (s := { s' with toks := s'.toks + 1 }) (mixKind_str _ _ _ _) rfl hS' room fun h' hsb hS2 => ?_
        have e3 : cs.take (i + 1) = cs.take i ++ [c] := by
          rw [List.take_add_one, hc]
          rfl
        have hS3 : h'.SetOf (mixKind P w) D (inS (cs.take (i + 1))) (met (cs.take (i + 1))).length := by
          have f1 : (fun k' => inS (cs.take i) k' || decide (k' = Sum.inr (⟨#[c]⟩ : Str))) = inS (cs.take (i + 1)) := by
            funext k'
            rw [e3]
            unfold inS
            rw [List.any_append]
            simp
          have f2 : (if inS (cs.take i) (Sum.inr ⟨#[c]⟩) = true then (met (cs.take i)).length else (met (cs.take i)).length + 1) = (met (cs.take (i + 1))).length := by
            rw [e3, met_snoc, metStep_length, inS_sign]
            by_cases q : c ∈ cs.take i
            · rw [if_pos (decide_eq_true q), if_pos (mem_met.mpr q)]
            · rw [if_neg (by rw [decide_eq_false q]; exact Bool.false_ne_true), if_neg (fun z => q (mem_met.mp z))]
          rw [← f1, ← f2]
          exact hS2
        refine wpAny_pure ⟨plainId_quiet PyProof.Rows.F.plain_set_update_loop _, ih (i + 1) _ (by omega) hlt (W.frame _ s' _ _ hst' (Nat.le_succ _) fun b q o e => ?_) hS3 fun s2 hm2 hS4 => ?_⟩
        · rw [hsb.2 b (fun z : b = D => hD (by rw [← z]; exact q))]
          exact e
        · refine hR s2 (Moved.trans W.gtrans ((hm.mono up).then_heap (Nat.le_succ _) fun b o q e => ?_) hm2) hS4
          rw [hsb.2 b (fun z : b = D => q (by rw [z]; exact List.mem_cons_self))]
          exact e)))

set_option maxHeartbeats 8000000 in
/-- set(a text) -/
theorem call_set_signs {z : Str} {t : Tok} {Q : Value → Shared → Prop} (hh : A.handled = none) (hb : z.cps.size + 1 < scanBound)
    (h : ∀ (h' : Heap) (tk : Nat), h'.SetOf (mixKind P w) s.heap.objs.size (inS z.cps.toList) (met z.cps.toList).length → (∀ b o, s.heap.get? b = some o → h'.get? b = some o) → Q (.ref s.heap.objs.size) { s with heap := h', toks := tk }) :
    wpAny (model P w) A (call (.type "set") [.str z t]) Q E s := by
  obtain ⟨c, tl, hmro⟩ := PySem.F.called_set.mro
  have hmade := PySem.F.called_set.made; have hsub := PySem.F.called_set.sub
  refine wpAny_call (codeAny_of_tree (by
    show wpAny _ _ (callAny (.type "set") _) _ _ _
    refine wpAny_pure ⟨Code.quiet_builtin _ (by decide +kernel), codeAny_builtin PySem.F.entry_type_call ?_⟩
    rw [Around.under_plain (weight_type_call_type "set" [.str z t] []) rfl]
    have h1 := PySem.F.called_set.notType; have h2 := PySem.F.called_set.canCreate
    have hct := PySem.F.typeCall_set_1 (.str z t)
    repeat (any_goals (first | assumption | wp_step))
    refine codeAny_mono (code_set_new_1 (.str z t) (E := E) (Q₁ := fun obj s₁ => ∃ led : Bool, obj = .ref s.heap.objs.size ∧ s₁ = { s with heap := s.heap.push { cls := .type "set", dict := none, data := .set #[] 0 (.fresh 0 0 led) } }) fun led => ⟨led, rfl, rfl⟩) fun r s₁ hr => ?_
    cases r with
    | error e => exact hr
    | ok fl =>
      cases fl with
      | ret obj =>
        obtain ⟨led, rfl, rfl⟩ := hr
        generalize hNew : ({ cls := .type "set", dict := none, data := .set #[] 0 (.fresh 0 0 led) } : Obj) = nw
        have hfr : ∀ (h : Heap) (a : Addr), h.get? a = some nw → h.SetOf (mixKind P w) a (inS []) (met []).length := by
          intro h a e
          rw [← hNew] at e
          exact ⟨_, #[], 0, _, e, ⟨rfl, rfl, rfl⟩, rfl, (fun e he => by simp at he), (fun k => by simp [inS]), (by decide), (by rfl), rfl⟩
        have hcls : nw.cls = .type "set" := by rw [← hNew]
        have hnf : nw.isFreed = false := by rw [← hNew]; rfl
        have hS : (s.heap.push nw).get? s.heap.objs.size = some nw := Heap.get?_push_size _ hnf
        have hT : Shared.TypeIs { s with heap := s.heap.push nw } (.ref s.heap.objs.size) "set" := ⟨_, hS, hcls⟩
        have hli := PySem.F.called_set.init.lookup; have hbi := PySem.F.called_set.init.bind (.ref s.heap.objs.size)
        repeat (any_goals (first | assumption | wp_step))
        refine codeAny_mono (codeAny_call_builtin (R := wants (fun r s₂ => r = .none ∧ ∃ h' tk, s₂ = { s with heap := h', toks := tk } ∧ h'.SetOf (mixKind P w) s.heap.objs.size (inS z.cps.toList) (met z.cps.toList).length ∧
          (∀ b o, s.heap.get? b = some o → h'.get? b = some o)) E) PySem.F.called_set.init.plain PySem.F.entry_set_init (check_set_init_1 hT ?_)) fun r₂ s₂ hr₂ => ?_
        · subst hNew
          have n1 : isSubtype (.type "str") (.type "set") = pure false := by rw [isSubtype_type]; kernel_rfl
          have n2 : isSubtype (.type "str") (.type "frozenset") = pure false := by rw [isSubtype_type]; kernel_rfl
          have n3 : (Value.type "str" == Value.type "dict") = false := by decide
          unfold Builtin.«set.__init__» noKeywords Builtin.Frozenset.updateFrom
          generalize hPI : pyIter = PI
          wp_walk
          subst hPI
          have hh3 : A.in1.in1.in1.handled = none := by simp [hh]
          generalize hNew : ({ cls := .type "set", data := .set #[] 0 (.fresh 0 0 led) } : Obj) = nw at *
          have hz1 : (s.heap.push nw).objs.size = s.heap.objs.size + 1 := Heap.size_push ..
          have fin : ∀ (ty : String) (wk : Walks P w A.in1.in1.in1 (s.heap.push nw).objs.size [(s.heap.push nw).objs.size] [(s.heap.push nw).objs.size] z.cps.size (SignAt z) (fun i h => h.IsStrIter (s.heap.push nw).objs.size ty z t i))
              (Rk : Result → Shared → Prop), (∀ h' tk, h'.SetOf (mixKind P w) s.heap.objs.size (inS z.cps.toList) (met z.cps.toList).length → (∀ b o, s.heap.get? b = some o → h'.get? b = some o) → Rk (.ok (.ret .none)) { s with heap := h', toks := tk }) →
              codeAny (model P w) A.in1.in1 (.builtin "set.update.loop" ⟨[.ref s.heap.objs.size, .ref (s.heap.push nw).objs.size], []⟩) Rk
                { s with heap := (s.heap.push nw).push { cls := .type ty, data := .fields #[.str z t, .int 0 0] } } := by
            intro ty wk Rk hR
            refine signs_loop (wk.toS) s.heap.objs.size (by rw [hz1]; simp) z.cps.toList (by simp) (by simpa using hb) (fun i v hv => ?_) (z.cps.size - 0) 0 _ (by omega) (Nat.zero_le _) ⟨_, Heap.get?_push_size _ rfl, rfl, rfl⟩ ?_ ?_
            · obtain ⟨c, u, hc, rfl⟩ := hv
              exact ⟨c, u, by rw [Array.getElem?_toList]; exact hc, rfl⟩
            · exact hfr _ _ (Heap.get?_push_of_some _ hS)
            · intro s' hm hS'
              obtain ⟨h', g', d', tk', os'⟩ := s'
              obtain rfl : g' = s.gens := hm.gens
              obtain rfl : d' = s.drawn := hm.drawn
              obtain rfl : os' = s.os := hm.os
              refine hR h' tk' hS' fun b o e => ?_
              have hb0 : b < s.heap.objs.size := Heap.lt_size e
              have n1 : b ∉ s.heap.objs.size :: [(s.heap.push nw).objs.size] := by
                rw [hz1]
                intro q
                rcases List.mem_cons.mp q with q | q
                · exact Nat.ne_of_lt hb0 q
                · exact Nat.ne_of_lt (Nat.lt_succ_of_lt hb0) (List.mem_singleton.mp q)
              exact hm.heap b o n1 (Heap.get?_push_of_some _ (Heap.get?_push_of_some _ e))
          cases ha : z.cps.all (· < 128)
          · refine wpAny_pyIter_wide ha (wpAny_bind (wpAny_runValue (fin _ (Walks.strWide hh3 _ z t) _ fun h' tk hS2 hk2 => wpAny_pure ?_)))
            exact wpAny_pure ⟨rfl, h', tk, rfl, hS2, hk2⟩
          · refine wpAny_pyIter_ascii ha (wpAny_bind (wpAny_runValue (fin _ (Walks.strAscii hh3 _ z t) _ fun h' tk hS2 hk2 => wpAny_pure ?_)))
            exact wpAny_pure ⟨rfl, h', tk, rfl, hS2, hk2⟩
        · cases r₂ with
          | error e => exact hr₂
          | ok fl₂ =>
            cases fl₂ with
            | ret r =>
              obtain ⟨rfl, h', tk, rfl, hS', hk'⟩ := hr₂
              repeat (any_goals (first | assumption | wp_step))
              exact h _ _ hS' hk'
            | _ => exact hr₂.elim
      | _ => exact hr.elim))
end
end Mo

namespace Mo
open PySem PySem.Spec PyProof.Rows L2
/-! ### the rules over the layer -/
section
variable {X : Cx}
def rSetS (P : Program) (w : World) : List V → Hp → VK → Prop := fun xs H Q => ∃ z : Str, xs = [.str z] ∧ z.cps.size ≤ 4000 ∧ ∀ p, H p = none → Q (.ref p) (upd H p (SetK P w p (inS z.cps.toList) (met z.cps.toList).length))
/-- set(z), z a text -/
theorem cr_setS (hc : X.calm = true) : CallR X (.type "set") (rSetS X.prog X.w) := by
  intro pins s σ H xs us Q I r h
  obtain ⟨z, rfl, hz, q⟩ := h
  obtain ⟨u, rfl, t, rfl⟩ := vals1 r
  refine call_set_signs (I.ok.hd hc) (by unfold scanBound; omega) fun h' tk hS hk => ?_
  exact ⟨.ref _, _, I.laid (t' := tk) hk (Nat.le_refl _) (setK_new hS), rfl, q _ (I.hok.fresh (Nat.le_refl _))⟩
def rLenK (P : Program) (w : World) : List V → Hp → VK → Prop := fun xs H Q => ∃ a S n, xs = [V.ref a] ∧ H a = some (SetK P w a S n) ∧ (n : Int) < 2 ^ 62 ∧ Q (.int (n : Nat)) H
/-- len(a set) -/
theorem cr_lenK : CallR X (.builtin "len") (rLenK X.prog X.w) := by
  intro pins s σ H xs us Q I r h
  obtain ⟨a, S, n, rfl, ha, hn, q⟩ := h
  obtain ⟨u, rfl, ru⟩ := vals1 r
  cases ru
  obtain ⟨o, es, ep, t, ho, hex, hd, _, _, _, hf, hes⟩ := setK_get I ha
  refine call_len_set ho hex hd hf (by rw [hes]; omega) ⟨.int (n : Nat), H, I.tok _, ⟨_, by rw [hes]⟩, q⟩
/-- repr(z), z a text -/
theorem cr_reprS : CallR X (.builtin "repr") (fun xs H Q => ∃ z : Str, xs = [.str z] ∧ (reprText z).length ≤ sizeLine ∧ Q (.str (reprText z)) H) := by
  intro pins s σ H xs us Q I r h
  obtain ⟨z, rfl, hz, q⟩ := h
  obtain ⟨u, rfl, t, rfl⟩ := vals1 r
  exact PySem.P.repr_of_str ⟨.str _, H, I.tok _, ⟨_, rfl⟩, q⟩ hz
/-! rules within a comprehension's block: the written part named, so that the reading is the same in every block -/
def rLenSq (K : PySem.W.Frag) : List V → Hp → VK → Prop := fun xs H Q => ∃ p ys, xs = [.ref p] ∧ (SqL K H p ys ∨ SqT K H p ys) ∧ Q (.int ys.length) H
theorem call_len_seqK {K : PySem.W.Frag} (h : X.K = K) : CallR X (.builtin "len") (rLenSq K) := by
  subst h
  exact call_len_seq
theorem ix_listK {K : PySem.W.Frag} (h : X.K = K) : IxR X (rIxL K) := by
  subst h
  exact ix_list
theorem op_notIn_seqK {K : PySem.W.Frag} (h : X.K = K) : OpR X (compareOp .NotIn) (rIn K true) := by
  subst h
  exact op_notIn_seq
theorem op_in_seqK {K : PySem.W.Frag} (h : X.K = K) : OpR X (compareOp .In) (rIn K false) := by
  subst h
  exact op_in_seq
theorem pg_tupK {K : PySem.W.Frag} {es : List Expr} {t : TGs} {k n : Nat} {pos : Pos} (h : X.K = K) (hc : X.calm = true) (hs : PGs X es t)
    (hn : (assignEach es X.env).length = n := by rfl) (hst : (assignEach es X.env).findIdx? (·.1) = none := by rfl) : PG X (.Tuple es k pos) (gTup K n t) := by
  subst h
  exact pg_tup hc hs hn hst
/-- z[::-1], z a text -/
def revS (z : Str) : Str := ⟨z.cps.toList.reverse.toArray⟩
def tRevS (te : TE) : TE := fun σ H Q => te σ H fun x H1 => ∃ z, x = .str z ∧ z.length ≤ sizeLine ∧ Q (.str (revS z)) H1
theorem back_idx (n : Nat) : Builtin.Str.strSliceIndices none none (-1) n = (List.range n).reverse := by
  show sliceRange ((n : Int) - 1) (-1) (-1) = _
  rw [PySem.W.krv_sliceRange, PySem.W.krv_range]
theorem back_pick (z : Str) : ((Builtin.Str.strSliceIndices none none (-1) z.length).filterMap (z.cps[·]?)).toArray = z.cps.toList.reverse.toArray := by
  rw [back_idx, List.filterMap_reverse]
  show ((List.range z.cps.size).filterMap (z.cps[·]?)).reverse.toArray = _
  rw [PySem.W.krv_all]
theorem pe_revS {e : Expr} {te : TE} {k : Nat} {p1 p2 p3 pos : Pos} (he : PE X e te) : PE X (.Subscript e (.Slice none none (some (.UnaryOp .USub (.Constant (.int 1) k p1) p2)) p3) pos) (tRevS te) := by
  refine ⟨fun pins s σ H Q I h => ?_⟩
  refine Subscript_ (thn (he.run pins s σ H _ I h) fun v s1 ⟨x, H1, I1, r1, z, ez, hz, q⟩ => ?_)
  subst ez
  obtain ⟨t, rfl⟩ := r1
  have hst : PO X (some (.UnaryOp .USub (.Constant (.int 1) k p1) p2)) (tPart (tUn (rU fun i => .int (-i)) (tC (.int 1)))) := po_some (pe_un un_neg pe_int)
  refine wpAny_Slice (thn (po_none.run pins s1 σ H1 (fun o H2 => o = none ∧ H2 = H1) I1 ⟨rfl, rfl⟩) fun vl s2 ⟨l, H2, I2, pl, el, e2⟩ => ?_)
  subst el e2
  refine thn (po_none.run pins s2 σ H2 (fun o H3 => o = none ∧ H3 = H2) I2 ⟨rfl, rfl⟩) fun vu s3 ⟨u, H3, I3, pu, eu, e3⟩ => ?_
  subst eu e3
  refine thn (hst.run pins s3 σ H3 (fun o H4 => o = some (-1) ∧ H4 = H3) I3 ⟨1, rfl, -1, rfl, rfl, rfl⟩) fun vs s4 ⟨o, H4, I4, ps, eo, e4⟩ => ?_
  subst eo e4
  have I5 : Inv X pins σ H4 { s4 with heap := s4.heap.push { cls := .type "slice", data := .fields #[vl, vu, vs] } } := I4.kept (t' := s4.toks) fun b ob q => Heap.get?_push_of_some _ q
  obtain ⟨l, rfl, el⟩ := IsPart.raw pl
  obtain ⟨u, rfl, eu⟩ := IsPart.raw pu
  obtain ⟨sp, rfl, es⟩ := IsPart.raw ps
  show wpAny (model X.prog X.w) X.A (subscriptTail e (.Slice none none (some (.UnaryOp .USub (.Constant (.int 1) k p1) p2)) p3) (.str z t) (.ref s4.heap.objs.size)) (EP X pins σ Q) X.xe { s4 with heap := s4.heap.push { cls := .type "slice", data := .fields #[partValue l, partValue u, partValue sp] } }
  refine tail_any (ops := [.str z t, .ref s4.heap.objs.size]) (typeIs_str _ _ _) (F.slot_str_getitem.lookup) ?_ (by with_unfolding_all rfl)
  refine wpAny_getItem_str_slice (l := l) (u := u) (st := sp) ⟨_, Heap.get?_push_size _ rfl, rfl, rfl⟩ (by rw [es]; rfl) ?_
  unfold sliceMade slicePicked
  rw [el, eu, es]
  show Made.post (Made.str ⟨((Builtin.Str.strSliceIndices none none (-1) z.length).filterMap (z.cps[·]?)).toArray⟩) (EP X pins σ Q) _
  rw [back_pick]
  refine ⟨?_, .str (revS z), H4, I5.tok _, ⟨_, rfl⟩, q⟩
  show (z.cps.toList.reverse.toArray).size ≤ sizeLine
  rw [List.size_toArray, List.length_reverse, Array.length_toList]
  exact hz
/-! ### enumerate(z), z a text -/
def IteS (z : Str) : It := ⟨fun i _ => i < z.cps.size, fun i H v H' => ∃ T c, v = .ref T ∧ H T = none ∧ z.cps[i]? = some c ∧ H' = upd H T (.tup [.int (i : Nat), .str ⟨#[c]⟩]), fun i _ => z.cps.size ≤ i⟩
theorem strIter_kind (z : Str) : strIterType z = "str_ascii_iterator" ∨ strIterType z = "str_iterator" := by
  unfold strIterType
  split
  · exact .inl rfl
  · exact .inr rfl
theorem draws_str {P : Program} {w : World} {A : Around} (hh : A.handled = none) (it : Addr) (z : Str) (t : Tok) :
    Draws P w A it [it] z.cps.size (fun i v => ∃ c u, z.cps[i]? = some c ∧ v = .str ⟨#[c]⟩ u) (fun i h => h.IsStrIter it (strIterType z) z t i) := by
  rcases strIter_kind z with e | e
  · rw [e]; exact Draws.strAscii hh it z t
  · rw [e]; exact Draws.strWide hh it z t
theorem turn_enumS {P : Program} {w : World} {K : PySem.W.Frag} {elts : List Expr} {kk : Nat} {tpos : Pos} (z : Str) (t : Tok) (e it : Addr) :
    Turn P w K (.Tuple elts kk tpos) (IteS z) [e, it] e (fun i h => (∃ old, IsEnum h e it ((i : Nat) : Int) old) ∧ h.IsStrIter it (strIterType z) z t i ∧ e ≠ it ∧ i ≤ z.cps.size) where
  mem := by simp
  obj := fun i h st b hb => by
    obtain ⟨⟨old, he⟩, ⟨o, ho, hc, hd⟩, _⟩ := st
    rcases (by simpa using hb : b = e ∨ b = it) with q | q
    · rw [q]; exact ⟨_, he, fun v q => nomatch q⟩
    · rw [q]; exact ⟨o, ho, fun v q => by rw [hd] at q; cases q⟩
  keep := fun i h h' st k => let ⟨⟨old, he⟩, ⟨o, ho, r⟩, hne⟩ := st; ⟨⟨old, k e (by simp) _ he⟩, ⟨o, k it (by simp) o ho, r⟩, hne⟩
  item := by
    intro X hP hw hK hc i pins s σ H E I hf st hg
    subst hP hw hK
    obtain ⟨⟨old, he⟩, hit, hne, hle⟩ := st
    have hi : i < z.cps.size := hg
    have hel : e < s.heap.objs.size := Heap.lt_size he
    have hil : it < s.heap.objs.size := by obtain ⟨_, q, _⟩ := hit; exact Heap.lt_size q
    have hh : X.A.in1.handled = none := by simpa using I.ok.hd hc
    refine wpAny_pyNext_enum_itemD (draws_str hh it z t) he hit hi hne (by simpa using hne) fun x h' tk hP ho hit' hT hsz hk => ?_
    obtain ⟨c, u, hcx, rfl⟩ := hP
    refine ⟨_, rfl, wpAny_letOwnedTupleGo_enum (s := { s with heap := h', toks := tk + 1 }) ho fun h2 he' sb => ?_⟩
    have hT2 := (sb.2 _ (Nat.ne_of_gt hel)).trans hT
    have new : ObjOk X.prog X.w (upd H s.heap.objs.size (.tup [.int (i : Nat), .str ⟨#[c]⟩])) h2 s.heap.objs.size (.tup [.int (i : Nat), .str ⟨#[c]⟩]) :=
      ⟨by show 2 ≤ sizeLine; decide, [.int i tk, .str ⟨#[c]⟩ u], .cons ⟨_, rfl⟩ (.cons ⟨_, rfl⟩ .nil), ⟨_, hT2, rfl, _, rfl⟩⟩
    have I1 : Inv X pins σ (upd H s.heap.objs.size (.tup [.int (i : Nat), .str ⟨#[c]⟩])) { s with heap := h2, toks := tk + 1 } :=
      I.turnedNew (ch := [e, it]) (fun b ob hb q => (sb.2 b (fun z => hb (by simp [z]))).trans (hk b ob (fun z => hb (by simp [z])) (fun z => hb (by simp [z])) q)) hf (Nat.le_refl _) new
    obtain ⟨oi, hoi, r⟩ := hit'
    refine ⟨.ref s.heap.objs.size, _, I1, rfl, ⟨_, c, rfl, I.hok.fresh (Nat.le_refl _), hcx, rfl⟩, ⟨⟨.str ⟨#[c]⟩ u, ?_⟩, ⟨oi, (sb.2 it (Ne.symm hne)).trans hoi, r⟩, hne, hi⟩, fun b hb => ?_⟩
    · have e1 : ((i + 1 : Nat) : Int) = (i : Int) + 1 := by omega
      rw [e1]; exact he'
    · have hb' : b < s.heap.objs.size := by
        rcases (by simpa using hb : b = e ∨ b = it) with q | q
        · rw [q]; exact hel
        · rw [q]; exact hil
      rw [upd_ne (Nat.ne_of_lt hb')]
      exact (hf b hb).1
  done := by
    intro X hP hw hK hc i pins s σ H E I hf st hg
    subst hP hw hK
    obtain ⟨⟨old, he⟩, hit, hne, hle⟩ := st
    have hi : i = z.cps.size := Nat.le_antisymm hle hg
    subst hi
    obtain ⟨f0, f1, f2, f3, f4, f5⟩ := hf it (by simp)
    have hh : X.A.in1.handled = none := by simpa using I.ok.hd hc
    exact wpAny_pyNext_enum_endD (draws_str hh it z t) he hit fun h' eb => ⟨rfl, I.turned (t' := s.toks) (fun b o hb q => eb b o hb q) f0 f1 f3 f4 f5⟩
  self := fun A i s Q E st h => let ⟨⟨_, he⟩, _⟩ := st; wpAny_pyIter_enum he h
def iEnumS (ta : TA) : TI := fun σ H R => ta σ H fun vs H1 => ∃ z : Str, vs = [.str z] ∧ R (IteS z) H1
theorem pi_enumS {e : Expr} {ta : TA} {p pos tpos : Pos} {elts : List Expr} {kk : Nat} (hg : Gl X "enumerate") (hm : X.mg "enumerate" = none) (ha : PA X [e] ta) (hs : starEach [e] X.env = [(false, eval e X.env)] := by rfl) :
    PI X (.Tuple elts kk tpos) (.Call (.Name "enumerate" p) [e] [] pos) (iEnumS ta) := by
  refine ⟨fun pins s σ H R I h => ?_⟩
  refine Call_ (ld_blt I hg hm boot_enumerate (PyProof.Rows.callWith_type1 (thn (ha.run pos pins s σ H _ I h) fun us s1 ⟨vs, H1, I1, r1, q1⟩ => ?_) hs rfl))
  obtain ⟨z, rfl, q⟩ := q1
  obtain ⟨u, rfl, t, rfl⟩ := vals1 r1
  refine call_enumerate_str fun h' he hit hsz hk => wpAny_pyIter_enum he ?_
  have I2 : Inv X pins σ H1 { s1 with heap := h' } := I1.kept (t' := s1.toks) hk
  refine ⟨s1.heap.objs.size + 1, [s1.heap.objs.size + 1, s1.heap.objs.size], _, _, H1, rfl, I2, turn_enumS z t (s1.heap.objs.size + 1) s1.heap.objs.size, ⟨⟨.none, he⟩, hit, Nat.succ_ne_self _, Nat.zero_le _⟩, fun b hb => ?_, q⟩
  have hle : s1.heap.objs.size ≤ b := by
    rcases (by simpa using hb : b = s1.heap.objs.size + 1 ∨ b = s1.heap.objs.size) with q | q
    · rw [q]; exact Nat.le_add_right _ _
    · rw [q]; exact Nat.le_refl _
  exact I1.fpOk hle (I1.hok.fresh hle)
theorem walk_enumS {z : Str} : Walk (IteS z) z.cps.size (fun _ => True) (YPair (fun i => some (.int (i : Nat))) (fun i => z.cps[i]?.map fun c => .str ⟨#[c]⟩)) :=
  ⟨fun _ _ hi _ => hi, fun _ _ => Nat.le_refl _, fun i H v H' _ _ ⟨T, c, h1, h2, h3, h4⟩ => ⟨T, .int (i : Nat), .str ⟨#[c]⟩, h1, h2, h4, rfl, by show Option.map _ z.cps[i]? = _; rw [h3]; rfl⟩⟩
end
end Mo

namespace Mo
open PySem PySem.Spec PyProof.Rows L2
/-! ### texts as lists of codes -/
def tx (cs : List Nat) : Str := ⟨cs.toArray⟩
abbrev sg (c : Nat) : V := .str ⟨#[c]⟩
theorem tx_eta (z : Str) : tx z.cps.toList = z := rfl
theorem tx_list (cs : List Nat) : (tx cs).cps.toList = cs := rfl
theorem tx_len (cs : List Nat) : (tx cs).length = cs.length := by show cs.toArray.size = _; simp
theorem tx_size (cs : List Nat) : (tx cs).cps.size = cs.length := by show cs.toArray.size = _; simp
theorem tx_inj {a b : List Nat} (h : tx a = tx b) : a = b := by
  have q := congrArg (fun z : Str => z.cps.toList) h
  exact q
theorem tx_app (a b : List Nat) : tx a ++ tx b = tx (a ++ b) := by
  show (⟨a.toArray ++ b.toArray⟩ : Str) = ⟨(a ++ b).toArray⟩
  simp
theorem tx_app1 (a : List Nat) (c : Nat) : tx a ++ (⟨#[c]⟩ : Str) = tx (a ++ [c]) := tx_app a [c]
theorem tx_get {cs : List Nat} {i : Nat} : (tx cs).cps[i]? = cs[i]? := by
  show cs.toArray[i]? = cs[i]?
  simp
theorem fits5 {n : Nat} (h : n ≤ 100000) : n ≤ sizeLine := Nat.le_trans h (by decide)
theorem fitsLt {n : Nat} (h : n ≤ 100000) : n < sizeLine := Nat.lt_of_le_of_lt h (by decide)
/-- small letters alone -/
def Low (cs : List Nat) : Prop := ∀ c ∈ cs, 97 ≤ c ∧ c ≤ 122
theorem tx_nil : Str.ofString "" = tx [] := by decide +kernel
theorem join_signs : ∀ cs : List Nat, Txt.join (Str.ofString "") (cs.map fun c => (⟨#[c]⟩ : Str)) = tx cs := by
  have key : ∀ cs : List Nat, Str.join (tx []) (cs.map fun c => (⟨#[c]⟩ : Str)) = tx cs := by
    intro cs
    induction cs with
    | nil => rfl
    | cons c r ih =>
      cases r with
      | nil => rfl
      | cons e r =>
        show (⟨#[c]⟩ : Str) ++ tx [] ++ Str.join (tx []) ((e :: r).map fun c => (⟨#[c]⟩ : Str)) = tx (c :: e :: r)
        rw [ih]
        show tx [c] ++ tx [] ++ tx (e :: r) = _
        rw [tx_app, tx_app]
        rfl
  intro cs
  show Builtin.Str.glued _ _ = _
  rw [StrLaws.glued_eq_join, tx_nil]
  exact key cs
/-! ### the pen -/
def penD (c : Addr) (t r : Int) : List (Key × V) := [(.inr "cells", .ref c), (.inr "turn", .int t), (.inr "rest", .int r)]
theorem k_ct : ¬ ((Sum.inr "cells" : Key) = (Sum.inr "turn" : Key)) := by decide +kernel
theorem k_cr : ¬ ((Sum.inr "cells" : Key) = (Sum.inr "rest" : Key)) := by decide +kernel
theorem k_tr : ¬ ((Sum.inr "turn" : Key) = (Sum.inr "rest" : Key)) := by decide +kernel
theorem pen_cells (c : Addr) (t r : Int) : valV (penD c t r) (Sum.inr "cells") = some (.ref c) := valV_pos rfl
theorem pen_turn (c : Addr) (t r : Int) : valV (penD c t r) (Sum.inr "turn") = some (.int t) := by
  unfold penD
  rw [valV_neg k_ct, valV_pos rfl]
theorem pen_rest (c : Addr) (t r : Int) : valV (penD c t r) (Sum.inr "rest") = some (.int r) := by
  unfold penD
  rw [valV_neg k_cr, valV_neg k_tr, valV_pos rfl]
theorem put_turn (c : Addr) (t r u : Int) : putK (penD c t r) (Sum.inr "turn") (.int u) = penD c u r := by
  unfold putK penD
  have k1 := k_ct
  have k2 : ¬ ((Sum.inr "rest" : Key) = (Sum.inr "turn" : Key)) := fun e => k_tr e.symm
  simp only [List.any_cons, List.map_cons, List.map_nil, k1, k2, if_false, if_true, decide_true, decide_false, Bool.true_or, Bool.or_true, Bool.false_or]
theorem put_rest (c : Addr) (t r u : Int) : putK (penD c t r) (Sum.inr "rest") (.int u) = penD c t u := by
  unfold putK penD
  have k1 := k_cr
  have k2 := k_tr
  simp only [List.any_cons, List.map_cons, List.map_nil, k1, k2, if_false, if_true, decide_true, decide_false, Bool.true_or, Bool.or_true, Bool.false_or]
theorem pen_merge (c : Addr) (t r : Int) : mergeK [] (penD c t r) = penD c t r := by
  have k1 := k_ct
  have k2 := k_cr
  have k3 := k_tr
  simp only [mergeK, penD, putK, List.foldl_cons, List.foldl_nil, List.any_nil, List.any_cons, List.nil_append, List.cons_append, k1, k2, k3, decide_false, Bool.or_false, Bool.false_eq_true, if_false]
/-- the pen at d, its cells at c, t draws done -/
def Pen (H : Hp) (d c : Addr) (t : Nat) : Prop := ∃ (ns : List Int) (r : Int), H d = some (.dK (penD c t r)) ∧ H c = some (.lst (ns.map V.int)) ∧ ns.length ≤ 63 ∧ 0 ≤ r
theorem Pen.ne {H : Hp} {d c : Addr} {t : Nat} (h : Pen H d c t) : d ≠ c := by
  obtain ⟨ns, r, h1, h2, _⟩ := h
  exact ne_of h1 h2 (by intro z; cases z)
/-- all but d is as it was -/
def But (d : Addr) (H H' : Hp) : Prop := ∀ b o, b ≠ d → H b = some o → H' b = some o
theorem But.refl (d : Addr) (H : Hp) : But d H H := fun _ _ _ h => h
theorem But.trans {d : Addr} {H H1 H2 : Hp} (a : But d H H1) (b : But d H1 H2) : But d H H2 := fun c o n h => b c o n (a c o n h)
theorem But.same {d : Addr} {H H1 : Hp} (a : Same H H1) : But d H H1 := fun c o _ h => a c o h
theorem But.none {d : Addr} {H H1 : Hp} (a : But d H H1) {p : Addr} (h : H1 p = none) (n : p ≠ d) : H p = none := by
  cases q : H p with
  | none => rfl
  | some o =>
    rw [a p o n q] at h
    cases h
theorem Pen.new {H : Hp} {d c : Addr} {t : Nat} (h : Pen H d c t) {p : Addr} (hp : H p = none) : p ≠ d ∧ p ≠ c := by
  obtain ⟨ns, r, h1, h2, _⟩ := h
  exact ⟨(ne_of_none h1 hp).symm, (ne_of_none h2 hp).symm⟩
theorem Pen.upd {H : Hp} {d c : Addr} {t : Nat} (h : Pen H d c t) {p : Addr} {o : HO} (h1 : p ≠ d) (h2 : p ≠ c) : Pen (upd H p o) d c t := by
  obtain ⟨ns, r, e1, e2, e3⟩ := h
  exact ⟨ns, r, by rw [upd_ne h1.symm]; exact e1, by rw [upd_ne h2.symm]; exact e2, e3⟩
theorem Pen.same {H H' : Hp} {d c : Addr} {t : Nat} (h : Pen H d c t) (s : Same H H') : Pen H' d c t := by
  obtain ⟨ns, r, e1, e2, e3⟩ := h
  exact ⟨ns, r, s _ _ e1, s _ _ e2, e3⟩
theorem same_new {H : Hp} {p : Addr} {o : HO} (h : H p = none) : Same H (L2.upd H p o) := fun b x e => by
  rw [upd_ne (ne_of_none e h)]
  exact e
theorem But.set {d : Addr} {H : Hp} {o : HO} : But d H (L2.upd H d o) := fun b x n e => by
  rw [upd_ne n]
  exact e
theorem But.put {d : Addr} {H H' : Hp} {o : HO} (b : But d H H') {D : Addr} (n : H D = Option.none) : But d H (L2.upd H' D o) := fun x y nx e => by
  rw [upd_ne (ne_of_none e n)]
  exact b x y nx e
theorem Same.put {H H' : Hp} {o : HO} (b : Same H H') {D : Addr} (n : H D = Option.none) : Same H (L2.upd H' D o) := fun x y e => by
  rw [upd_ne (ne_of_none e n)]
  exact b x y e
theorem pen_set {H : Hp} {d c : Addr} {t : Nat} (h : Pen H d c t) {u : Nat} {r : Int} (hr : 0 ≤ r) : Pen (L2.upd H d (.dK (penD c u r))) d c u := by
  have n := h.ne
  obtain ⟨ns, r0, e1, e2, e3, _⟩ := h
  exact ⟨ns, r, upd_same, by rw [upd_ne n.symm]; exact e2, e3, hr⟩
def spDraw : Sp := fun vs H Q _ => ∃ (d c : Addr) (n : Int) (t : Nat), vs = [.ref d, .int n] ∧ Pen H d c t ∧ 0 < n ∧ n < 1073741824 ∧ t < 1073741824 ∧
  ∀ H' k t', But d H H' → Pen H' d c t' → t' ≤ t + 1 → 0 ≤ k → k < n → Q (.int k) H'
def spPick (K : PySem.W.Frag) : Sp := fun vs H Q _ => ∃ (d c l : Addr) (xs : List V) (t : Nat), vs = [.ref d, .ref l] ∧ Pen H d c t ∧ SqL K H l xs ∧ l ≠ d ∧ 0 < xs.length ∧ xs.length < 1073741824 ∧ t < 1073741824 ∧
  ∀ H' v t', But d H H' → Pen H' d c t' → t' ≤ t + 1 → v ∈ xs → Q v H'
end Mo

namespace Mo
open PySem PySem.Spec PyProof.Rows L2
/-! ### an error that is kept behind its except suite -/
/-- at a: an error of the class cls, its own dict d -/
def exV (a : Addr) (cls : Value) (d : Option Addr) : HO := .ext fun h => ∃ oe vs, h.get? a = some oe ∧ Zc cls d oe ∧ oe.data = .fields vs
section
variable {X : Cx} {pins : List (Addr × Obj)} {σ : L2.St} {H : Hp} {s : Shared}
/-- an object that was not there at the entry is tracked from now on -/
theorem track {a : Addr} {oe : Obj} {vs : Array Value} {o : HO} (I : Inv X pins σ H s) (ha : s.heap.get? a = some oe) (hd : oe.data = .fields vs) (na : H a = none) (nL : a ≠ X.env.locals)
    (n0 : ∀ u, X.s_0.heap.get? a = some u → a ∈ X.ex) (np : ∀ p ∈ X.pn ++ pins, p.1 ≠ a) (new : ObjOk X.prog X.w (upd H a o) s.heap a o) : Inv X pins σ (upd H a o) s := by
  have ne : ∀ b u, H b = some u → b ≠ a := fun b u e => ne_of_none e na
  refine ⟨I.ok, I.os, I.bare, ⟨I.base.keep, I.base.slot, fun b u q n hx => ?_, I.base.there, fun b xs e => ?_, fun b u w e => ?_, fun b ps e => ?_⟩, I.loc, I.cell, ?_, fun x c e => ?_, fun p hp => ?_, fun b u e => ?_, I.len⟩
  · rw [upd_ne (fun z : b = a => hx (by rw [z]; exact n0 u (by rw [← z]; exact q)))]
    exact I.base.free b u q n hx
  · have q := I.base.tups b xs e
    rw [upd_ne (ne _ _ q)]
    exact q
  · have q := I.base.frzs b u w e
    rw [upd_ne (ne _ _ q)]
    exact q
  · obtain ⟨more, q⟩ := I.base.tbls b ps e
    exact ⟨more, by rw [upd_ne (ne _ _ q)]; exact q⟩
  · rw [upd_ne nL.symm]
    exact I.free
  · obtain ⟨v, oc, hoc, hcc⟩ := I.cell x c e
    have nca : c ≠ a := fun z => by
      rw [z, ha] at hoc
      cases hoc
      rw [hd] at hcc
      cases hcc
    rw [upd_ne nca]
    exact I.freeC x c e
  · obtain ⟨h1, h2, h3⟩ := I.pin p hp
    exact ⟨h1, by rw [upd_ne (np p hp)]; exact h2, h3⟩
  · by_cases hb : b = a
    · subst hb
      rw [upd_same] at e
      cases e
      exact new
    · rw [upd_ne hb] at e
      refine (I.hok b u e).stay (fun c v _ q => q) (fun c q => ?_) fun c xs q => ?_
      · rw [upd_ne (ne _ _ q)]
        exact q
      · rw [upd_ne (ne _ _ q)]
        exact q
theorem exV_ok {P : Program} {w : World} {H : Hp} {h : Heap} {a : Addr} {cls : Value} {d : Option Addr} {oe : Obj} {vs : Array Value} (e : h.get? a = some oe) (z : Zc cls d oe) (hd : oe.data = .fields vs) : ObjOk P w H h a (exV a cls d) :=
  ⟨⟨oe, vs, e, z, hd⟩, ⟨oe, e⟩, fun h1 h2 ⟨o1, v1, e1, z1, d1⟩ k => ⟨o1, v1, k _ e1, z1, d1⟩⟩
theorem exV_at {a : Addr} {cls : Value} {d : Option Addr} (I : Inv X pins σ H s) (e : H a = some (exV a cls d)) : ∃ oe vs, s.heap.get? a = some oe ∧ Zc cls d oe ∧ oe.data = .fields vs := (I.hok a _ e).1
end
/-- what 'except x as n: kept = n' wishes of an error of the body: n in slot i, kept in slot j; behind it the error is tracked -/
def wKeep (K : PySem.W.Frag) (c : Value) (i j : Nat) (Wout : WX) (D : Ends) : WX := fun cls d σ H =>
  ∃ b, PySem.W.exmOne K cls c = some b ∧ (b = true → ∀ a, H a = none → D.nx (((σ.set i (some (.ref a))).set j (some (.ref a))).set i none) (upd H a (exV a cls d))) ∧ (b = false → Wout cls d σ H)
section
variable {X : Cx} {x n kx : Str} {c : Value} {i j : Nat} {body : List Stmt} {np np2 kp ap pos pos' : Pos} {tb : WX → TS} {Wout : WX}
theorem ps_try_keep (hs : X.stack = X.env :: X.outer) (hf : X.env.frame = some X.env.locals) (hN : X.N.Nodup) (hi : X.N[i]? = some n) (hj : X.N[j]? = some kx) (hln : X.env.kindOf n = some .local) (hlk : X.env.kindOf kx = some .local) (hc : Names X x c) (tk : Takes X Wout)
    (hb : ∀ (W : WX) (pn : List (Addr × Obj)) (xe : Value → Shared → Prop), Takes (X.tr pn xe) W → PassesOwn (model X.prog X.w) X.A X.env xe → PSs (X.tr pn xe) body (tb W))
    (hsu : ∀ (a : Addr) (oe : Obj) (pn : List (Addr × Obj)), PSs (X.suite a ((a, oe) :: pn)) [.Assign [.Name kx kp] (.Name n np2) ap] (tAsg (tVar i) (gName j))) :
    PS X (.Try body [.ExceptHandler (some (.Name x np)) (some n) [.Assign [.Name kx kp] (.Name n np2) ap] pos'] [] [] pos) (fun D σ H => tb (wKeep X.K c i j Wout D) D σ H) := by
  refine ⟨fun pins s σ H D I h => ?_⟩
  have ok := I.ok
  have hfr : X.A.frames = some (X.env :: X.outer) := ok.frames.trans (by rw [hs])
  refine wpAny_Try_except (wpAny_mono ((hb (wKeep X.K c i j Wout D) (X.pn ++ pins) (fun e s₁ => wpAny (model X.prog X.w) X.A (noteFrame e X.env) (fun _ s₂ => wpAny (model X.prog X.w) X.A (setFlight e none) (fun _ s₃ =>
    wpAny (model X.prog X.w) X.A (handleBy e X.env [.ExceptHandler (some (.Name x np)) (some n) [.Assign [.Name kx kp] (.Name n np2) ap] pos']) (SP X pins D) X.xe s₃) X.xe s₂) X.xe s₁) (fun u s' xx => ?_) PassesOwn.looking).run [] s σ H D (I.toTry _) h) (fun f s1 hsp => ?_) (fun e s1 he => he))
  · obtain ⟨a, B, sI, pins', σ', H', cls, d, rfl, J', nb, up, sky, na, os, ag, b, hb1, hyes, hno⟩ := xx
    have J : Inv X pins σ' H' sI := J'.ofTry ok
    have sky' : Sky B (X.env :: X.outer) a (Zc cls d) X.env.locals s'.heap := hs ▸ sky
    show wpAny (model X.prog X.w) X.A (noteFrame (.ref a) X.env) _ _ _
    refine Sky.land Zc.steady hfr hf sky' fun h3 fl3 up3 => ?_
    have J3 : Inv X pins σ' H' { s' with heap := h3 } := J.landed nb fl3.1 (up.trans up3) os ag
    obtain ⟨oe3, vs3, he3, hz3, hd3⟩ := fl3.there
    have nfr : a ∉ frs (X.env :: X.outer) := fun hm => by
      obtain ⟨_, o', e', hnf⟩ := fl3.2.2.1.mem hm
      rw [he3] at e'
      cases e'
      exact hnf _ hd3
    have nL : a ≠ X.env.locals := fun z => nfr (List.mem_filterMap.mpr ⟨X.env, List.mem_cons_self, hf.trans (congrArg some z.symm)⟩)
    have nF : a ∉ X.fs := fun hm => by
      obtain ⟨e, he, q⟩ := List.mem_filterMap.mp hm
      exact nfr (List.mem_filterMap.mpr ⟨e, List.mem_cons_of_mem _ he, q⟩)
    have nB : B.get? a = none := fl3.2.1
    have nI : sI.heap.get? a = none := by
      cases q : sI.heap.get? a with
      | none => rfl
      | some o =>
        have z := nb a o q (by show a ∉ frs X.stack; rw [hs]; exact nfr)
        rw [nB] at z
        cases z
    have n0 : ∀ u, X.s_0.heap.get? a = some u → a ∈ X.ex := fun u q => by
      by_cases hx : a ∈ X.ex
      · exact hx
      · obtain ⟨o', z⟩ := J.base.there a u q hx
        rw [nI] at z
        cases z
    have npp : ∀ p ∈ X.pn ++ pins, p.1 ≠ a := fun p hp z => by
      have q := (J.pin p hp).1
      rw [z, nI] at q
      cases q
    have S3 := J3.suite he3 hd3 na nL nF
    refine wpAny_handleBy_cons (codeAny_handlers_test ?_) (by intro q; cases q)
    have LT : PySem.W.Looks (model X.prog X.w) h3 (typeOf (.ref a)) cls := fun A Q E s k q => wpAny_typeOf_ref (k _ _ he3) (hz3.1 ▸ q)
    have LM := PySem.W.exm_one (M := model X.prog X.w) J3.kIn LT hb1
    have test : ∀ {Q : Value → Shared → Prop} {E : Value → Shared → Prop}, Q c { s' with heap := h3 } → wpAny (model X.prog X.w) (X.A.mark (some (.ref a))) (eval (.Name x np) X.env) Q E { s' with heap := h3 } := fun {Q E} q => by
      rcases hc with ⟨hg, hdbg, hm | ⟨hm, hv, hnn⟩⟩
      · exact ld_glob (X := X.suite a ((a, oe3) :: (X.pn ++ pins))) S3 hg hm q hdbg
      · exact ld_blt (X := X.suite a ((a, oe3) :: (X.pn ++ pins))) S3 hg hm hv q hnn hdbg
    refine test (LM.here ?_)
    cases b with
    | true =>
      refine codeAny_handlers_suite_as (HandSPX.lands_againZ fl3 fun h4 fl4 up4 => ?_)
      have J4 : Inv X pins σ' H' { s' with heap := h4 } := J.landed nb fl4.1 ((up.trans up3).trans up4) os ag
      obtain ⟨oe4, vs4, he4, hz4, hd4⟩ := fl4.there
      refine store_ok (X := X.suite a ((a, oe4) :: (X.pn ++ pins))) (v := .ref a) (J4.suite he4 hd4 na nL nF) hN hi (.inl hln) rfl (fun s5 S5 => ?_) (.inr hln)
      have lenσ : i < σ'.length := by
        rw [J.len]
        exact (List.getElem?_eq_some_iff.mp hi).1
      have want : tAsg (tVar i) (gName j) { nx := fun σ6 H6 => σ6 = (σ'.set i (some (.ref a))).set j (some (.ref a)) ∧ H6 = H', rt := fun _ _ => False, bk := fun _ _ => False, ct := fun _ _ => False } (σ'.set i (some (.ref a))) H' :=
        ⟨.ref a, by rw [List.getElem?_set_self lenσ], rfl, rfl⟩
      refine wpAny_mono ((hsu a oe4 (X.pn ++ pins)).run [] s5 _ H' _ S5 want) (fun f s6 hsp => ?_) (fun _ _ z => False.elim z)
      cases f with
      | next =>
        obtain ⟨σ6, H6, S6, rfl, rfl⟩ := hsp
        obtain ⟨he6, _⟩ := S6.pin (a, oe4) (List.mem_append_left _ List.mem_cons_self)
        have J6 : Inv X pins _ H6 s6 := S6.unsuite ok
        have J7 := track J6 he6 hd4 na nL n0 npp (exV_ok he6 hz4 hd4)
        exact gone_ok J7 hN hi hln fun s7 J8 => ⟨_, _, J8, hyes rfl a na⟩
      | brk => exact hsp.elim fun _ z => z.elim fun _ z => z.2.elim
      | cont => exact hsp.elim fun _ z => z.elim fun _ z => z.2.elim
      | ret u => exact hsp.elim fun _ z => z.elim fun _ z => z.elim fun _ z => z.2.2.elim
    | false =>
      show wpAny _ X.A (handleBy (.ref a) X.env []) _ _ _
      refine wpAny_handleBy_nil ?_
      obtain ⟨k1, k2, k3, oe, vs, T, oT, ts', he, hz, hd, h1, hr⟩ := id fl3
      unfold PySem.passOn
      refine wpAny_bind (wpAny_field he hd h1 ?_)
      rw [if_neg (show ¬ ((Value.ref T == Value.none) = true) from by simp)]
      have fin : wpAny (model X.prog X.w) X.A (setFlight (.ref a) X.env.frame) (fun _ s4 => wpAny (model X.prog X.w) X.A (throw (.ref a) : Sem Flow) (SP X pins D) X.xe s4) X.xe { s' with heap := h3 } := by
        rw [hf]
        refine HandSPX.setFlight_upZ fl3 fun h4 hh4 up4 => wpAny_throw (tk _ _ ⟨a, B, sI, pins, σ', H', cls, d, rfl, J, nb, (up.trans up3).trans up4, .inr (.inr (hs ▸ hh4)), na, os, ag, hno rfl⟩)
      first
        | exact wpAny_bind (wpAny_pure (wpAny_bind fin))
        | exact wpAny_bind fin
  · cases f with
    | next => exact hsp.elim fun σ1 z => z.elim fun H1 z => wpAny_execs_nil ⟨σ1, H1, z.1.ofTry ok, z.2⟩
    | brk => exact hsp.elim fun σ1 z => z.elim fun H1 z => ⟨σ1, H1, z.1.ofTry ok, z.2⟩
    | cont => exact hsp.elim fun σ1 z => z.elim fun H1 z => ⟨σ1, H1, z.1.ofTry ok, z.2⟩
    | ret u => exact hsp.elim fun v z => z.elim fun σ1 z => z.elim fun H1 z => ⟨v, σ1, H1, z.1.ofTry ok, z.2⟩
end
end Mo

/-! ### isinstance and the fields of an error that has its own dict -/
namespace Mo
open PySem PySem.W PySem.Spec PySem.Calls PyProof.Rows
section
variable {prog : Program} {w : World} {A : Around} {E : Value → Shared → Prop} {s : Shared} {K : Frag} {x D : Addr} {ox oy : Obj}
theorem err_class {Q : Option Value → Shared → Prop} (C : L2.ExcC K D) (X : K.In s.heap) (I : PySem.W.InstAt s.heap x ox D (some oy)) (h : Q (some (.ref D)) { s with toks := s.toks + 1 }) : wpAny (model prog w) A (getAttr? (.ref x) "__class__") Q E s := by
  have hf : findObj K D (some oy) "__class__" = some (.bind (.builtin "getset_descriptor.__get__") (.builtin "object.__class__")) := findObj_data (by obtain ⟨cd, hc, _⟩ := any_some C.hd; rw [hc]; rfl) C.ha C.hn C.ht
  obtain ⟨hp, g, d, t, os⟩ := s
  have a0 := I.type (M := model prog w)
  have a1 := looks_findIn (M := model prog w) X C.hg
  have a2 := looks_findIn (M := model prog w) X C.hk
  have a3 := looks_find (M := model prog w) X I hf
  have sub : Looks (model prog w) hp (isInstance (.ref x) (.type "BaseException")) true := a0.andThen (looks_subIn X C.hs)
  have y2 : (Value.builtin "BaseException.__getattribute__" == Value.builtin "object.__getattribute__") = false := by decide +kernel
  have y1 : (onTheHeap (Value.ref D) && Value.builtin "BaseException.__getattribute__" == Value.builtin "object.__getattribute__") = false := by rw [y2]; rfl
  have y0 : (false && onTheHeap (Value.builtin "BaseException.__getattribute__")) = false := rfl
  unfold getAttr? getAttrBy? getAttrBy
  refine wpAny_bind (wpAny_mkText (wpAny_bind (wpAny_attempt (wpAny_holding (wpAny_bind (a0.at (wpAny_bind (a1.at ?_))))))))
  show wpAny _ _ (if (onTheHeap (Value.ref D) && Value.builtin "BaseException.__getattribute__" == Value.builtin "object.__getattribute__") = true then _ else _) _ _ _
  rw [y1, if_neg Bool.false_ne_true]
  unfold getAttrByItsOwn hookBefore
  refine wpAny_bind (by
    rw [if_pos (show onTheHeap (Value.ref D) = true from rfl)]
    refine a2.at (wpAny_bind (wpAny_attempt (wpAny_holding ?_)))
    unfold callGetattribute
    rw [y0, if_neg Bool.false_ne_true]
    unfold boundAndCalled
    rw [PySem.F.excAttr_ValueError.ga.bind (.ref x)]
    refine wpAny_bind (wpAny_pure (by
      show wpAny _ _ (call (.builtin "BaseException.__getattribute__") [.ref x, .str "__class__" t]) _ _ _
      refine wpAny_call (codeAny_call_builtin PySem.F.excAttr_ValueError.ga.plain PySem.F.entry_bexc_ga (@check_slot (model prog w) _ _ ⟨hp, g, d, t + 1, os⟩ "BaseException.__getattribute__" "BaseException" "__getattribute__" (.ref x) [.str "__class__" t] [] _ (by decide +kernel) (by decide +kernel) sub (PySem.F.args_bexc_ga (.ref x) (.str "__class__" t)) ?_))
      unfold Builtin.«object.__getattribute__»
      refine wpAny_bind (wpAny_of_eq (a := ((Value.ref x : Value), [Value.str "__class__" t])) (by first | rfl | (simp only [slotArgs]; rfl)) (wpAny_bind (wpAny_pure (wpAny_bind (a0.at (wpAny_bind (a3.at ?_)))))))
      show wpAny _ _ (holding [Value.builtin "object.__class__"] (call (.builtin "getset_descriptor.__get__") [.builtin "object.__class__", .ref x, .ref D]) >>= ret) _ _ _
      refine wpAny_bind (wpAny_holding (wpAny_call (class_get (s := ⟨hp, g, d, t + 1, os⟩) (ox := ox) (od := some oy) X I C.hm (wpAny_pure ?_))))
      show wpAny _ _ (handedOut (.ref D)) _ _ _
      rw [handedOut_of (v := .ref D) rfl]
      first | exact wpAny_pure (wpAny_pure h) | exact wpAny_pure h | exact wpAny_pure (wpAny_bind (wpAny_pure (wpAny_pure h))))))
theorem err_kit (C : L2.ExcC K D) : KitX K (.ref x) (.ref D) (fun h => ∃ ox oy, PySem.W.InstAt h x ox D (some oy)) where
  ty := fun _ _ _ ⟨_, _, I⟩ => I.type
  it := fun M h X _ => by
    obtain ⟨cd, hc, _⟩ := any_some C.hd
    unfold clsIn at hc
    split at hc
    · rename_i c' d' cd' sl' ho
      intro A' Q' E' s' k q
      unfold isType loadHead
      exact wpAny_bind (wpAny_loadPart (k _ _ (X _ _ ho)) (wpAny_pure q))
    · cases hc
  ne := fun h tp dd its n sl X htp => by
    obtain ⟨cd, hc, _⟩ := any_some C.hd
    refine Bool.eq_false_iff.mpr fun q => ?_
    obtain rfl : D = tp := Value.ref.inj (beq_iff_eq.mp q)
    unfold clsIn at hc
    split at hc
    · rename_i c' d' cd' sl' ho
      cases (X _ _ ho).symm.trans htp
    · cases hc
  ca := fun X ⟨_, _, I⟩ k => err_class C X I k
end
end Mo
namespace Mo
open PySem PySem.Spec PyProof.Rows L2
section
variable {X : Cx} {pins : List (Addr × Obj)} {σ : L2.St} {H : Hp} {s : Shared}
/-- an error at a, its class at C, its dict at dd with the fields fs -/
def ErrAt (H : Hp) (a C dd : Addr) (fs : List (Str × V)) : Prop := H a = some (exV a (.ref C) (some dd)) ∧ H dd = some (.xd fs)
theorem ErrAt.inst {a C dd : Addr} {fs : List (Str × V)} (e : ErrAt H a C dd fs) (I : Inv X pins σ H s) : ∃ ox od mA, PySem.W.InstAt s.heap a ox C (some od) ∧ s.heap.Ns1 dd mA ∧ (∀ f, RelO (fs.lookup f) (mA f)) ∧ ∀ f, PySem.W.lookIn f od = some (mA f) := by
  obtain ⟨oe, vs, ha, hz, hd⟩ := exV_at I e.1
  obtain ⟨mA, hns, hr⟩ := (show ObjOk X.prog X.w H s.heap dd (.xd fs) from I.hok dd _ e.2)
  obtain ⟨od, ho, hl⟩ := lookIn_ns hns
  exact ⟨oe, od, mA, ⟨ha, hz.1, by unfold PySem.W.notCls; rw [hd] <;> rfl, by rw [hz.2]; exact ho⟩, hns, hr, hl⟩
/-- isinstance(err, c) -/
def rIsX (K : PySem.W.Frag) : List V → Hp → VK → Prop := fun xs H Q => ∃ (a C dd : Addr) (fs : List (Str × V)) (c : V) (u : Value) (b : Bool), xs = [.ref a, c] ∧ ErrAt H a C dd fs ∧ ExcC K C ∧ ClsV c u ∧ PySem.W.kitOne K (.ref C) u = some b ∧ Q (.bl b) H
theorem cr_isX : CallR X (.builtin "isinstance") (rIsX X.K) := by
  intro pins s σ H xs us Q I r h
  obtain ⟨a, C, dd, fs, c, u, b, rfl, ea, T, k, e, q⟩ := h
  obtain ⟨u1, u2, rfl, r1, r2⟩ := vals2 r
  cases r1
  obtain rfl := k.eq r2
  obtain ⟨ox, od, mA, J, _⟩ := ea.inst I
  exact PySem.W.kia_one (err_kit T) I.kIn ⟨ox, od, J⟩ e (fun z => nomatch z) fun tk => ⟨.bl b, H, I.tok tk, rfl, q⟩
/-- isinstance(err, (c1, c2, ..)) -/
def rIsXT (K : PySem.W.Frag) : List V → Hp → VK → Prop := fun xs H Q => ∃ (a C dd tp : Addr) (fs : List (Str × V)) (cs : List V) (us : List Value) (b : Bool), xs = [.ref a, .ref tp] ∧ ErrAt H a C dd fs ∧ ExcC K C ∧ H tp = some (.tup cs) ∧ Paired ClsV cs us ∧ PySem.W.kitAny K (.ref C) us = some b ∧ Q (.bl b) H
theorem cr_isXT : CallR X (.builtin "isinstance") (rIsXT X.K) := by
  intro pins s σ H xs us Q I r h
  obtain ⟨a, C, dd, tp, fs, cs, ws, b, rfl, ea, T, hT, k, e, q⟩ := h
  obtain ⟨u1, u2, rfl, r1, r2⟩ := vals2 r
  cases r1
  cases (show u2 = Value.ref tp from r2)
  obtain ⟨ox, od, mA, J, _⟩ := ea.inst I
  obtain ⟨_, its, rv, ⟨oc, od', dt, sl⟩, h1, h2, n, h3⟩ := (show ObjOk X.prog X.w H s.heap tp (.tup cs) from I.hok tp _ hT)
  obtain rfl := ClsV.all k rv
  simp only at h2 h3
  subst h2 h3
  exact PySem.W.kia_tup (err_kit T) I.kIn ⟨ox, od, J⟩ h1 e (fun z => nomatch z) fun tk => ⟨.bl b, H, I.tok tk, rfl, q⟩
/-- err.f -/
def tXv (K : PySem.W.Frag) (f : Str) (te : TE) : TE := fun σ H Q => te σ H fun x H1 => ∃ (a C dd : Addr) (fs : List (Str × V)) (v : V), x = .ref a ∧ ErrAt H1 a C dd fs ∧ XfC K C ∧ PySem.W.findIn K (.ref C) f = some none ∧ fs.lookup f = some v ∧ Q v H1
theorem pe_xv {e : Expr} {te : TE} {pos : Pos} {f : Str} (he : PE X e te) (hb : attributeBase e f X.env (eval e X.env) = eval e X.env := by rfl) : PE X (.Attribute e f pos) (tXv X.K f te) := by
  refine ⟨fun pins s σ H Q I h => ?_⟩
  refine attr_of hb (thn (he.run pins s σ H _ I h) fun u s1 hh => ?_)
  obtain ⟨x, H1, I1, rx, a, C, dd, fs, v, rfl, ea, T, hno, l, q⟩ := hh
  obtain rfl : u = Value.ref a := rx
  obtain ⟨ox, od, mA, J, hns, hr, hl⟩ := ea.inst I1
  obtain ⟨u, hu, ru⟩ := RelO.some_of (v := v) (o := mA f) (by rw [← l]; exact hr f)
  exact HandSPX.exc_get I1.kIn J T.ga T.gg T.exC (PySem.W.findObj_own T.hdC hno rfl (by rw [hl, hu])) (handed_of ru) ⟨v, H1, I1.tok _, ru, q⟩
end
end Mo

/-! ### defs called where no repr is under way: then repr of lists, tuples and dicts is known to the letter -/
namespace Mo
open PySem PySem.Spec PyProof.Rows L2
/-- as FnOk, for callers under no guard -/
structure FnG (P : Program) (w : World) (K : PySem.W.Frag) (mg : Str → Option Value) (base : Heap) (CX : CXT) (k : Nat) (f : Addr) (fd : FuncData) (ps : List Str) (sp : Sp) : Prop where
  len : ∀ vs H Q E, sp vs H Q E → vs.length = ps.length
  run : ∀ (A : Around) (outer : List Env) (s : Shared) (H : Hp) (args : Args) (us : List Value) (vs : List V) (Q : VK) (E : XK), Room k A → A.guards = some [] → Env0 P w K mg base A outer s H → BindsTo s fd args (ps.zip us) → Vals vs us → sp vs H Q E →
    codeAny (model P w) A (.call (.ref f) args) (CR CX outer P w H s Q E) s
section
variable {P : Program} {w : World} {K : PySem.W.Frag} {mg : Str → Option Value} {base : Heap} {CX : CXT} {k : Nat} {f : Addr} {fd : FuncData} {ps : List Str} {sp : Sp}
theorem FnG.of (F : FnOk P w K mg base CX k f fd ps sp) : FnG P w K mg base CX k f fd ps sp := ⟨F.len, fun A o s H a us vs Q E hr _ => F.run A o s H a us vs Q E hr⟩
/-- a def by its body, its guards told -/
theorem okG_of {x qual : Str} {st : Stmt} {N : List Str} (F : Fun K x qual st f fd) (S : FnScope N ps (defScope st)) (len : ∀ vs H Q E, sp vs H Q E → vs.length = ps.length)
    (hbody : ∀ (cdv : Value) (A : Around) (outer : List Env) (s : Shared) (H : Hp) (vs : List V) (Q : VK) (E : XK), Room k (A.deeper (envOfC qual (defScope st) s.heap.objs.size f cdv)) → A.guards = some [] → sp vs H Q E →
      ∃ t, PSs (cxOf CX P w K mg base N qual (defScope st) f cdv A outer s H E) (defBody st) t ∧ t { nx := fun _ H' => Q .non H', rt := Q } (start N vs) H) : FnG P w K mg base CX (k + 1) f fd ps sp := by
  obtain ⟨oc, od, kV, doc, pm, an, cdv, ct, osl, rfl, lk, hcd⟩ := F.ex
  refine ⟨len, fun A outer s H args us vs Q E hr hg e0 hb r hsp => ?_⟩
  have kept : ∀ b o, base.get? b = some o → s.heap.get? b = some o := fun b o e => (e0.bs b o e).1
  have KX : K.In s.heap := e0.mod.kin.keeps kept
  have kinds : ∀ y ∈ ps.zip us, (defScope st).names.lookup y.1 = some .local ∨ ((defScope st).names.lookup y.1 = some .cell ∧ ((cellsFrom (s.heap.objs.size + 1) (defScope st).names []).lookup y.1).isSome = true) := fun y hy =>
    (S.par y.1 (List.of_mem_zip (a := y.1) (b := y.2) hy).1).elim .inl fun q => .inr ⟨q, PySem.W.cellsFrom_some _ _ _ (.inl q)⟩
  refine codeAny_call_function hr.depth (KX _ _ lk) rfl S.co S.gen rfl (PySem.W.codeRec_of KX hcd) (hb _ _ _ _ (wpAny_newFunctionEnv_cells S.kind kinds fun env he s1 x => ?_))
  subst he
  refine ⟨(e0.mod.nolimit.keeps kept).keeps x.toInCall.keep, codeAny_func ?_⟩
  obtain ⟨t, ht, hq⟩ := hbody cdv A outer s H vs Q E (hr.deeper _) hg hsp
  have I : Inv (cxOf CX P w K mg base N qual (defScope st) f cdv A outer s H E) [] (start N vs) H s1 := inv_start S hr.hd e0 (len _ _ _ _ hsp) r x
  refine wpAny_mono (ht.run [] s1 (start N vs) H _ I hq) (fun fl s' hs => ?_) fun e s' hs => hs
  cases fl with
  | ret u => exact hs.elim fun v z => z.elim fun σ' z => z.elim fun H' z => ⟨v, H', z.1.os, z.1.bare, z.1.base, z.1.hok, z.2.1, z.2.2⟩
  | next => exact hs.elim fun σ' z => z.elim fun H' z => ⟨V.non, H', z.1.os, z.1.bare, z.1.base, z.1.hok, rfl, z.2⟩
  | brk => exact hs.elim fun _ z => z.elim fun _ z => z.2.elim
  | cont => exact hs.elim fun _ z => z.elim fun _ z => z.2.elim
/-- a def that raises nothing -/
theorem okG {x qual : Str} {st : Stmt} {N : List Str} (F : Fun K x qual st f fd) (S : FnScope N ps (defScope st)) (len : ∀ vs H Q E, sp vs H Q E → vs.length = ps.length)
    (hbody : ∀ (cdv : Value) (A : Around) (outer : List Env) (s : Shared) (H : Hp) (vs : List V) (Q : VK) (E : XK), Room k (A.deeper (envOfC qual (defScope st) s.heap.objs.size f cdv)) → A.guards = some [] → sp vs H Q E →
      ∃ t, PSs (cxOf CX0 P w K mg base N qual (defScope st) f cdv A outer s H E).nox (defBody st) t ∧ t { nx := fun _ H' => Q .non H', rt := Q } (start N vs) H) : FnG P w K mg base CX0 (k + 1) f fd ps sp :=
  okG_of F S len fun cdv A outer s H vs Q E hr hg hsp => (hbody cdv A outer s H vs Q E hr hg hsp).elim fun t z => ⟨t, z.1.nox, z.2⟩
end
section
variable {X : Cx} {CX : CXT} {x : Str} {f : Addr} {k : Nat} {fd : FuncData} {ps : List Str} {sp : Sp} {ds : List Value} {dvs : List V} {E : XK} {e : Expr} {es : List Expr} {t : TA} {p pos : Pos}
theorem run_G {pins : List (Addr × Obj)} {σ : L2.St} {H : Hp} {s : Shared} {Q : VK} {us : List Value} {vs : List V} (F : FnG X.prog X.w X.K X.mg X.base CX k f fd ps sp) (hr : Room k X.A) (hu : X.A.guards = some []) (hb : Binds X.K fd ps ds) (hd : Vals dvs ds) (hx : Passes CX X E)
    (I : Inv X pins σ H s) (r : Vals vs us) (h : sp (vs ++ dvs) H Q E) : wpAny (model X.prog X.w) X.A (call (.ref f) us) (EP X pins σ Q) X.xe s := by
  have rr : Vals (vs ++ dvs) (us ++ ds) := r.append hd
  refine wpAny_call (codeAny_mono (F.run X.A X.stack s H ⟨us, []⟩ (us ++ ds) (vs ++ dvs) Q E hr hu I.env0 (hb s us I.kIn (rr.length.symm.trans (F.len _ _ _ _ h))) rr h) fun r s' hq => ?_)
  cases r with
  | error e => exact hx pins σ H s e s' I hq
  | ok fl =>
    cases fl with
    | ret u => exact I.after hq
    | next => exact hq.elim
    | brk => exact hq.elim
    | cont => exact hq.elim
/-- f(e, ..), f by FnG -/
theorem pe_callG (F : FnG X.prog X.w X.K X.mg X.base CX k f fd ps sp) (hr : Room k X.A) (hu : X.A.guards = some []) (hg : Gl X x) (hm : X.mg x = some (.ref f)) (hk : PySem.W.keepIn X.K (.ref f) = true) (hb : Binds X.K fd ps ds) (hd : Vals dvs ds) (hx : Passes CX X E)
    (ha : PA X (e :: es) t) (hdb : (x == ("__debug__" : Str)) = false := by decide) (he : starEach (e :: es) X.env = (false, eval e X.env) :: starEach es X.env := by rfl) (hpl : (backTo pos (starEach es X.env)).any (·.1) = false := by rfl) :
    PE X (.Call (.Name x p) (e :: es) [] pos) (tCall sp dvs E t) :=
  ⟨fun pins s σ H Q I h => wpAny_Call_Name_kw (ld_glob I hg hm (PySem.W.callWith_K (h₀ := X.base) I.ok.mod.kin hk (thn (ha.run pos pins s σ H _ I h) fun us s1 ⟨vs, H1, I1, r, q⟩ => ⟨I1.kIn, run_G F hr hu hb hd hx I1 r q⟩) he hpl) hdb)⟩
end
/-! ### repr of data -/
/-- data with the empty dict -/
def Dat (K : PySem.W.Frag) (H : Hp) (x : V) (d : PyData) : Prop := Dp K H x d ∨ ∃ a, x = .ref a ∧ H a = some (.dK []) ∧ d = .dict []
section
variable {X : Cx} {pins : List (Addr × Obj)} {σ : L2.St} {H : Hp} {s : Shared}
theorem Dat.reads {x : V} {u : Value} {d : PyData} (I : Inv X pins σ H s) (h : Dat X.K H x d) (r : RelV x u) : ∃ as, Reads s.heap u d as ∧ (d.hasDict = true → sysModules ∉ as) := by
  rcases h with h | ⟨a, rfl, ha, rfl⟩
  · obtain ⟨as, q⟩ := Dp.reads I d x u h r
    have key : ∀ {x : V} {d : PyData}, Dp X.K H x d → d.hasDict = false := by
      intro x d h
      refine Dp.rec (motive_1 := fun _ d _ => d.hasDict = false) (motive_2 := fun _ ds _ => PyData.hasDictAll ds = false) ?_ ?_ ?_ ?_ ?_ ?_ ?_ ?_ h
      · rfl
      · intro b; rfl
      · intro i; rfl
      · intro z; rfl
      · intro a xs ds _ _ ih; exact ih
      · intro a xs ds _ _ ih; exact ih
      · rfl
      · intro v vs d ds _ _ i1 i2
        show (PyData.hasDict d || PyData.hasDictAll ds) = false
        rw [i1, i2]
        rfl
    exact ⟨as, q, fun z => by rw [key h] at z; cases z⟩
  · obtain rfl : u = Value.ref a := r
    obtain ⟨_, hs, vs, kv, o, es, ep, ho, hc, hdt, hes⟩ := (show ObjOk X.prog X.w H s.heap a (.dK []) from I.hok a _ ha)
    cases kv
    have e0 : es.toList = [] := by
      obtain ⟨_, hp, _⟩ := hes
      cases q : es.toList with
      | nil => rfl
      | cons x r => rw [q] at hp; cases hp
    refine ⟨_, .dict (as := []) (bs := []) ho hc.1 hdt (by rw [e0]; exact .nil) (by rw [e0]; exact .nil), fun _ z => ?_⟩
    rw [List.append_nil, List.mem_singleton] at z
    rw [← z] at hs
    simp at hs
/-- repr(data) -/
def rReprD (K : PySem.W.Frag) : List V → Hp → VK → Prop := fun xs H Q => ∃ (x : V) (d : PyData), xs = [x] ∧ Dat K H x d ∧ d.showable = true ∧ d.depth ≤ 40 ∧ d.shown.length ≤ sizeLine ∧ Q (.str d.shown) H
theorem cr_reprD (hg : X.A.guards = some []) (hu : X.A.units + 64 < cLine) : CallR X (.builtin "repr") (rReprD X.K) := by
  intro pins s σ H xs us Q I r h
  obtain ⟨x, d, rfl, hd, hs, hdp, hz, q⟩ := h
  obtain ⟨u, rfl, ru⟩ := vals1 r
  obtain ⟨as, rd, hsm⟩ := hd.reads I ru
  cases rd with
  | none => exact PySem.P.repr_of_none ⟨.str _, H, I.tok _, ⟨_, rfl⟩, q⟩
  | bool b => exact PySem.P.repr_of_bool ⟨.str _, H, I.tok _, ⟨_, rfl⟩, q⟩
  | int i t => exact PySem.P.repr_of_int (of_decide_eq_true hs) ⟨.str _, H, I.tok _, ⟨_, rfl⟩, q⟩
  | str z t => exact PySem.P.repr_of_str ⟨.str _, H, I.tok _, ⟨_, rfl⟩, q⟩ hz
  | list a1 a2 a3 a4 => exact repr_of_reads' (.list a1 a2 a3 a4) hs hsm hg (by omega) (fun _ _ e => e) (fun h' u' tk hk => ⟨.str _, H, I.kept (t' := tk) hk, ⟨_, rfl⟩, q⟩) hz
  | tuple a1 a2 a3 a4 => exact repr_of_reads' (.tuple a1 a2 a3 a4) hs hsm hg (by omega) (fun _ _ e => e) (fun h' u' tk hk => ⟨.str _, H, I.kept (t' := tk) hk, ⟨_, rfl⟩, q⟩) hz
  | dict a1 a2 a3 a4 a5 => exact repr_of_reads' (.dict a1 a2 a3 a4 a5) hs hsm hg (by omega) (fun _ _ e => e) (fun h' u' tk hk => ⟨.str _, H, I.kept (t' := tk) hk, ⟨_, rfl⟩, q⟩) hz
end
end Mo
namespace Mo
open PySem PySem.Spec PyProof.Rows L2
/-- an own error class over ValueError with one field f, its __init__ at fI -/
structure ErrC (K : PySem.W.Frag) (C fI : Addr) (f : Str) : Prop where
  oex : OexC K C
  xf : XfC K C
  exc : ExcC K C
  no : PySem.W.findIn K (.ref C) f = some none
  te : PySem.W.exmOne K (.ref C) (.ref C) = some true
  iC : PySem.W.findIn K (.ref C) "__init__" = some (some (.ref fI))
  tI : PySem.W.typeIn K (.ref fI) = some (.type "function")
/-- its __init__: self.f = y -/
def spInit (C : Addr) (f : Str) : Sp := fun vs H Q _ => ∃ (a : Addr) (y : V), vs = [.ref a, y] ∧ H a = some (exo a C none) ∧ ∀ dx, H dx = none → dx ≠ a → Q .non (upd (upd H dx (exd dx [(f, y)])) a (exo a C (some dx)))
/-- raising it: what is left to be shown -/
theorem err_read {C : Addr} {f : Str} {H : Hp} {v : V} {Q : XK} (h : ∀ d H', H d = none → Same H H' → H' d = some (.xd [(f, v)]) → Q (.ref C) (some d) H') :
    [v].length ≤ 1000 ∧ ∀ a, H a = none → spInit C f (.ref a :: ([v] ++ [])) (upd H a (exo a C none)) (fun x H2 => x = .non ∧ ∃ (d : Addr) (fs : List (Str × V)), H2 a = some (exo a C (some d)) ∧ H2 d = some (exd d fs) ∧ H d = none ∧ Q (.ref C) (some d) (upd (del H2 a) d (.xd fs))) (fun _ _ _ => False) := by
  refine ⟨by show 1 ≤ 1000; decide, fun a na => ⟨a, v, rfl, upd_same, fun dx nd ne => ⟨rfl, dx, [(f, v)], upd_same, by rw [upd_ne ne, upd_same], ?_, ?_⟩⟩⟩
  · rw [upd_ne ne] at nd
    exact nd
  · have nd' : H dx = none := by rw [upd_ne ne] at nd; exact nd
    refine h dx _ nd' (fun b o e => ?_) upd_same
    have nb : b ≠ dx := ne_of_none e nd'
    have nba : b ≠ a := ne_of_none e na
    rw [upd_ne nb, del_ne nba, upd_ne nba, upd_ne nb, upd_ne nba]
    exact e
theorem kit1_type {K : PySem.W.Frag} {C : Addr} {T : String} {b : Bool} (h : PySem.W.subIn K (.ref C) (.type T) = some b) (hm : PySem.W.kitMeta T = true) : PySem.W.kitOne K (.ref C) (.type T) = some b := by
  show (if (Value.ref C == Value.type T) = true then some true else (if PySem.W.kitMeta T = true then PySem.W.subIn K (.ref C) (.type T) else none)) = some b
  rw [if_neg (by intro z; cases beq_iff_eq.mp z), if_pos hm]
  exact h
theorem kit1_ref {K : PySem.W.Frag} {C D : Addr} (h : PySem.W.subIn K (.ref C) (.ref D) = some false) (hs : PySem.W.subIn K (.ref C) (.ref C) = some true) (hc : PySem.W.isClsIn K D = true) (ht : PySem.W.typeIn K (.ref D) = some (.type "type")) : PySem.W.kitOne K (.ref C) (.ref D) = some false := by
  have hc2 : (PySem.W.clsIn K D).isSome = true := hc
  show (if (Value.ref C == Value.ref D) = true then some true else (if ((PySem.W.clsIn K D).isSome && PySem.W.typeIn K (.ref D) == some (.type "type")) = true then PySem.W.subIn K (.ref C) (.ref D) else none)) = some false
  rw [if_neg (by intro z; rw [← beq_iff_eq.mp z, hs] at h; cases h), if_pos (by rw [hc2, ht]; rfl)]
  exact h
end Mo

/-! ### the end of a law whose promise is an FnG -/
namespace Mo
open PySem PySem.Spec PyProof.Rows L2
theorem callG {P : Program} {w : World} {K : PySem.W.Frag} {mg mb : Str → Option Value} {CX : CXT} {k : Nat} {fa a : Addr} {fd : FuncData} {x : Str} {sp : Sp} {s₁ : Shared} {vs : List Value} {ns : List Int}
    (KX : K.In s₁.heap) (hns : s₁.heap.Ns mainGlobals mg) (hb : s₁.heap.Ns builtinsNs mb) (hbb : ∀ x : Str, x ≠ "__name__" → mb x = bootBuiltins x) (hlim : s₁.heap.NoLimit) (hg : s₁.gens = #[])
    (ha : s₁.heap.get? a = some { cls := .type "list", data := .seq vs.toArray }) (hi : IntsAre vs ns) (hl : ns.length ≤ sizeLine) (hr : Room k callerA)
    (F : ∀ base : Heap, K.In base → base.Ns mainGlobals mg → (∀ b m, s₁.heap.Ns b m → base.Ns b m) → FnG P w K mg base CX k fa fd [x] sp) (hbind : ∀ (s : Shared) (u : Value), BindsTo s fd ⟨[u], []⟩ [(x, u)])
    (hsp : ∀ H : Hp, Only H → SqL K H a (ns.map V.int) → sp [.ref a] H (fun v _ => v = .bl true) fun _ _ _ => False)
    (hCX : ∀ H e s', CX [] H s₁ (fun _ _ _ => False) e s' → False) :
    codeAny (model P w) callerA (.call (.ref fa) ⟨[.ref a], []⟩) (fun r s' => r = .ok (.ret (.bool true)) ∧ OldK s₁.heap s'.heap ∧ s'.os = s₁.os ∧ AllBare s'.gens) s₁ := by
  have rv := vals_ints hi
  have lenV := hi.length
  have core : ∀ H : Hp, Only H → SqL K H a (ns.map V.int) → HOk P w H s₁.heap → (∀ b, H b ≠ none → b = a) → (H a ≠ none → K.lookup a = none) →
      codeAny (model P w) callerA (.call (.ref fa) ⟨[.ref a], []⟩) (fun r s' => r = .ok (.ret (.bool true)) ∧ OldK s₁.heap s'.heap ∧ s'.os = s₁.os ∧ AllBare s'.gens) s₁ := by
    intro H hO hS hok hA hK
    have atA : ∀ {b : Addr} {u : HO}, H b = some u → b = a := fun {b u} q => hA b (by rw [q]; exact Option.some_ne_none _)
    have grnd : ∀ {b : Addr} {o : Obj}, s₁.heap.get? b = some o → H b = none → (hidT s₁.heap H).get? b = some o := fun e n => hidT_get e n
    have noA : ∀ {b : Addr} {o : Obj} {es : Array DictEntry} {ep : Nat}, s₁.heap.get? b = some o → o.data = .dict es ep → H b = none := fun {b o es ep} e d => by
      cases q : H b with
      | none => rfl
      | some u =>
        rw [atA q, ha] at e
        cases e
        cases (show Data.seq vs.toArray _ = Data.dict es ep from d)
    have nsK : ∀ {b : Addr} {m : Str → Option Value}, s₁.heap.Ns b m → (hidT s₁.heap H).Ns b m := fun {b m} ⟨o, es, ep, e, d, r⟩ => ⟨o, es, ep, grnd e (noA e d), d, r⟩
    have hKb : K.In (hidT s₁.heap H) := fun b o e => grnd (KX b o e) (by
      cases q : H b with
      | none => rfl
      | some u =>
        obtain rfl := atA q
        rw [hK (by rw [q]; exact Option.some_ne_none _)] at e
        cases e)
    have hM : Mod K mg (hidT s₁.heap H) := ⟨hKb, nsK hns, ⟨mb, nsK hb, hbb⟩, hlim.elim fun mc z => ⟨mc, nsK z.1, z.2⟩⟩
    have e0 : Env0 P w K mg (hidT s₁.heap H) callerA [] s₁ H := ⟨rfl, hM, fun b o e => of_hidT e, Nat.le_of_eq (hidT_size _ _), trivial, fun b hb => absurd (show b ∈ ([] : List Addr) from hb) (by simp), hok, .of_eq hg⟩
    refine codeAny_mono ((F _ hKb (nsK hns) fun b m z => nsK z).run callerA [] s₁ H ⟨[.ref a], []⟩ [.ref a] [.ref a] _ _ hr rfl e0 (hbind s₁ (.ref a)) (.cons rfl .nil) (hsp H hO hS)) fun r s' h => ?_
    cases r with
    | error e => exact (hCX H e s' h).elim
    | ok fl =>
      cases fl with
      | next => exact h.elim
      | brk => exact h.elim
      | cont => exact h.elim
      | ret u =>
        obtain ⟨v, H', os, bare, un, hok', r', q⟩ := h
        obtain rfl : v = .bl true := q
        obtain rfl : u = Value.bool true := r'
        refine ⟨rfl, OldK.of_keep fun b o e => ?_, os, bare⟩
        cases q : H b with
        | none => exact un.keep b o e q (by intro z; exact absurd (show b ∈ ([] : List Addr) from z) (by simp)) (by simp)
        | some u =>
          rcases hO b with z | ⟨ob, xs, z⟩
          · rw [q] at z
            cases z
          · have z2 := un.frzs b ob _ z
            have e1 := (hok b _ z).1
            rw [e] at e1
            cases e1
            exact (hok' b _ z2).1
  cases hk : K.lookup a with
  | some o =>
    have e := KX a o hk
    rw [ha] at e
    cases e
    exact core (fun _ => none) (fun _ => .inl rfl) (.inr ⟨_, vs.toArray, _, hk, rfl, rfl, rfl, by rw [List.size_toArray, lenV]; exact hl, by simpa using rv⟩) (fun b u z => nomatch z) (fun b z => absurd rfl z) fun z => absurd rfl z
  | none =>
    have at2 : ∀ {b : Addr} {u : HO}, (if b = a then some (HO.frz { cls := .type "list", data := .seq vs.toArray } (.lst (ns.map V.int))) else none) = some u → b = a ∧ u = .frz { cls := .type "list", data := .seq vs.toArray } (.lst (ns.map V.int)) := fun {b u} z => by
      by_cases hb : b = a
      · rw [if_pos hb] at z
        exact ⟨hb, (Option.some.inj z).symm⟩
      · rw [if_neg hb] at z
        cases z
    refine core (fun b => if b = a then some (.frz { cls := .type "list", data := .seq vs.toArray } (.lst (ns.map V.int))) else none) (fun b => ?_) (.inl (.inr ⟨{ cls := .type "list", data := .seq vs.toArray }, if_pos rfl⟩)) (fun b u z => ?_) (fun b z => ?_) fun _ => hk
    · by_cases hb : b = a
      · exact .inr ⟨_, _, if_pos hb⟩
      · exact .inl (if_neg hb)
    · obtain ⟨rfl, rfl⟩ := at2 z
      exact ⟨ha, by rw [List.length_map]; exact hl, vs, _, rv, ha⟩
    · by_cases hb : b = a
      · exact hb
      · exact absurd (if_neg hb) z
theorem walkG {l : PySem.W.OpenLaw} {n k : Nat} {q : Program} {loose : List Str} {XP : (Str → Option Value) → Heap → Prop} {YP : World → Heap → Prop} {d : DefRec} {K : Params → PySem.W.Frag} {CX : World → CXT} {sp : World → Sp} {x : Str}
    (hn : l.most = some n) (hn2 : n ≤ sizeLine) (hdf : d.params.defaults = []) (hr : Room k callerA) (hY : ∀ (w : World) (h : Heap), YP w h → (K w.params).In h)
    (F : ∀ (w : World) (mg : Str → Option Value) (fa : Addr) (h : Heap), (K w.params).In h → h.Ns mainGlobals mg → mg d.name = some (.ref fa) →
      ∃ fd : FuncData, (∀ (s : Shared) (u : Value), BindsTo s fd ⟨[u], []⟩ [(x, u)]) ∧ ∀ base : Heap, (K w.params).In base → base.Ns mainGlobals mg → FnG l.prog w (K w.params) mg base (CX w) k fa fd [x] (sp w))
    (hsp : ∀ (w : World) (H : Hp) (a : Addr) (ns : List Int), ns.length ≤ n → Only H → SqL (K w.params) H a (ns.map V.int) → sp w [.ref a] H (fun v _ => v = .bl true) fun _ _ _ => False)
    (hCX : ∀ (w : World) (H : Hp) (s : Shared) (e : Value) (s' : Shared), CX w [] H s (fun _ _ _ => False) e s' → False) :
    PySem.W.WalkO q loose XP YP l.row.toRowW d [] (fun f vs => PySem.call f vs) := by
  refine Att.attach_call hn hdf fun w s₀ s₁ mg mb fa o pm cd doc a vs ns G Y ho hd hcd hmg hobj hints hlen hg => ?_
  obtain ⟨fd, hb, hF⟩ := F w mg fa _ (hY w _ Y) G.T.g hmg
  exact callG (hY w _ Y) G.T.g G.T.b G.T.builtins G.T.nolimit hg hobj hints (Nat.le_trans hlen hn2) hr (fun base a b _ => hF base a b) hb (fun H hO hS => hsp w H a ns hlen hO hS) fun H e s' => hCX w H s₁ e s'
/-- where repr meets dicts: sys.modules is there, and is none of ours -/
theorem walkM {l : PySem.W.OpenLaw} {n k : Nat} {q : Program} {loose : List Str} {XP : (Str → Option Value) → Heap → Prop} {YP : World → Heap → Prop} {d : DefRec} {K : Params → PySem.W.Frag} {CX : World → CXT} {sp : World → Sp} {x : Str}
    (hn : l.most = some n) (hn2 : n ≤ sizeLine) (hdf : d.params.defaults = []) (hr : Room k callerA) (hY : ∀ (w : World) (h : Heap), YP w h → (K w.params).In h) (hi : importsNone q = true)
    (F : ∀ (w : World) (mg : Str → Option Value) (fa : Addr) (h : Heap), (K w.params).In h → h.Ns mainGlobals mg → mg d.name = some (.ref fa) →
      ∃ fd : FuncData, (∀ (s : Shared) (u : Value), BindsTo s fd ⟨[u], []⟩ [(x, u)]) ∧ ∀ base : Heap, (K w.params).In base → base.Ns mainGlobals mg → (∃ mm, base.Ns sysModules mm) → FnG l.prog w (K w.params) mg base (CX w) k fa fd [x] (sp w))
    (hsp : ∀ (w : World) (H : Hp) (a : Addr) (ns : List Int), ns.length ≤ n → Only H → SqL (K w.params) H a (ns.map V.int) → sp w [.ref a] H (fun v _ => v = .bl true) fun _ _ _ => False)
    (hCX : ∀ (w : World) (H : Hp) (s : Shared) (e : Value) (s' : Shared), CX w [] H s (fun _ _ _ => False) e s' → False) :
    PySem.W.WalkO q loose XP YP l.row.toRowW d [] (fun f vs => PySem.call f vs) := by
  refine Att.attach_call hn hdf fun w s₀ s₁ mg mb fa o pm cd doc a vs ns G Y ho hd hcd hmg hobj hints hlen hg => ?_
  obtain ⟨fd, hb, hF⟩ := F w mg fa _ (hY w _ Y) G.T.g hmg
  obtain ⟨mm, hm, _⟩ := (G.T.seer hi).mods
  exact callG (hY w _ Y) G.T.g G.T.b G.T.builtins G.T.nolimit hg hobj hints (Nat.le_trans hlen hn2) hr (fun base a b c => hF base a b ⟨mm, c _ _ hm⟩) hb (fun H hO hS => hsp w H a ns hlen hO hS) fun H e s' => hCX w H s₁ e s'
end Mo

/-! ### lambdas without parameters, handed to a def that calls them within a try -/
namespace Mo
open PySem PySem.Spec PyProof.Rows L2
section
variable {P : Program} {w : World} {K : PySem.W.Frag} {mg : Str → Option Value} {base : Heap} {k : Nat} {f c : Addr} {fd : FuncData} {ps : List Str} {sp : Sp}
/-- a def that raises nothing, the place of its code object told -/
theorem okT {x qual : Str} {st : Stmt} {N : List Str} (F : Fun K x qual st f fd) (hc : fd.code = .ref c) (S : FnScope N ps (defScope st)) (len : ∀ vs H Q E, sp vs H Q E → vs.length = ps.length)
    (hbody : ∀ (A : Around) (outer : List Env) (s : Shared) (H : Hp) (vs : List V) (Q : VK) (E : XK), Room k (A.deeper (envOfC qual (defScope st) s.heap.objs.size f (.ref c))) → A.guards = some [] → sp vs H Q E →
      ∃ t, PSs (cxOf CX0 P w K mg base N qual (defScope st) f (.ref c) A outer s H E).nox (defBody st) t ∧ t { nx := fun _ H' => Q .non H', rt := Q } (start N vs) H) : FnG P w K mg base CX0 (k + 1) f fd ps sp := by
  obtain ⟨oc, od, kV, doc, pm, an, cdv, ct, osl, rfl, lk, hcd⟩ := F.ex
  obtain rfl : cdv = .ref c := hc
  refine ⟨len, fun A outer s H args us vs Q E hr hg e0 hb r hsp => ?_⟩
  have stays : ∀ b o, base.get? b = some o → s.heap.get? b = some o := fun b o e => (e0.bs b o e).1
  have KX : K.In s.heap := e0.mod.kin.keeps stays
  have kinds : ∀ y ∈ ps.zip us, (defScope st).names.lookup y.1 = some .local ∨ ((defScope st).names.lookup y.1 = some .cell ∧ ((cellsFrom (s.heap.objs.size + 1) (defScope st).names []).lookup y.1).isSome = true) := fun y hy =>
    (S.par y.1 (List.of_mem_zip (a := y.1) (b := y.2) hy).1).elim .inl fun q => .inr ⟨q, PySem.W.cellsFrom_some _ _ _ (.inl q)⟩
  refine codeAny_call_function hr.depth (KX _ _ lk) rfl S.co S.gen rfl (PySem.W.codeRec_of KX hcd) (hb _ _ _ _ (wpAny_newFunctionEnv_cells S.kind kinds fun env he s1 x => ?_))
  subst he
  refine ⟨(e0.mod.nolimit.keeps stays).keeps x.toInCall.keep, codeAny_func ?_⟩
  obtain ⟨t, ht, hq⟩ := hbody A outer s H vs Q E (hr.deeper _) hg hsp
  have I : Inv (cxOf CX0 P w K mg base N qual (defScope st) f (.ref c) A outer s H E) [] (start N vs) H s1 := inv_start S hr.hd e0 (len _ _ _ _ hsp) r x
  refine wpAny_mono (ht.nox.run [] s1 (start N vs) H _ I hq) (fun fl s' hs => ?_) fun e s' hs => hs
  cases fl with
  | ret u => exact hs.elim fun v z => z.elim fun σ' z => z.elim fun H' z => ⟨v, H', z.1.os, z.1.bare, z.1.base, z.1.hok, z.2.1, z.2.2⟩
  | next => exact hs.elim fun σ' z => z.elim fun H' z => ⟨V.non, H', z.1.os, z.1.bare, z.1.base, z.1.hok, rfl, z.2⟩
  | brk => exact hs.elim fun _ z => z.elim fun _ z => z.2.elim
  | cont => exact hs.elim fun _ z => z.elim fun _ z => z.2.elim
end
/-- the call of what was got: it stands in slot i; what it lets out is wished by W there -/
def tAct (i : Nat) (fn cc : Addr) (q : Str) (tl : XK → Hp → VK → Prop) (W : WX) : TE := fun σ H Q =>
  σ[i]? = some (some (.ref fn)) ∧ H cc = some (LamX.CodeO cc q) ∧ ∃ E : XK, (∀ cls d H', E cls d H' → W cls d σ H') ∧ tl E H Q
section
variable {X : Cx} {pins : List (Addr × Obj)} {σ : L2.St} {H : Hp} {s : Shared}
theorem pe_actS {CXg : CXT} {Eg : XK} {Ng : List Str} {qg : Str} {sg : Scope} {g fn cc : Addr} {cdg pm ctv : Value} {params : Arguments} {body : Expr} {scope : Scope} {k i : Nat} {a : Str} {pn : List (Addr × Obj)} {xe : Value → Shared → Prop} {W : WX} {tb : XK → TE} {p1 p2 : Pos}
    (I : Inv X pins σ H s) (L : LamX.LamS X.env.scope scope) (hf : s.heap.get? fn = some (PySem.W.kla_obj "<lambda>" (X.env.qual ++ "<lambda>") params body scope (cloFrom X.env.cells scope.names []) pm cc ctv)) (nfn : H fn = none) (frn : fn ∉ frs X.stack)
    (hbind : bindArgs (PySem.W.kla_fn "<lambda>" (X.env.qual ++ "<lambda>") params body scope (cloFrom X.env.cells scope.names []) pm (.ref cc) ctv) ⟨[], []⟩ = pure [])
    (tk : Takes ((cxOf CXg X.prog X.w X.K X.mg X.base Ng qg sg g cdg X.A X.stack s H Eg).tr pn xe) W) (hr : Room (k + 1) (X.A.deeper (envOfC qg sg s.heap.objs.size g cdg)))
    (hbody : ∀ (A : Around) (outer : List Env) (s' : Shared) (H' : Hp) (E : XK), Room k (A.deeper (LamX.lamEnv X scope s'.heap.objs.size fn cc)) → A.guards = X.A.guards → PE (LamX.lamCx X A outer s' H' E scope fn cc) body (tb E))
    (hN : Ng[i]? = some a) (hv : Vis sg a) (hd : (a == ("__debug__" : Str)) = false := by decide) (hcd : (a == ("__classdict__" : Str)) = false := by decide) :
    PE ((cxOf CXg X.prog X.w X.K X.mg X.base Ng qg sg g cdg X.A X.stack s H Eg).tr pn xe) (.Call (.Name a p1) [] [] p2) (tAct i fn cc (X.env.qual ++ "<lambda>") (fun E H' Q' => tb E σ H' Q') W) := by
  refine ⟨fun pinsZ sZ σZ HZ Q IZ want => ?_⟩
  obtain ⟨at_i, at_c, E, toW, told⟩ := want
  refine wpAny_Call_Name_kw (thn ((pe_var (pos := p1) (i := i) hN hv hd hcd).run pinsZ sZ σZ HZ (fun v H1 => v = .ref fn ∧ H1 = HZ) IZ ⟨.ref fn, at_i, rfl, rfl⟩) fun u s1 got => ?_)
  obtain ⟨v, H1, J1, rv, ev, eH⟩ := got
  subst ev
  subst eH
  obtain rfl : u = Value.ref fn := rv
  have stands := J1.base.keep fn _ hf nfn frn (fun z => nomatch (show fn ∈ ([] : List Addr) from z))
  refine PySem.W.callWith_F0 ⟨_, _, _, _, stands⟩ ?_
  have kept : Un (frs X.stack) [] H H1 s.heap s1.heap := J1.base
  obtain ⟨⟨ob, us, tk1, g1, g2, g3⟩, _, _⟩ := J1.hok cc _ at_c
  have runs : codeAny (model X.prog X.w) (X.A.deeper (envOfC qg sg s.heap.objs.size g cdg)) (.call (.ref fn) ⟨[], []⟩) (CR (L2.CX X.prog X.w) (envOfC qg sg s.heap.objs.size g cdg :: X.stack) X.prog X.w H1 s1 Q E) s1 := by
    refine PySem.W.kla_callFunE hr.depth stands rfl L.co L.gen rfl ⟨cc, ob, us, tk1, rfl, g1, g2, g3⟩ ?_
    rw [hbind]
    refine wpAny_pure (wpAny_newFunctionEnv (fun y hy => (L.own y hy).2) (fun y hy => absurd hy (by simp)) (fun h₂ names sub => ⟨J1.nolimit.fresh _ sub, ?_⟩) L.kind)
    show codeAny _ _ (.expr body (LamX.lamEnv X scope s1.heap.objs.size fn cc)) _ _
    have old : ∀ b o, s1.heap.get? b = some o → h₂.get? b = some o := fun b o e => sub.extBut b o (Nat.ne_of_lt (Heap.lt_size e)) (Heap.get?_push_of_some _ e)
    have J : Inv (LamX.lamCx X (X.A.deeper (envOfC qg sg s.heap.objs.size g cdg)) (envOfC qg sg s.heap.objs.size g cdg :: X.stack) s1 H1 E scope fn cc) [] σ H1 { s1 with heap := h₂, toks := s1.toks + ([] : List (Str × Value)).length } := LamX.lam_start2 I L J1.env0 hr.hd kept names old
    refine PySem.W.kla_codeExpr (wpAny_mono ((hbody _ _ s1 H1 E (hr.deeper _) rfl).run [] _ _ H1 Q J told) (fun v s' hq => hq.elim fun w' z => z.elim fun H' z => ⟨w', H', z.1.os, z.1.bare, z.1.base, z.1.hok, z.2.1, z.2.2⟩) fun e s' hq => hq)
  refine wpAny_call (codeAny_mono runs fun r s' hq => ?_)
  cases r with
  | error e => exact tk e s' (XE.of_call J1 (fun cls d H' h => toW cls d H' h) hq)
  | ok fl =>
    cases fl with
    | ret u => exact J1.after hq
    | next => exact hq.elim
    | brk => exact hq.elim
    | cont => exact hq.elim
/-- the def that calls what it got, by its body; TT: what it makes of the lambda's reading -/
def Gives (X : Cx) (Ng : List Str) (x : Str) (sg : Scope) (g : Addr) (cdg : Value) (bg : List Stmt) (a : Str) (q : Str) (k : Nat) (TT : (XK → Hp → VK → Prop) → Hp → VK → Prop) : Prop :=
  ∀ (fn cc : Addr) (s : Shared) (H : Hp) (Q : VK) (tl : XK → Hp → VK → Prop), Room (k + 1) (X.A.deeper (envOfC x sg s.heap.objs.size g cdg)) →
    (∀ (W : WX) (pn : List (Addr × Obj)) (xe : Value → Shared → Prop) (p1 p2 : Pos), Takes ((cxOf CX0 X.prog X.w X.K X.mg X.base Ng x sg g cdg X.A X.stack s H C8.E0).nox.tr pn xe) W →
      PE ((cxOf CX0 X.prog X.w X.K X.mg X.base Ng x sg g cdg X.A X.stack s H C8.E0).nox.tr pn xe) (.Call (.Name a p1) [] [] p2) (tAct 0 fn cc q tl W)) →
    H cc = some (LamX.CodeO cc q) → TT tl H Q →
    ∃ t, PSs (cxOf CX0 X.prog X.w X.K X.mg X.base Ng x sg g cdg X.A X.stack s H C8.E0).nox bg t ∧ t { nx := fun _ H' => Q .non H', rt := Q } (L2.start Ng [.ref fn]) H
end
section
variable {X : Cx}
/-- x(lambda: body) -/
theorem pe_lam {T : List (Addr × Str)} {TT : (XK → Hp → VK → Prop) → Hp → VK → Prop} {x a : Str} {g c P : Addr} {k : Nat} {st : Stmt} {fd : FuncData} {Ng : List Str} {params : Arguments} {body : Expr} {scope : Scope} {t : XK → TE} {p lpos pos : Pos}
    (F : Fun X.K x x st g fd) (hb : L2.Binds X.K fd [a] []) (Sg : FnScope Ng [a] (defScope st)) (hg : Gl X x) (hm : X.mg x = some (.ref g)) (hNg : Ng[0]? = some a) (hva : Vis (defScope st) a)
    (hG : ∀ cdv : Value, Gives X Ng x (defScope st) g cdv (defBody st) a (X.env.qual ++ "<lambda>") k TT)
    (TB : LamX.TabB X.base X.mg c P) (hcode : X.env.code = .ref c) (hmT : (P, X.env.qual ++ "<lambda>") ∈ T) (hu : ∀ p ∈ T, p.1 = P → p.2 = X.env.qual ++ "<lambda>") (hr : Room (k + 2) X.A) (L : LamX.LamS X.env.scope scope) (hdef : defaultsOf params X.env = ([], []))
    (hbind : ∀ (q : Str) (cl : List (Str × Addr)) (pm cv ctv : Value), bindArgs (PySem.W.kla_fn "<lambda>" q params body scope cl pm cv ctv) ⟨[], []⟩ = pure [])
    (hbody : ∀ (A : Around) (outer : List Env) (s' : Shared) (H' : Hp) (E : XK) (fn cc : Addr), Room k (A.deeper (LamX.lamEnv X scope s'.heap.objs.size fn cc)) → A.guards = X.A.guards → PE (LamX.lamCx X A outer s' H' E scope fn cc) body (t E))
    (hdb : (x == ("__debug__" : Str)) = false := by decide) (hd : (a == ("__debug__" : Str)) = false := by decide) (hcd : (a == ("__classdict__" : Str)) = false := by decide) :
    PE X (.Call (.Name x p) [.Lambda params body scope lpos] [] pos) (LamX.tLam T TT t) := by
  refine ⟨fun pins s σ H Q I want => ?_⟩
  obtain ⟨oc, od, kV, doc, pm, an, cdv, ct, osl, rfl, lk, hcg⟩ := F.ex
  obtain ⟨tabs, told⟩ := want
  refine wpAny_Call_Name_kw (ld_glob I hg hm (PySem.W.callWith_K (h₀ := X.base) I.ok.mod.kin F.kp ?_ (by rfl) (by rfl)) hdb)
  show wpAny _ _ (spliced ((false, eval (.Lambda params body scope lpos) X.env) :: backTo pos (starEach [] X.env))) _ _ s
  refine Calls.spliced_cons (LamX.lam_make2 I TB hcode hmT hu tabs hdef (L.has I.ok) fun fn cc pm' ctv H1 s1 J ext tabs1 stands nfn frn hco => Calls.spliced_nil ⟨J.kIn, ?_⟩)
  have runs : codeAny (model X.prog X.w) X.A (.call (.ref g) ⟨[.ref fn], []⟩) (CR CX0 X.stack X.prog X.w H1 s1 Q C8.E0) s1 := by
    refine LamX.run_ofS (N := Ng) (ps := [a]) (us := [.ref fn]) (vs := [.ref fn]) lk hcg Sg hr J.env0 (hb s1 [.ref fn] J.kIn rfl) (.cons rfl .nil) rfl fun hr1 => ?_
    obtain ⟨t1, ht1, hq1⟩ := hG cdv fn cc s1 H1 Q (fun E H' Q' => t E σ H' Q') hr1 (fun W pn xe p1 p2 tk => pe_actS (CXg := CX0) (Eg := C8.E0) (i := 0) J L stands nfn frn (hbind _ _ _ _ _) tk hr1 (fun A outer s' H' E hr2 hgu => hbody A outer s' H' E fn cc hr2 hgu) hNg hva hd hcd) hco (told H1 ext tabs1)
    exact ⟨t1, ht1.nox, hq1⟩
  refine wpAny_call (codeAny_mono runs fun r s2 hq => ?_)
  cases r with
  | error e => exact (show False from hq).elim
  | ok fl =>
    cases fl with
    | ret u => exact J.after hq
    | next => exact hq.elim
    | brk => exact hq.elim
    | cont => exact hq.elim
end
end Mo

/-! ### the end of a law that makes lambdas: the tables of code objects are empty at the start -/
namespace Mo
open PySem PySem.Spec PyProof.Rows L2
def tab0 : Obj := { cls := .none, data := .fields #[] }
/-- what the abstract heap knows at the start: the script, and the tables ts -/
def Start (ts : List Addr) (a : Addr) (H : Hp) : Prop := (∀ b ∈ ts, H b = some (.tbl #[])) ∧ ∀ b, b ∉ ts → H b = none ∨ (b = a ∧ ∃ o xs, H b = some (.frz o (.lst xs)))
theorem callT {P : Program} {w : World} {K : PySem.W.Frag} {mg mb : Str → Option Value} {CX : CXT} {k : Nat} {fa a : Addr} {cs : List (Addr × Addr)} {fd : FuncData} {x : Str} {sp : Sp} {s₁ : Shared} {vs : List Value} {ns : List Int}
    (KX : K.In s₁.heap) (hns : s₁.heap.Ns mainGlobals mg) (hb : s₁.heap.Ns builtinsNs mb) (hbb : ∀ x : Str, x ≠ "__name__" → mb x = bootBuiltins x) (hlim : s₁.heap.NoLimit) (hg : s₁.gens = #[])
    (hT : ∀ p ∈ cs, s₁.heap.get? p.2 = some tab0) (nT : ∀ p ∈ cs, K.lookup p.2 = none) (C : ∀ p ∈ cs, PySem.W.CodeHd s₁.heap p.1 p.2)
    (bmain : ∃ (bm : Addr) (ob : Obj), mg "__builtins__" = some (.ref bm) ∧ bm ≠ builtinsNs ∧ s₁.heap.get? bm = some ob ∧ ob.cls = .type "module" ∧ ob.dict = some builtinsNs ∧ ob.data = .plain)
    (ha : s₁.heap.get? a = some { cls := .type "list", data := .seq vs.toArray }) (hi : IntsAre vs ns) (hl : ns.length ≤ sizeLine) (hr : Room k callerA)
    (F : ∀ base : Heap, K.In base → base.Ns mainGlobals mg → (∀ p ∈ cs, LamX.TabB base mg p.1 p.2) → (∀ b m, s₁.heap.Ns b m → base.Ns b m) → FnG P w K mg base CX k fa fd [x] sp) (hbind : ∀ (s : Shared) (u : Value), BindsTo s fd ⟨[u], []⟩ [(x, u)])
    (hsp : ∀ H : Hp, (∀ p ∈ cs, H p.2 = some (.tbl #[])) → SqL K H a (ns.map V.int) → sp [.ref a] H (fun v _ => v = .bl true) fun _ _ _ => False)
    (hCX : ∀ H e s', CX [] H s₁ (fun _ _ _ => False) e s' → False) :
    codeAny (model P w) callerA (.call (.ref fa) ⟨[.ref a], []⟩) (fun r s' => r = .ok (.ret (.bool true)) ∧ OldK s₁.heap s'.heap ∧ s'.os = s₁.os ∧ AllBare s'.gens) s₁ := by
  have rv := vals_ints hi
  have lenV := hi.length
  obtain ⟨ts, hts⟩ : ∃ ts : List Addr, ts = cs.map fun p => p.2 := ⟨_, rfl⟩
  have inT : ∀ p ∈ cs, p.2 ∈ ts := fun p hp => hts ▸ List.mem_map.mpr ⟨p, hp, rfl⟩
  have ofT : ∀ b ∈ ts, ∃ p ∈ cs, p.2 = b := fun b hm => List.mem_map.mp (hts ▸ hm)
  have tabAt : ∀ b ∈ ts, s₁.heap.get? b = some tab0 := fun b hm => by
    obtain ⟨p, hp, rfl⟩ := ofT b hm
    exact hT p hp
  have naT : a ∉ ts := fun z => by
    have q := (tabAt a z).symm.trans ha
    cases q
  have core : ∀ H : Hp, Start ts a H → SqL K H a (ns.map V.int) → HOk P w H s₁.heap → (H a ≠ none → K.lookup a = none) →
      codeAny (model P w) callerA (.call (.ref fa) ⟨[.ref a], []⟩) (fun r s' => r = .ok (.ret (.bool true)) ∧ OldK s₁.heap s'.heap ∧ s'.os = s₁.os ∧ AllBare s'.gens) s₁ := by
    intro H hS0 hS hok hK
    have free : ∀ {b : Addr} {o : Obj}, s₁.heap.get? b = some o → (∀ us n, o.data ≠ .seq us n) → o.data ≠ .fields #[] → H b = none := fun {b o} e no1 no2 => by
      by_cases hm : b ∈ ts
      · have q := (tabAt b hm).symm.trans e
        cases q
        exact absurd rfl no2
      · rcases hS0.2 b hm with z | ⟨rfl, _⟩
        · exact z
        · rw [ha] at e
          cases e
          exact absurd rfl (no1 _ _)
    have grnd : ∀ {b : Addr} {o : Obj}, s₁.heap.get? b = some o → H b = none → (hidT s₁.heap H).get? b = some o := fun e n => hidT_get e n
    have nsK : ∀ {b : Addr} {m : Str → Option Value}, s₁.heap.Ns b m → (hidT s₁.heap H).Ns b m := fun {b m} ⟨o, es, ep, e, d, r⟩ => ⟨o, es, ep, grnd e (free e (fun us n z => nomatch d.symm.trans z) fun z => nomatch d.symm.trans z), d, r⟩
    have hKb : K.In (hidT s₁.heap H) := fun b o e => grnd (KX b o e) (by
      by_cases hm : b ∈ ts
      · obtain ⟨p, hp, rfl⟩ := ofT b hm
        rw [nT p hp] at e
        cases e
      · rcases hS0.2 b hm with z | ⟨rfl, o1, xs, z⟩
        · exact z
        · rw [hK (by rw [z]; exact Option.some_ne_none _)] at e
          cases e)
    have hM : Mod K mg (hidT s₁.heap H) := ⟨hKb, nsK hns, ⟨mb, nsK hb, hbb⟩, hlim.elim fun mc z => ⟨mc, nsK z.1, z.2⟩⟩
    have TB : ∀ p ∈ cs, LamX.TabB (hidT s₁.heap H) mg p.1 p.2 := fun p hp => by
      have at_p := hT p hp
      refine ⟨?_, ?_, fun z => ?_⟩
      · obtain ⟨o, us, file, tf, flags, tg, inF, text, tt, e1, r1, r2, r3, rest⟩ := C p hp
        refine ⟨o, us, file, tf, flags, tg, inF, text, tt, grnd e1 (free e1 (fun vs n z => nomatch r2.symm.trans z) fun z => ?_), r1, r2, r3, rest⟩
        have q := r2.symm.trans z
        cases q
        exact absurd r3 (by simp)
      · obtain ⟨bm, ob, b1, b2, b3, b4, b5, b6⟩ := bmain
        refine ⟨bm, ob, b1, b2, fun q => ?_, fun q => ?_, grnd b3 (free b3 (fun vs n z => nomatch b6.symm.trans z) fun z => nomatch b6.symm.trans z), b4, b5, b6⟩
        · obtain ⟨o, es, ep, e, hd, _⟩ := hns
          rw [q, e] at b3
          cases b3
          cases hd.symm.trans b6
        · rw [q, at_p] at b3
          cases b3
          cases b6
      · obtain ⟨o, es, ep, e, hd, _⟩ := hns
        rw [z, at_p] at e
        cases e
        cases hd
    have e0 : Env0 P w K mg (hidT s₁.heap H) callerA [] s₁ H := ⟨rfl, hM, fun b o e => of_hidT e, Nat.le_of_eq (hidT_size _ _), trivial, fun b hb => absurd (show b ∈ ([] : List Addr) from hb) (by simp), hok, .of_eq hg⟩
    refine codeAny_mono ((F _ hKb (nsK hns) TB fun b m z => nsK z).run callerA [] s₁ H ⟨[.ref a], []⟩ [.ref a] [.ref a] _ _ hr rfl e0 (hbind s₁ (.ref a)) (.cons rfl .nil) (hsp H (fun p hp => hS0.1 _ (inT p hp)) hS)) fun r s' h => ?_
    cases r with
    | error e => exact (hCX H e s' h).elim
    | ok fl =>
      cases fl with
      | next => exact h.elim
      | brk => exact h.elim
      | cont => exact h.elim
      | ret u =>
        obtain ⟨v, H', os, bare, un, hok', r', q⟩ := h
        obtain rfl : v = .bl true := q
        obtain rfl : u = Value.bool true := r'
        have same : ∀ b o, b ∉ ts → s₁.heap.get? b = some o → s'.heap.get? b = some o := fun b o hm e => by
          rcases hS0.2 b hm with z | ⟨_, ob, xs, z⟩
          · exact un.keep b o e z (by intro z; exact absurd (show b ∈ ([] : List Addr) from z) (by simp)) (by simp)
          · have e1 := (hok b _ z).1
            rw [e] at e1
            cases e1
            exact (hok' b _ (un.frzs b _ _ z)).1
        have more : ∀ b ∈ ts, ∃ us : Array Value, s'.heap.get? b = some { cls := .none, data := .fields us } := fun b hm => by
          obtain ⟨us, z⟩ := un.tbls b #[] (hS0.1 b hm)
          exact ⟨_, hok' b _ z⟩
        refine ⟨rfl, ⟨fun b o e => ?_, fun b o e => ?_⟩, os, bare⟩
        · by_cases hm : b ∈ ts
          · obtain ⟨us, z⟩ := more b hm
            obtain ⟨p, hp, rfl⟩ := ofT b hm
            have q := (hT p hp).symm.trans e
            cases q
            exact .inr (.inl ⟨((C p hp).tab (hT p hp)).isCodeTable, rfl, #[], us, rfl, by rw [Array.empty_append]; exact z⟩)
          · exact .inl (same b o hm e)
        · by_cases hm : b ∈ ts
          · exact (more b hm).elim fun us z => ⟨_, z⟩
          · exact ⟨o, same b o hm e⟩
  cases hk : K.lookup a with
  | some o =>
    have e := (KX a o hk).symm.trans ha
    cases e
    have no : ∀ b, b ∉ ts → (if b ∈ ts then some (HO.tbl #[]) else none) = none := fun b hm => if_neg hm
    refine core (fun b => if b ∈ ts then some (.tbl #[]) else none) ⟨fun b hm => if_pos hm, fun b hm => .inl (no b hm)⟩ (.inr ⟨_, vs.toArray, _, hk, rfl, rfl, rfl, by rw [List.size_toArray, lenV]; exact hl, by simpa using rv⟩) (fun b u z => ?_) fun z => absurd (no a naT) z
    by_cases hm : b ∈ ts
    · have q := (if_pos hm).symm.trans z
      cases q
      exact tabAt b hm
    · cases (no b hm).symm.trans z
  | none =>
    have at_a : ∀ {u : HO}, (if a = a then some u else if a ∈ ts then some (HO.tbl #[]) else none) = some u := fun {u} => if_pos rfl
    have nb : ∀ b ∈ ts, b ≠ a := fun b hm z => naT (z ▸ hm)
    refine core (fun b => if b = a then some (.frz { cls := .type "list", data := .seq vs.toArray } (.lst (ns.map V.int))) else if b ∈ ts then some (.tbl #[]) else none)
      ⟨fun b hm => (if_neg (nb b hm)).trans (if_pos hm), fun b hm => ?_⟩ (.inl (.inr ⟨{ cls := .type "list", data := .seq vs.toArray }, at_a⟩)) (fun b u z => ?_) fun _ => hk
    · by_cases e : b = a
      · exact .inr ⟨e, _, _, if_pos e⟩
      · exact .inl ((if_neg e).trans (if_neg hm))
    · by_cases e : b = a
      · have q := (if_pos e).symm.trans z
        cases q
        rw [e]
        exact ⟨ha, by rw [List.length_map]; exact hl, vs, _, rv, ha⟩
      · have q := (if_neg e).symm.trans z
        by_cases hm : b ∈ ts
        · have q1 := (if_pos hm).symm.trans q
          cases q1
          exact tabAt b hm
        · cases (if_neg hm).symm.trans q
/-- the tables of the defs of the text are empty when the law is called -/
def Empties (q : Program) (K : PySem.W.Frag) (mg : Str → Option Value) (h : Heap) : Prop := ∀ (n : Str) (a c P : Addr) (o : Obj) (fd : FuncData), ((recsOf q).any fun e => e.name == n) = true → mg n = some (.ref a) → K.lookup a = some o → o.data = .func fd → fd.code = .ref c → PySem.W.codeHdIn K c P = true → h.get? P = some tab0
/-- what is known of the law's promise at the head's heap -/
def LawT (l : PySem.W.OpenLaw) (w : World) (K : PySem.W.Frag) (CX : CXT) (k n : Nat) (x : Str) (mg : Str → Option Value) (fa : Addr) (h : Heap) : Prop :=
  ∃ (fd : FuncData) (cs : List (Addr × Addr)) (sp : Sp), (∀ p ∈ cs, h.get? p.2 = some tab0) ∧ (∀ p ∈ cs, K.lookup p.2 = none) ∧ (∀ p ∈ cs, PySem.W.codeHdIn K p.1 p.2 = true) ∧ (∀ (s : Shared) (u : Value), BindsTo s fd ⟨[u], []⟩ [(x, u)]) ∧
    (∀ (H : Hp) (a : Addr) (ns : List Int), ns.length ≤ n → (∀ p ∈ cs, H p.2 = some (.tbl #[])) → SqL K H a (ns.map V.int) → sp [.ref a] H (fun v _ => v = .bl true) fun _ _ _ => False) ∧
    ∀ base : Heap, K.In base → base.Ns mainGlobals mg → (∀ p ∈ cs, LamX.TabB base mg p.1 p.2) → (∃ mm, base.Ns sysModules mm) → FnG l.prog w K mg base CX k fa fd [x] sp
theorem walkT {l : PySem.W.OpenLaw} {n k : Nat} {q : Program} {loose : List Str} {XP : (Str → Option Value) → Heap → Prop} {YP : World → Heap → Prop} {d : DefRec} {K : Params → PySem.W.Frag} {CX : World → CXT} {x : Str}
    (hn : l.most = some n) (hn2 : n ≤ sizeLine) (hdf : d.params.defaults = []) (hr : Room k callerA) (hY : ∀ (w : World) (h : Heap), YP w h → (K w.params).In h) (hi : importsNone q = true)
    (F : ∀ (w : World) (mg : Str → Option Value) (fa : Addr) (h : Heap), (K w.params).In h → h.Ns mainGlobals mg → mg d.name = some (.ref fa) → Empties q (K w.params) mg h → LawT l w (K w.params) (CX w) k n x mg fa h)
    (hCX : ∀ (w : World) (H : Hp) (s : Shared) (e : Value) (s' : Shared), CX w [] H s (fun _ _ _ => False) e s' → False) :
    PySem.W.WalkO q loose XP YP l.row.toRowW d [] (fun f vs => PySem.call f vs) := by
  refine Att.attach_call hn hdf fun w s₀ s₁ mg mb fa o pm cd doc a vs ns G Y ho hd hcd hmg hobj hints hlen hg => ?_
  have KX := hY w _ Y
  have em : Empties q (K w.params) mg s₁.heap := fun n1 a1 c1 P1 o1 fd1 hrec g1 g2 g3 g4 g5 => by
    obtain ⟨dL, hm, en⟩ := List.any_eq_true.mp hrec
    have en2 : dL.name = n1 := beq_iff_eq.mp en
    obtain ⟨a2, o2, fd2, c2, P2, t1, t2, t3, t4, _, ⟨oc, vc, u1, _, u3, u4⟩, hP⟩ := G.T.tab dL hm
    cases (by rw [en2, g1] at t1; exact t1 : some (Value.ref a1) = some (Value.ref a2))
    have x1 := (KX _ _ g2).symm.trans t2
    cases x1
    cases g3.symm.trans t3
    cases g4.symm.trans t4
    obtain ⟨ob, us, _, _, _, _, _, _, _, y1, _, y2, y3, _⟩ := PySem.W.codeHd_of_K KX g5
    cases y1.symm.trans u1
    cases y2.symm.trans u3
    cases y3.symm.trans u4
    exact hP
  obtain ⟨fd, cs, sp, hT, nT, C, hb, hsp, hF⟩ := F w mg fa _ KX G.T.g hmg em
  obtain ⟨mm, hmm, _⟩ := (G.T.seer hi).mods
  exact callT KX G.T.g G.T.b G.T.builtins G.T.nolimit hg hT nT (fun p hp => PySem.W.codeHd_of_K KX (C p hp)) G.T.bmain hobj hints (Nat.le_trans hlen hn2) hr (fun base a b c d => hF base a b c ⟨mm, d _ _ hmm⟩) hb (fun H hH hS => hsp H a ns hlen hH hS) fun H e s' => hCX w H s₁ e s'
end Mo

namespace Mo
open PySem PySem.Spec PyProof.Rows L2
/-! ### the pen -/
def nxtD (c : Addr) (t r : Int) : List (Key × V) := [(.inr "cells", .ref c), (.inr "next", .int t), (.inr "rest", .int r)]
theorem n_ct : ¬ ((Sum.inr "cells" : Key) = (Sum.inr "next" : Key)) := by decide +kernel
theorem n_cr : ¬ ((Sum.inr "cells" : Key) = (Sum.inr "rest" : Key)) := by decide +kernel
theorem n_tr : ¬ ((Sum.inr "next" : Key) = (Sum.inr "rest" : Key)) := by decide +kernel
theorem nxt_cells (c : Addr) (t r : Int) : valV (nxtD c t r) (Sum.inr "cells") = some (.ref c) := valV_pos rfl
theorem nxt_next (c : Addr) (t r : Int) : valV (nxtD c t r) (Sum.inr "next") = some (.int t) := by
  unfold nxtD
  rw [valV_neg n_ct, valV_pos rfl]
theorem nxt_rest (c : Addr) (t r : Int) : valV (nxtD c t r) (Sum.inr "rest") = some (.int r) := by
  unfold nxtD
  rw [valV_neg n_cr, valV_neg n_tr, valV_pos rfl]
theorem nput_next (c : Addr) (t r u : Int) : putK (nxtD c t r) (Sum.inr "next") (.int u) = nxtD c u r := by
  unfold putK nxtD
  have k1 := n_ct
  have k2 : ¬ ((Sum.inr "rest" : Key) = (Sum.inr "next" : Key)) := fun e => n_tr e.symm
  simp only [List.any_cons, List.map_cons, List.map_nil, k1, k2, if_false, if_true, decide_true, decide_false, Bool.true_or, Bool.or_true, Bool.false_or]
theorem nput_rest (c : Addr) (t r u : Int) : putK (nxtD c t r) (Sum.inr "rest") (.int u) = nxtD c t u := by
  unfold putK nxtD
  have k1 := n_cr
  have k2 := n_tr
  simp only [List.any_cons, List.map_cons, List.map_nil, k1, k2, if_false, if_true, decide_true, decide_false, Bool.true_or, Bool.or_true, Bool.false_or]
theorem nxt_merge (c : Addr) (t r : Int) : mergeK [] (nxtD c t r) = nxtD c t r := by
  have k1 := n_ct
  have k2 := n_cr
  have k3 := n_tr
  simp only [mergeK, nxtD, putK, List.foldl_cons, List.foldl_nil, List.any_nil, List.any_cons, List.nil_append, List.cons_append, k1, k2, k3, decide_false, Bool.or_false, Bool.false_eq_true, if_false]
/-- the pen at d, its cells at c, t draws done -/
def Nxt (H : Hp) (d c : Addr) (t : Nat) : Prop := ∃ (ns : List Int) (r : Int), H d = some (.dK (nxtD c t r)) ∧ H c = some (.lst (ns.map V.int)) ∧ ns.length ≤ 63 ∧ 0 ≤ r
theorem Nxt.ne {H : Hp} {d c : Addr} {t : Nat} (h : Nxt H d c t) : d ≠ c := by
  obtain ⟨ns, r, h1, h2, _⟩ := h
  exact ne_of h1 h2 (by intro z; cases z)
theorem Nxt.new {H : Hp} {d c : Addr} {t : Nat} (h : Nxt H d c t) {p : Addr} (hp : H p = none) : p ≠ d ∧ p ≠ c := by
  obtain ⟨ns, r, h1, h2, _⟩ := h
  exact ⟨(ne_of_none h1 hp).symm, (ne_of_none h2 hp).symm⟩
theorem Nxt.upd {H : Hp} {d c : Addr} {t : Nat} (h : Nxt H d c t) {p : Addr} {o : HO} (h1 : p ≠ d) (h2 : p ≠ c) : Nxt (upd H p o) d c t := by
  obtain ⟨ns, r, e1, e2, e3⟩ := h
  exact ⟨ns, r, by rw [upd_ne h1.symm]; exact e1, by rw [upd_ne h2.symm]; exact e2, e3⟩
theorem Nxt.same {H H' : Hp} {d c : Addr} {t : Nat} (h : Nxt H d c t) (s : Same H H') : Nxt H' d c t := by
  obtain ⟨ns, r, e1, e2, e3⟩ := h
  exact ⟨ns, r, s _ _ e1, s _ _ e2, e3⟩
theorem nxt_set {H : Hp} {d c : Addr} {t : Nat} (h : Nxt H d c t) {u : Nat} {r : Int} (hr : 0 ≤ r) : Nxt (L2.upd H d (.dK (nxtD c u r))) d c u := by
  have n := h.ne
  obtain ⟨ns, r0, e1, e2, e3, _⟩ := h
  exact ⟨ns, r, upd_same, by rw [upd_ne n.symm]; exact e2, e3, hr⟩
def spNDraw : Sp := fun vs H Q _ => ∃ (d c : Addr) (n : Int) (t : Nat), vs = [.ref d, .int n] ∧ Nxt H d c t ∧ 0 < n ∧ n < 1073741824 ∧ t < 1073741824 ∧
  ∀ H' k t', But d H H' → Nxt H' d c t' → t' ≤ t + 1 → 0 ≤ k → k < n → Q (.int k) H'
def spNPick (K : PySem.W.Frag) : Sp := fun vs H Q _ => ∃ (d c l : Addr) (xs : List V) (t : Nat), vs = [.ref d, .ref l] ∧ Nxt H d c t ∧ SqL K H l xs ∧ l ≠ d ∧ 0 < xs.length ∧ xs.length < 1073741824 ∧ t < 1073741824 ∧
  ∀ H' v t', But d H H' → Nxt H' d c t' → t' ≤ t + 1 → v ∈ xs → Q v H'
end Mo

namespace Mo
open PySem PySem.Spec PyProof.Rows L2
section
variable {X : Cx}
/-- x //= y of ints, a divisor that is small -/
theorem ip_fdiv : PIp X .FloorDiv (fun x y H Q => ∃ i j, x = .int i ∧ y = .int j ∧ (j ≠ 0 ∧ j.natAbs < 1073741824) ∧ Q (.int (i.fdiv j)) H) := by
  intro pins s σ H x y v u Q I r1 r2 h
  obtain ⟨i, j, e1, e2, hc, q⟩ := h
  subst e1; subst e2
  obtain ⟨t, rfl⟩ := r1
  obtain ⟨t', rfl⟩ := r2
  exact ifloordiv_int hc.1 ⟨.int _, H, I.tok _, ⟨_, rfl⟩, q⟩ (.inl (PyProof.noPylong_small hc.2))
/-- x += y of texts -/
theorem ip_addS : PIp X .Add (fun x y H Q => ∃ i j, x = .str i ∧ y = .str j ∧ i.length + j.length ≤ sizeLine ∧ Q (.str (i ++ j)) H) :=
  fun pins s σ H x y u v Q I rx ry h => iop_add_str pins s σ H x y u v Q I rx ry h
end
end Mo

/-! ### data of any kind: None, bools, ints, texts, lists, tuples, dicts (keys ints and texts), at any depth -/
namespace Mo
open PySem PySem.Spec PyProof.Rows L2
def keyD : Key → PyData
  | .inl i => .int i
  | .inr x => .str x
mutual
inductive Dx (N : Addr → Prop) (H : Hp) : V → PyData → Prop
  | non : Dx N H .non .none
  | bl (b : Bool) : Dx N H (.bl b) (.bool b)
  | int (i : Int) : Dx N H (.int i) (.int i)
  | str (x : Str) : Dx N H (.str x) (.str x)
  | lst {a : Addr} {xs : List V} {ds : List PyData} : H a = some (.lst xs) → ¬ N a → DxAll N H xs ds → Dx N H (.ref a) (.list ds)
  | tup {a : Addr} {xs : List V} {ds : List PyData} : H a = some (.tup xs) → ¬ N a → DxAll N H xs ds → Dx N H (.ref a) (.tuple ds)
  | dct {a : Addr} {kvs : List (Key × V)} {ds : List PyData} : H a = some (.dK kvs) → ¬ N a → DxAll N H (kvs.map (·.2)) ds → Dx N H (.ref a) (.dict ((kvs.map fun kv => keyD kv.1).zip ds))
inductive DxAll (N : Addr → Prop) (H : Hp) : List V → List PyData → Prop
  | nil : DxAll N H [] []
  | cons {v : V} {vs : List V} {d : PyData} {ds : List PyData} : Dx N H v d → DxAll N H vs ds → DxAll N H (v :: vs) (d :: ds)
end
theorem DxAll.length {N : Addr → Prop} {H : Hp} : ∀ {vs : List V} {ds : List PyData}, DxAll N H vs ds → vs.length = ds.length
  | _, _, .nil => rfl
  | _, _, .cons _ t => by rw [List.length_cons, List.length_cons, DxAll.length t]
mutual
theorem Dx.same {N : Addr → Prop} {H H' : Hp} (s : Same H H') : ∀ {v : V} {d : PyData}, Dx N H v d → Dx N H' v d
  | _, _, .non => .non
  | _, _, .bl b => .bl b
  | _, _, .int i => .int i
  | _, _, .str x => .str x
  | _, _, .lst h n t => .lst (s _ _ h) n (DxAll.same s t)
  | _, _, .tup h n t => .tup (s _ _ h) n (DxAll.same s t)
  | _, _, .dct h n t => .dct (s _ _ h) n (DxAll.same s t)
theorem DxAll.same {N : Addr → Prop} {H H' : Hp} (s : Same H H') : ∀ {v : List V} {d : List PyData}, DxAll N H v d → DxAll N H' v d
  | _, _, .nil => .nil
  | _, _, .cons h t => .cons (Dx.same s h) (DxAll.same s t)
end
mutual
/-- all but what N names, which the data does not hold -/
theorem Dx.but {N : Addr → Prop} {H H' : Hp} (s : ∀ b o, ¬ N b → H b = some o → H' b = some o) : ∀ {v : V} {d : PyData}, Dx N H v d → Dx N H' v d
  | _, _, .non => .non
  | _, _, .bl b => .bl b
  | _, _, .int i => .int i
  | _, _, .str x => .str x
  | _, _, .lst h n t => .lst (s _ _ n h) n (DxAll.but s t)
  | _, _, .tup h n t => .tup (s _ _ n h) n (DxAll.but s t)
  | _, _, .dct h n t => .dct (s _ _ n h) n (DxAll.but s t)
theorem DxAll.but {N : Addr → Prop} {H H' : Hp} (s : ∀ b o, ¬ N b → H b = some o → H' b = some o) : ∀ {v : List V} {d : List PyData}, DxAll N H v d → DxAll N H' v d
  | _, _, .nil => .nil
  | _, _, .cons h t => .cons (Dx.but s h) (DxAll.but s t)
end
mutual
/-- another N that names no more of what is there -/
theorem Dx.more {N N' : Addr → Prop} {H : Hp} (s : ∀ b, H b ≠ none → N' b → N b) : ∀ {v : V} {d : PyData}, Dx N H v d → Dx N' H v d
  | _, _, .non => .non
  | _, _, .bl b => .bl b
  | _, _, .int i => .int i
  | _, _, .str x => .str x
  | _, _, .lst h n t => .lst h (fun z => n (s _ (by rw [h]; exact Option.some_ne_none _) z)) (DxAll.more s t)
  | _, _, .tup h n t => .tup h (fun z => n (s _ (by rw [h]; exact Option.some_ne_none _) z)) (DxAll.more s t)
  | _, _, .dct h n t => .dct h (fun z => n (s _ (by rw [h]; exact Option.some_ne_none _) z)) (DxAll.more s t)
theorem DxAll.more {N N' : Addr → Prop} {H : Hp} (s : ∀ b, H b ≠ none → N' b → N b) : ∀ {v : List V} {d : List PyData}, DxAll N H v d → DxAll N' H v d
  | _, _, .nil => .nil
  | _, _, .cons h t => .cons (Dx.more s h) (DxAll.more s t)
end
theorem DxAll.append {N : Addr → Prop} {H : Hp} : ∀ {vs ws : List V} {ds es : List PyData}, DxAll N H vs ds → DxAll N H ws es → DxAll N H (vs ++ ws) (ds ++ es)
  | _, _, _, _, .nil, h => h
  | _, _, _, _, .cons a t, h => .cons a (DxAll.append t h)
theorem DxAll.get {N : Addr → Prop} {H : Hp} : ∀ {vs : List V} {ds : List PyData} {i : Nat} {v : V}, DxAll N H vs ds → vs[i]? = some v → ∃ d, ds[i]? = some d ∧ Dx N H v d
  | _, _, _, _, .nil, h => by simp at h
  | _, _, 0, _, .cons a t, h => by
    obtain rfl := Option.some.inj h
    exact ⟨_, rfl, a⟩
  | _, _, i + 1, _, .cons a t, h => by
    obtain ⟨d, e, q⟩ := DxAll.get (i := i) t h
    exact ⟨d, e, q⟩
theorem DxAll.mem {N : Addr → Prop} {H : Hp} {vs : List V} {ds : List PyData} {v : V} (h : DxAll N H vs ds) (hv : v ∈ vs) : ∃ d ∈ ds, Dx N H v d := by
  obtain ⟨i, hi⟩ := List.mem_iff_getElem?.mp hv
  obtain ⟨d, e, q⟩ := h.get hi
  exact ⟨d, List.mem_of_getElem? e, q⟩
section
variable {X : Cx} {N : Addr → Prop} {pins : List (Addr × Obj)} {σ : L2.St} {H : Hp} {s : Shared}
theorem key_reads {h : Heap} {k : Key} {u : Value} (e : keyIs k u = true) : Reads h u (keyD k) [] := by
  rcases keyIs_shape e with ⟨i, t, rfl, rfl⟩ | ⟨z, t, rfl, rfl⟩
  · exact .int i t
  · exact .str z t
theorem keys_read {P : Program} {w : World} {h : Heap} : ∀ {es : List DictEntry} {vs : List (Key × Value)}, Pairs (mixKind P w) es vs → ReadsAll h (es.map (·.key)) (vs.map fun kv => keyD kv.1) []
  | _, _, .nil => .nil
  | _, _, .cons e _ t => by
    have q := ReadsAll.cons (key_reads (h := h) e) (keys_read t)
    exact q
theorem vals_eq {P : Program} {w : World} : ∀ {es : List DictEntry} {vs : List (Key × Value)}, Pairs (mixKind P w) es vs → es.map (·.val) = vs.map (·.2)
  | _, _, .nil => rfl
  | _, _, .cons _ e t => by
    rw [List.map_cons, List.map_cons, e, vals_eq t]
theorem kv_keys : ∀ {kvs : List (Key × V)} {vs : List (Key × Value)}, KV kvs vs → kvs.map (fun kv => keyD kv.1) = vs.map (fun kv => keyD kv.1)
  | _, _, .nil => rfl
  | _, _, .cons h t => by
    rw [List.map_cons, List.map_cons, h.1, kv_keys t]
theorem kv_vals : ∀ {kvs : List (Key × V)} {vs : List (Key × Value)}, KV kvs vs → Vals (kvs.map (·.2)) (vs.map (·.2))
  | _, _, .nil => .nil
  | _, _, .cons h t => .cons h.2 (kv_vals t)
mutual
theorem Dx.reads (I : Inv X pins σ H s) (hs : H sysModules = none) : ∀ {x : V} {d : PyData}, Dx N H x d → ∀ {u : Value}, RelV x u → ∃ as, Reads s.heap u d as ∧ sysModules ∉ as
  | _, _, .non, u, r => by
    obtain rfl : u = Value.none := r
    exact ⟨[], .none, by simp⟩
  | _, _, .bl b, u, r => by
    obtain rfl : u = Value.bool b := r
    exact ⟨[], .bool b, by simp⟩
  | _, _, .int i, u, r => by
    obtain ⟨t, rfl⟩ : ∃ t, u = Value.int i t := r
    exact ⟨[], .int i t, by simp⟩
  | _, _, .str x, u, r => by
    obtain ⟨t, rfl⟩ : ∃ t, u = Value.str x t := r
    exact ⟨[], .str x t, by simp⟩
  | _, _, .lst (a := a) (xs := xs) ha hN t, u, r => by
    obtain rfl : u = Value.ref a := r
    obtain ⟨_, its, n, rv, e⟩ := (show ObjOk X.prog X.w H s.heap a (.lst xs) from I.hok a _ ha)
    obtain ⟨as, q, ns⟩ := DxAll.reads I hs t rv
    refine ⟨a :: as, .list e rfl rfl (by simpa using q), fun z => ?_⟩
    rcases List.mem_cons.mp z with z | z
    · rw [z, ha] at hs
      cases hs
    · exact ns z
  | _, _, .tup (a := a) (xs := xs) ha hN t, u, r => by
    obtain rfl : u = Value.ref a := r
    obtain ⟨_, its, rv, o, e, hc, n, hd⟩ := (show ObjOk X.prog X.w H s.heap a (.tup xs) from I.hok a _ ha)
    obtain ⟨as, q, ns⟩ := DxAll.reads I hs t rv
    exact ⟨as, .tuple e hc hd (by simpa using q), ns⟩
  | _, _, .dct (a := a) (kvs := kvs) (ds := ds) ha hN t, u, r => by
    obtain rfl : u = Value.ref a := r
    obtain ⟨_, _, vs, kv, o, es, ep, ho, hc, hdt, _, hp, _⟩ := (show ObjOk X.prog X.w H s.heap a (.dK kvs) from I.hok a _ ha)
    obtain ⟨as, q, ns⟩ := DxAll.reads I hs t (kv_vals kv)
    have hl := DxAll.length t
    have hl2 : (kvs.map fun kv => keyD kv.1).length = ds.length := by rw [List.length_map, ← hl, List.length_map]
    have k1 := keys_read (h := s.heap) hp
    rw [← kv_keys kv] at k1
    refine ⟨_, .dict (as := []) (bs := as) ho hc.1 hdt ?_ ?_, fun z => ?_⟩
    · rw [List.map_fst_zip (Nat.le_of_eq hl2)]
      exact k1
    · rw [List.map_snd_zip (Nat.le_of_eq hl2.symm), vals_eq hp]
      exact q
    · rcases List.mem_append.mp z with z | z
      · rw [List.mem_singleton.mp z, ha] at hs
        cases hs
      · exact ns z
theorem DxAll.reads (I : Inv X pins σ H s) (hs : H sysModules = none) : ∀ {xs : List V} {ds : List PyData}, DxAll N H xs ds → ∀ {us : List Value}, Vals xs us → ∃ as, ReadsAll s.heap us ds as ∧ sysModules ∉ as
  | _, _, .nil, _, .nil => ⟨[], .nil, by simp⟩
  | _, _, .cons h t, _, .cons r rs => by
    obtain ⟨as, q, n⟩ := Dx.reads I hs h r
    obtain ⟨bs, q2, n2⟩ := DxAll.reads I hs t rs
    exact ⟨as ++ bs, .cons q q2, fun z => (List.mem_append.mp z).elim n n2⟩
end
/-- repr(data) -/
def rReprX : List V → Hp → VK → Prop := fun xs H Q => ∃ (N : Addr → Prop) (x : V) (d : PyData), xs = [x] ∧ Dx N H x d ∧ d.showable = true ∧ d.depth ≤ 40 ∧ d.shown.length ≤ sizeLine ∧ Q (.str d.shown) H
theorem cr_reprX (hb : ∃ mm, X.base.Ns sysModules mm) (hg : X.A.guards = some []) (hu : X.A.units + 64 < cLine) : CallR X (.builtin "repr") rReprX := by
  intro pins s σ H xs us Q I r h
  obtain ⟨N, x, d, rfl, hd, hs, hdp, hz, q⟩ := h
  obtain ⟨u, rfl, ru⟩ := vals1 r
  have h1 : H sysModules = none := by
    obtain ⟨mm, o, es, ep, e, _⟩ := hb
    exact (I.bs _ _ e).2
  obtain ⟨as, rd, hsm⟩ := Dx.reads I h1 hd ru
  cases rd with
  | none => exact PySem.P.repr_of_none ⟨.str _, H, I.tok _, ⟨_, rfl⟩, q⟩
  | bool b => exact PySem.P.repr_of_bool ⟨.str _, H, I.tok _, ⟨_, rfl⟩, q⟩
  | int i t => exact PySem.P.repr_of_int (of_decide_eq_true hs) ⟨.str _, H, I.tok _, ⟨_, rfl⟩, q⟩
  | str z t => exact PySem.P.repr_of_str ⟨.str _, H, I.tok _, ⟨_, rfl⟩, q⟩ hz
  | list a1 a2 a3 a4 => exact repr_of_reads' (.list a1 a2 a3 a4) hs (fun _ => hsm) hg (by omega) (fun _ _ e => e) (fun h' u' tk hk => ⟨.str _, H, I.kept (t' := tk) hk, ⟨_, rfl⟩, q⟩) hz
  | tuple a1 a2 a3 a4 => exact repr_of_reads' (.tuple a1 a2 a3 a4) hs (fun _ => hsm) hg (by omega) (fun _ _ e => e) (fun h' u' tk hk => ⟨.str _, H, I.kept (t' := tk) hk, ⟨_, rfl⟩, q⟩) hz
  | dict a1 a2 a3 a4 a5 => exact repr_of_reads' (.dict a1 a2 a3 a4 a5) hs (fun _ => hsm) hg (by omega) (fun _ _ e => e) (fun h' u' tk hk => ⟨.str _, H, I.kept (t' := tk) hk, ⟨_, rfl⟩, q⟩) hz
end
end Mo

/-! ### rules for data of any kind -/
namespace Mo
open PySem PySem.Spec PyProof.Rows L2
section
variable {X : Cx}
/-- a list of anything == [] -/
def rEqNil (K : PySem.W.Frag) : R2 := fun x y H Q => ∃ a b xs, x = .ref a ∧ y = .ref b ∧ SqL K H a xs ∧ SqL K H b [] ∧ Q (.bl xs.isEmpty) H
theorem op_eqNil (hu : X.A.units + 64 < cLine) : OpR X (compareOp .Eq) (rEqNil X.K) := by
  intro pins s σ H x y v u Q I rx ry h
  obtain ⟨a, b, xs, rfl, rfl, ha, hb, q⟩ := h
  cases rx
  cases ry
  obtain ⟨is, r1, p1, _⟩ := I.list ha
  obtain ⟨js, r2, p2, _⟩ := I.list hb
  cases r2
  cases r1 with
  | nil => exact SeqAt.eq_listAt (e := fun _ => true) p1.isList p2.isList rfl (by omega) (fun j h1 => absurd h1 (by simp)) ⟨.bl true, H, I, rfl, q⟩
  | cons r rs => exact SeqAt.eq_list_lengthsAt p1.isList p2.isList (by simp) (by omega) ⟨.bl false, H, I, rfl, q⟩
/-- a list of anything != [] -/
def rNeNil (K : PySem.W.Frag) : R2 := fun x y H Q => ∃ a b xs, x = .ref a ∧ y = .ref b ∧ SqL K H a xs ∧ SqL K H b [] ∧ Q (.bl (!xs.isEmpty)) H
theorem op_neNil (hu : X.A.units + 64 < cLine) : OpR X (compareOp .NotEq) (rNeNil X.K) := by
  intro pins s σ H x y v u Q I rx ry h
  obtain ⟨a, b, xs, rfl, rfl, ha, hb, q⟩ := h
  cases rx
  cases ry
  obtain ⟨is, r1, p1, _⟩ := I.list ha
  obtain ⟨js, r2, p2, _⟩ := I.list hb
  cases r2
  cases r1 with
  | nil => exact SeqAt.RcNeAt.lists (e := fun _ => true) p1.isList p2.isList rfl (by omega) (fun j h1 => absurd h1 (by simp)) X.prog X.w X.xe _ ⟨.bl false, H, I, rfl, q⟩
  | cons r rs => exact SeqAt.RcNeAt.lists_lengths p1.isList p2.isList (by simp) (by omega) X.prog X.w X.xe _ ⟨.bl true, H, I, rfl, q⟩
/-- a tuple of anything != () -/
def rNeNilT (K : PySem.W.Frag) : R2 := fun x y H Q => ∃ a b xs, x = .ref a ∧ y = .ref b ∧ SqT K H a xs ∧ SqT K H b [] ∧ Q (.bl (!xs.isEmpty)) H
theorem op_neNilT (hu : X.A.units + 64 < cLine) : OpR X (compareOp .NotEq) (rNeNilT X.K) := by
  intro pins s σ H x y v u Q I rx ry h
  obtain ⟨a, b, xs, rfl, rfl, ha, hb, q⟩ := h
  cases rx
  cases ry
  obtain ⟨is, r1, p1, _⟩ := I.tuple ha
  obtain ⟨js, r2, p2, _⟩ := I.tuple hb
  cases r2
  have k1 : s.heap.IsTuple a is.toArray := p1
  have k2 : s.heap.IsTuple b (List.nil (α := Value)).toArray := p2
  refine SeqAt.RcNeAt.tuples (e := fun _ => true) k1 k2 (by omega) (fun j _ h2 => absurd h2 (by simp)) X.prog X.w X.xe _ ?_
  cases r1 with
  | nil => exact ⟨.bl false, H, I, rfl, q⟩
  | cons r rs => exact ⟨.bl true, H, I, by simp only [List.size_toArray, List.length_cons, List.length_nil, Nat.min_zero, List.range_zero, List.all_nil, Bool.true_and]; rfl, q⟩
theorem vals_signs : ∀ (cs : List Nat) (l : List Value), l.length = cs.length → (∀ (j : Nat) (v : Value), l[j]? = some v → ∃ c u, cs[j]? = some c ∧ v = .str ⟨#[c]⟩ u) → Vals (cs.map sg) l
  | [], [], _, _ => .nil
  | [], _ :: _, h, _ => by simp at h
  | _ :: _, [], h, _ => by simp at h
  | c :: cs, v :: l, h, q => by
    obtain ⟨c', u, e1, rfl⟩ := q 0 v rfl
    obtain rfl := Option.some.inj e1
    exact .cons ⟨u, rfl⟩ (vals_signs cs l (by simpa using h) fun j v e => q (j + 1) v e)
/-- tuple(a text) -/
theorem cr_tupS (hc : X.calm = true) : CallR X (.type "tuple") (fun xs H Q => ∃ cs : List Nat, xs = [.str (tx cs)] ∧ cs.length ≤ 100000 ∧ ∀ p, H p = none → Q (.ref p) (upd H p (.tup (cs.map sg)))) := by
  intro pins s σ H xs us Q I r h
  obtain ⟨cs, rfl, hz, q⟩ := h
  obtain ⟨u, rfl, t, rfl⟩ := vals1 r
  refine call_tuple_str (I.ok.hd hc) (tx cs) t (fun h' tk acc hk hacc => ?_) (by rw [tx_size]; exact fits5 hz)
  have I1 : Inv X pins σ H { s with heap := h', toks := tk } := I.kept (t' := tk) hk
  have I2 := I1.laid (t' := tk) (o := .tup (cs.map sg)) (h' := h'.push { cls := .type "tuple", data := .seq acc }) (fun b o e => Heap.get?_push_of_some _ e) (Nat.le_refl _) ⟨by rw [List.length_map]; exact fits5 hz, acc.toList, vals_signs cs acc.toList (by have := hacc.1; rw [tx_size] at this; simpa using this) (fun j v e => by
    obtain ⟨c, u, e1, e2⟩ := hacc.2 j v (by simpa using e)
    exact ⟨c, u, tx_get.symm.trans e1, e2⟩), IsTup.new _ _⟩
  exact ⟨.ref h'.objs.size, _, I2, rfl, q _ (I1.hok.fresh (Nat.le_refl _))⟩
/-- z * n, n a small number -/
def mulS (cs : List Nat) (n : Nat) : List Nat := (List.replicate n cs).flatten
theorem foldl_cat (a : List Nat) : ∀ (n : Nat) (acc : List Nat), ((List.replicate n a.toArray).foldl (fun x y => x ++ y) acc.toArray) = (acc ++ (List.replicate n a).flatten).toArray
  | 0, acc => by simp
  | n + 1, acc => by
    rw [List.replicate_succ, List.foldl_cons, List.replicate_succ, List.flatten_cons, ← List.append_assoc, ← foldl_cat a n (acc ++ a)]
    simp
theorem mulS_eq (cs : List Nat) (n : Nat) : Txt.mul (tx cs) (n : Int) = tx (mulS cs n) := by
  unfold Txt.mul mulS
  by_cases h0 : n = 0
  · subst h0
    rfl
  · rw [if_neg (by omega)]
    by_cases h1 : ((n : Int) == 1 || (tx cs).length == 0) = true
    · rw [if_pos h1]
      rcases Bool.or_eq_true_iff.mp h1 with h | h
      · have : n = 1 := by have := beq_iff_eq.mp h; omega
        subst this
        simp
      · have : cs = [] := by
          have := beq_iff_eq.mp h
          rw [tx_len] at this
          exact List.eq_nil_of_length_eq_zero this
        subst this
        simp
    · rw [if_neg h1, show (n : Int).toNat = n from rfl]
      have q := foldl_cat cs n []
      rw [List.nil_append] at q
      exact congrArg Str.mk q
theorem op_mulS : OpR X (binaryOp .Mult) (fun x y H Q => ∃ (cs : List Nat) (n : Nat), x = .str (tx cs) ∧ y = .int n ∧ cs.length ≤ 100000 ∧ n ≤ 100 ∧ Q (.str (tx (mulS cs n))) H) := by
  intro pins s σ H x y v u Q I rx ry h
  obtain ⟨cs, n, rfl, rfl, hz, hn, q⟩ := h
  obtain ⟨t, rfl⟩ := rx
  obtain ⟨t2, rfl⟩ := ry
  have hl : cs.length * n ≤ 100000 * 100 := Nat.mul_le_mul hz hn
  refine SB.mul ⟨?_, fun h1 h2 => ?_, fun h1 h2 => ?_⟩ fun t' k => ?_
  · rw [decide_eq_false (by omega), decide_eq_false (by omega)]
    rfl
  · rw [tx_len]
    have h3 : ((cs.length : Nat) : Int) * (n : Int) ≤ 2 ^ 63 - 1 := by
      rw [← Int.natCast_mul]
      omega
    have h4 : ((cs.length : Nat) : Int) ≤ (2 ^ 63 - 1) / (n : Int) := Int.le_ediv_of_mul_le (by omega) h3
    omega
  · rw [tx_len]
    show decide (cs.length * (n : Int).toNat > sizeLine) = false
    rw [sizeLine_eq]
    exact decide_eq_false (by show ¬ cs.length * n > _; omega)
  · rw [mulS_eq]
    exact ⟨.str _, H, I.tok _, ⟨_, rfl⟩, q⟩
/-- t * n -/
def rRepG (K : PySem.W.Frag) : R2 := fun x y H Q => ∃ (l : Addr) (n : Nat) (xs : List V), x = .ref l ∧ y = .int n ∧ SqT K H l xs ∧ xs ≠ [] ∧ 2 ≤ n ∧ n ≤ 100000 ∧ xs.length * n ≤ 1000000 ∧ ∀ p, H p = none → Q (.ref p) (upd H p (.tup (List.replicate n xs).flatten))
theorem op_repG : OpR X (binaryOp .Mult) (rRepG X.K) := by
  intro pins s σ H x y v u Q I rx ry h
  obtain ⟨l, n, xs, rfl, rfl, hT, hne, h1, h2, hz, q⟩ := h
  cases rx
  obtain ⟨t, rfl⟩ := ry
  obtain ⟨its, r, ⟨ob, ho, hc, m, hd⟩, hs⟩ := I.tuple hT
  obtain ⟨cls, dd, data, sl⟩ := ob
  obtain rfl : cls = .type "tuple" := hc
  obtain rfl : data = .seq its.toArray m := hd
  have hle := r.length
  have hi : its.toArray.isEmpty = false := by
    cases r with
    | nil => exact absurd rfl hne
    | cons _ _ => rfl
  have hm : xs.length * n ≤ 10 * 100000 := hz
  have hm2 : ((its.toArray.size : Nat) : Int) * (n : Int) = ((xs.length * n : Nat) : Int) := by
    rw [List.size_toArray, ← hle]
    exact (Int.natCast_mul _ _).symm
  have fl : (List.replicate n xs).flatten.length ≤ sizeLine := by
    rw [lm_len_rep_flat, Nat.mul_comm, sizeLine_eq]
    omega
  have fl2 : (List.foldl (fun x1 x2 => x1 ++ x2) #[] (List.replicate (n : Int).toNat its.toArray)).size ≤ sizeLine := by
    rw [size_rep, List.size_toArray, lm_len_rep_flat, ← hle, Nat.mul_comm, sizeLine_eq]
    show xs.length * n ≤ _
    omega
  refine wpAny_binaryOp_repeat_ref (T := "tuple") (U := "int") (by decide) ⟨_, ho, rfl⟩ (fun s' => typeIs_int s' n t) noFill_tuple_mul F.fills_int_mul F.slot_int_rmul repeat_tuple F.slot_int_index.lookup ?_
  refine call_meets F.slot_int_rmul (typeIs_int s n t) F.entry_int_rmul (F.args_int_rmul_2 _ _) (int_rmul_tuple n t l its.toArray m dd sl) ⟨ho, rfl, ⟨_, ho, rfl⟩, ?_⟩
  refine call_meets F.slot_tuple_mul ⟨_, ho, rfl⟩ F.entry_tuple_mul (F.args_tuple_mul_2 _ _) (tuple_mulW l its.toArray m dd sl n t ?_ ?_ ?_ ?_ ?_ fl2) ⟨ho, ?_⟩
  · rw [decide_eq_false (by omega), decide_eq_false (by omega)]
    rfl
  · rw [hi, Bool.false_or]
    exact beq_eq_false_iff_ne.mpr (by omega)
  · rw [hi, Bool.or_false]
    exact decide_eq_false (by omega)
  · rw [hm2]
    omega
  · unfold Builtin.Tuple.tupleTooMany
    rw [hm2, sizeLine_eq]
    exact decide_eq_false (by omega)
  · rw [size_rep]
    exact ⟨.ref s.heap.objs.size, _, I.laid (t' := s.toks) (o := .tup (List.replicate n xs).flatten) (fun b ob q => Heap.get?_push_of_some _ q) (Nat.le_refl _) ⟨fl, _, r.rep n, IsTup.new _ _⟩, rfl, q _ (I.hok.fresh (Nat.le_refl _))⟩
/-- t * n, t of few items -/
def rRepN (K : PySem.W.Frag) : R2 := fun x y H Q => ∃ (l : Addr) (n : Nat) (xs : List V), x = .ref l ∧ y = .int n ∧ SqT K H l xs ∧ xs ≠ [] ∧ 2 ≤ n ∧ n ≤ 100000 ∧ xs.length ≤ 10 ∧ ∀ p, H p = none → Q (.ref p) (upd H p (.tup (List.replicate n xs).flatten))
theorem op_repN : OpR X (binaryOp .Mult) (rRepN X.K) := by
  intro pins s σ H x y v u Q I rx ry h
  obtain ⟨l, n, xs, h1, h2, h3, h4, h5, h6, h7, q⟩ := h
  exact op_repG pins s σ H x y v u Q I rx ry ⟨l, n, xs, h1, h2, h3, h4, h5, h6, Nat.le_trans (Nat.mul_le_mul h7 h6) (by decide), q⟩
/-! what is made anew or is the old one, read alike -/
theorem catA_any {K : PySem.W.Frag} {a b : Addr} {xs ys : List V} {H : Hp} {Q : VK} (ha : H a = some (.tup xs)) (hb : H b = some (.tup ys)) (hl : xs.length + ys.length ≤ sizeLine)
    (q : ∀ p H', Same H H' → H' p = some (.tup (xs ++ ys)) → p = a ∨ p = b ∨ H p = none → Q (.ref p) H') : rCatA K (.ref a) (.ref b) H Q := by
  refine ⟨a, b, xs, ys, rfl, rfl, SqT.of ha, SqT.of hb, hl, fun e => ?_, fun _ e => ?_, fun _ _ p np => ?_⟩
  · subst e
    exact q b H (Same.refl H) hb (.inr (.inl rfl))
  · subst e
    exact q a H (Same.refl H) (by rw [List.append_nil]; exact ha) (.inl rfl)
  · exact q p _ (same_new np) upd_same (.inr (.inr np))
theorem slA_any {K : PySem.W.Frag} {a : Addr} {xs : List V} {lo hi : Option Int} {H : Hp} {Q : VK} (ha : H a = some (.tup xs)) (q : ∀ p H', Same H H' → H' p = some (.tup (cutV xs lo hi)) → p = a ∨ H p = none → Q (.ref p) H') : rSlA K (.ref a) lo hi H Q := by
  refine ⟨a, xs, rfl, SqT.of ha, fun e => ?_, fun _ p np => q p _ (same_new np) upd_same (.inr np)⟩
  have ec : cutV xs lo hi = xs := by
    unfold cutV
    rw [e.1, e.2, List.drop_zero, Nat.sub_zero, List.take_length]
  exact q a H (Same.refl H) (by rw [ec]; exact ha) (.inl rfl)
theorem cut_to (xs : List V) (n : Nat) : cutV xs none (some (n : Int)) = xs.take n := by
  unfold cutV
  rw [HT.sIx_none, HT.sIx_nat, List.drop_zero, Nat.sub_zero, List.take_eq_take_iff]
  omega
theorem cut_from (xs : List V) (n : Nat) : cutV xs (some (n : Int)) none = xs.drop n := by
  unfold cutV
  rw [HT.sIx_none, HT.sIx_nat]
  have e : xs.drop (min n xs.length) = xs.drop n := by
    by_cases h : n ≤ xs.length
    · rw [Nat.min_eq_left h]
    · rw [List.drop_of_length_le (by omega), List.drop_of_length_le (by omega)]
  rw [e]
  exact List.take_of_length_le (by rw [List.length_drop]; omega)
end
end Mo

set_option exponentiation.threshold 3000
/-! ### how great data is: its ints below 10 ^ B, its signs, its bulk, its depth -/
namespace Mo
open PySem PySem.Spec PyProof.Rows L2
mutual
def okD (B : Nat) : PyData → Prop
  | .none | .bool _ => True
  | .int i => i.natAbs < 10 ^ B
  | .str z => ∀ c ∈ z.cps.toList, c < 128
  | .list ds | .tuple ds => okAll B ds
  | .dict kvs => okKv B kvs
def okAll (B : Nat) : List PyData → Prop
  | [] => True
  | d :: ds => okD B d ∧ okAll B ds
def okKv (B : Nat) : List (PyData × PyData) → Prop
  | [] => True
  | (k, v) :: r => (okD B k ∧ okD B v) ∧ okKv B r
end
theorem okAll_iff {B : Nat} : ∀ {ds : List PyData}, okAll B ds ↔ ∀ d ∈ ds, okD B d
  | [] => by simp [okAll]
  | d :: ds => by
    rw [List.forall_mem_cons, ← okAll_iff (ds := ds)]
    simp only [okAll]
mutual
theorem okD.mono {B C : Nat} (h : B ≤ C) : ∀ {d : PyData}, okD B d → okD C d
  | .none, _ => by simp only [okD]
  | .bool _, _ => by simp only [okD]
  | .int i, q => by
    simp only [okD] at q ⊢
    exact Nat.lt_of_lt_of_le q (Nat.pow_le_pow_right (by decide) h)
  | .str z, q => by
    simp only [okD] at q ⊢
    exact q
  | .list ds, q => by
    simp only [okD] at q ⊢
    exact okAll.mono h q
  | .tuple ds, q => by
    simp only [okD] at q ⊢
    exact okAll.mono h q
  | .dict kvs, q => by
    simp only [okD] at q ⊢
    exact okKv.mono h q
theorem okAll.mono {B C : Nat} (h : B ≤ C) : ∀ {ds : List PyData}, okAll B ds → okAll C ds
  | [], _ => by simp only [okAll]
  | d :: ds, q => by
    simp only [okAll] at q ⊢
    exact ⟨okD.mono h q.1, okAll.mono h q.2⟩
theorem okKv.mono {B C : Nat} (h : B ≤ C) : ∀ {kvs : List (PyData × PyData)}, okKv B kvs → okKv C kvs
  | [], _ => by simp only [okKv]
  | (k, v) :: r, q => by
    simp only [okKv] at q ⊢
    exact ⟨⟨okD.mono h q.1.1, okD.mono h q.1.2⟩, okKv.mono h q.2⟩
end
theorem int_short {B : Nat} {i : Int} (hB : 1 ≤ B) (h : i.natAbs < 10 ^ B) : (PyData.shown (.int i)).length ≤ B + 1 := by
  rw [PyData.shown_int, PySem.ofString_length]
  exact int_text_length_le10 hB h
/-- str(i) -/
theorem int_signs (i : Int) : ∀ c ∈ (Str.ofString (toString i)).cps.toList, c < 128 := fun c hc => by
  by_cases h : c ≠ 45 ∧ (c < 48 ∨ 57 < c)
  · exact absurd hc (int_text_free' c h i)
  · omega
theorem int_text_size {B : Nat} {i : Int} (hB : 1 ≤ B) (h : i.natAbs < 10 ^ B) : (Str.ofString (toString i)).cps.size ≤ B + 1 := by
  have q := int_short hB h
  rw [PyData.shown_int] at q
  exact q
theorem log_small {B n : Nat} (hB : B ≤ 100) (h : n < 10 ^ B) : n.log2 < 1920 := by
  by_cases h0 : n = 0
  · subst h0
    decide
  · have h1 : n < 2 ^ 1920 := Nat.lt_of_lt_of_le h (Nat.le_trans (Nat.pow_le_pow_right (by decide) hB) (by decide))
    exact (Nat.log2_lt h0).mpr h1
mutual
theorem okD.short {B : Nat} (hB : 1 ≤ B) : ∀ {d : PyData}, okD B d → d.leavesShort (B + 8) = true
  | .none, _ => by simp only [PyData.leavesShort]
  | .bool _, _ => by simp only [PyData.leavesShort]
  | .int i, q => by
    simp only [okD] at q
    have := int_short hB q
    simp only [PyData.leavesShort]
    exact decide_eq_true (by omega)
  | .str z, q => by
    simp only [okD] at q
    simp only [PyData.leavesShort, List.all_eq_true]
    exact fun c hc => decide_eq_true (Nat.lt_trans (q c hc) (by decide))
  | .list ds, q => by
    simp only [okD, PyData.leavesShort] at q ⊢
    exact okAll.short hB q
  | .tuple ds, q => by
    simp only [okD, PyData.leavesShort] at q ⊢
    exact okAll.short hB q
  | .dict kvs, q => by
    simp only [okD, PyData.leavesShort] at q ⊢
    exact okKv.short hB q
theorem okAll.short {B : Nat} (hB : 1 ≤ B) : ∀ {ds : List PyData}, okAll B ds → PyData.leavesShortAll (B + 8) ds = true
  | [], _ => by simp only [PyData.leavesShortAll]
  | d :: ds, q => by
    simp only [okAll, PyData.leavesShortAll, Bool.and_eq_true] at q ⊢
    exact ⟨okD.short hB q.1, okAll.short hB q.2⟩
theorem okKv.short {B : Nat} (hB : 1 ≤ B) : ∀ {kvs : List (PyData × PyData)}, okKv B kvs → PyData.leavesShortKv (B + 8) kvs = true
  | [], _ => by simp only [PyData.leavesShortKv]
  | (k, v) :: r, q => by
    simp only [okKv, PyData.leavesShortKv, Bool.and_eq_true] at q ⊢
    exact ⟨⟨okD.short hB q.1.1, okD.short hB q.1.2⟩, okKv.short hB q.2⟩
end
mutual
theorem okD.show {B : Nat} (hB : B ≤ 100) : ∀ {d : PyData}, okD B d → d.showable = true
  | .none, _ => by simp only [PyData.showable]
  | .bool _, _ => by simp only [PyData.showable]
  | .int i, q => by
    simp only [okD, PyData.showable] at q ⊢
    exact decide_eq_true (log_small hB q)
  | .str z, q => by simp only [PyData.showable]
  | .list ds, q => by
    simp only [okD, PyData.showable] at q ⊢
    exact okAll.show hB q
  | .tuple ds, q => by
    simp only [okD, PyData.showable] at q ⊢
    exact okAll.show hB q
  | .dict kvs, q => by
    simp only [okD, PyData.showable] at q ⊢
    exact okKv.show hB q
theorem okAll.show {B : Nat} (hB : B ≤ 100) : ∀ {ds : List PyData}, okAll B ds → PyData.showableAll ds = true
  | [], _ => by simp only [PyData.showableAll]
  | d :: ds, q => by
    simp only [okAll, PyData.showableAll, Bool.and_eq_true] at q ⊢
    exact ⟨okD.show hB q.1, okAll.show hB q.2⟩
theorem okKv.show {B : Nat} (hB : B ≤ 100) : ∀ {kvs : List (PyData × PyData)}, okKv B kvs → PyData.showableKv kvs = true
  | [], _ => by simp only [PyData.showableKv]
  | (k, v) :: r, q => by
    simp only [okKv, PyData.showableKv, Bool.and_eq_true] at q ⊢
    exact ⟨⟨okD.show hB q.1.1, okD.show hB q.1.2⟩, okKv.show hB q.2⟩
end
theorem bulkAll_app : ∀ (a b : List PyData), PyData.bulkAll (a ++ b) = PyData.bulkAll a + PyData.bulkAll b
  | [], b => by simp [PyData.bulkAll]
  | x :: a, b => by
    rw [List.cons_append]
    simp only [PyData.bulkAll]
    rw [bulkAll_app a b]
    omega
theorem depthAll_le {n : Nat} : ∀ {ds : List PyData}, PyData.depthAll ds ≤ n ↔ ∀ d ∈ ds, d.depth ≤ n
  | [] => by simp [PyData.depthAll]
  | d :: ds => by
    rw [List.forall_mem_cons, ← depthAll_le (ds := ds)]
    simp only [PyData.depthAll]
    exact Nat.max_le
/-- data of these bounds -/
structure Fit (B W D : Nat) (d : PyData) : Prop where
  ok : okD B d
  bulk : d.bulk ≤ W
  deep : d.depth ≤ D
/-- lists of such data, of this bulk together -/
structure FitAll (B W D : Nat) (ds : List PyData) : Prop where
  ok : okAll B ds
  bulk : PyData.bulkAll ds ≤ W
  deep : PyData.depthAll ds ≤ D
theorem Fit.mono {B W D B' W' D' : Nat} {d : PyData} (h : Fit B W D d) (h1 : B ≤ B') (h2 : W ≤ W') (h3 : D ≤ D') : Fit B' W' D' d := ⟨h.ok.mono h1, Nat.le_trans h.bulk h2, Nat.le_trans h.deep h3⟩
theorem FitAll.app {B W D W' : Nat} {a b : List PyData} (h : FitAll B W D a) (g : FitAll B W' D b) : FitAll B (W + W') D (a ++ b) :=
  ⟨okAll_iff.mpr fun d hd => (List.mem_append.mp hd).elim (okAll_iff.mp h.ok d) (okAll_iff.mp g.ok d), by rw [bulkAll_app]; exact Nat.add_le_add h.bulk g.bulk, depthAll_le.mpr fun d hd => (List.mem_append.mp hd).elim (depthAll_le.mp h.deep d) (depthAll_le.mp g.deep d)⟩
theorem FitAll.tup {B W D : Nat} {a : List PyData} (h : FitAll B W D a) : Fit B W (D + 1) (.tuple a) := ⟨by simp only [okD]; exact h.ok, by simp only [PyData.bulk]; exact h.bulk, by simp only [PyData.depth]; exact Nat.succ_le_succ h.deep⟩
theorem FitAll.lst {B W D : Nat} {a : List PyData} (h : FitAll B W D a) : Fit B W (D + 1) (.list a) := ⟨by simp only [okD]; exact h.ok, by simp only [PyData.bulk]; exact h.bulk, by simp only [PyData.depth]; exact Nat.succ_le_succ h.deep⟩
theorem Fit.of_tup {B W D : Nat} {a : List PyData} (h : Fit B W (D + 1) (.tuple a)) : FitAll B W D a := ⟨by have := h.ok; simp only [okD] at this; exact this, by have := h.bulk; simp only [PyData.bulk] at this; exact this, by have := h.deep; simp only [PyData.depth] at this; omega⟩
theorem Fit.one {B W D : Nat} {d : PyData} (h : Fit B W D d) : FitAll B (W + 1) D [d] := ⟨by simp only [okAll]; exact ⟨h.ok, trivial⟩, by simp only [PyData.bulkAll]; have := h.bulk; omega, by simp only [PyData.depthAll]; have := h.deep; omega⟩
theorem FitAll.sub {B W D : Nat} {a b : List PyData} (h : FitAll B W D b) (hs : a.Sublist b) : FitAll B (PyData.bulkAll a) D a := ⟨okAll_iff.mpr fun d hd => okAll_iff.mp h.ok d (hs.subset hd), Nat.le_refl _, depthAll_le.mpr fun d hd => depthAll_le.mp h.deep d (hs.subset hd)⟩
theorem FitAll.mono {B W D B' W' D' : Nat} {d : List PyData} (h : FitAll B W D d) (h1 : B ≤ B') (h2 : W ≤ W') (h3 : D ≤ D') : FitAll B' W' D' d := ⟨h.ok.mono h1, Nat.le_trans h.bulk h2, Nat.le_trans h.deep h3⟩
theorem FitAll.len {B W D : Nat} {a : List PyData} (h : FitAll B W D a) : a.length ≤ W := by
  have key : ∀ a : List PyData, a.length ≤ PyData.bulkAll a := by
    intro a
    induction a with
    | nil => exact Nat.zero_le _
    | cons x a ih =>
      simp only [PyData.bulkAll, List.length_cons]
      omega
  exact Nat.le_trans (key a) h.bulk
/-- what repr asks -/
theorem Fit.repr {B W D : Nat} {d : PyData} (h : Fit B W D d) (h1 : 1 ≤ B) (h2 : B ≤ 40) (h3 : W ≤ 300000) (h4 : D ≤ 40) : d.showable = true ∧ d.depth ≤ 40 ∧ d.shown.length ≤ sizeLine := by
  refine ⟨h.ok.show (by omega), Nat.le_trans h.deep h4, ?_⟩
  have q := PyData.shown_le_bulk (B + 8) (by omega) d (h.ok.short h1)
  have hb := h.bulk
  have m : (B + 8 + 2) * d.bulk ≤ 50 * 300000 := Nat.mul_le_mul (by omega) (by omega)
  rw [sizeLine_eq]
  omega
/-! ### kinds -/
def tyD : PyData → String
  | .none => "NoneType"
  | .bool _ => "bool"
  | .int _ => "int"
  | .str _ => "str"
  | .list _ => "list"
  | .tuple _ => "tuple"
  | .dict _ => "dict"
theorem Dx.ty {N : Addr → Prop} {K : PySem.W.Frag} {H : Hp} {x : V} {d : PyData} (h : Dx N H x d) : TyX K H x (.type (tyD d)) := by
  cases h with
  | non => exact .base .non
  | bl b => exact .base (.bl b)
  | int i => exact .base (.int i)
  | str z => exact .base (.str z)
  | lst h _ _ => exact .base (.lst h)
  | tup h _ _ => exact .base (.tup h)
  | dct h _ _ => exact .base (.dK h)
def letterD : PyData → Bool
  | .int i => decide (0 ≤ i) && decide (i ≤ 999999)
  | _ => false
def textD : PyData → Bool
  | .tuple ds => decide (ds.length ≤ 4096) && ds.all letterD
  | _ => false
end Mo

/-! ### data written out: new, and holding nothing that was there -/
namespace Mo
open PySem PySem.Spec PyProof.Rows L2
def Was (H0 : Hp) : Addr → Prop := fun a => H0 a ≠ none
theorem Was.mono {H H' : Hp} (s : Same H H') {b : Addr} (h : Was H b) : Was H' b := by
  cases e : H b with
  | none => exact absurd e h
  | some o =>
    unfold Was
    rw [s _ _ e]
    exact Option.some_ne_none _
def LitE (te : TE) (d : PyData) : Prop := ∀ σ H Q, (∀ H' v, Same H H' → Dx (Was H) H' v d → Q v H') → te σ H Q
def LitA (ta : TA) (ds : List PyData) : Prop := ∀ σ H Q, (∀ H' vs, Same H H' → DxAll (Was H) H' vs ds → Q vs H') → ta σ H Q
theorem LitE.use {te : TE} {d : PyData} (h : LitE te d) {σ : L2.St} {H : Hp} {Q : VK} (q : ∀ H' v, Same H H' → Dx (Was H) H' v d → Q v H') : te σ H Q := h σ H Q q
theorem lit_non : LitE (tC .non) .none := fun _ _ _ q => q _ _ (Same.refl _) .non
theorem lit_bl {b : Bool} : LitE (tC (.bl b)) (.bool b) := fun _ _ _ q => q _ _ (Same.refl _) (.bl b)
theorem lit_int {i : Int} : LitE (tC (.int i)) (.int i) := fun _ _ _ q => q _ _ (Same.refl _) (.int i)
theorem lit_str {x : Str} : LitE (tC (.str x)) (.str x) := fun _ _ _ q => q _ _ (Same.refl _) (.str x)
theorem lit_neg {i : Int} : LitE (tUn (rU fun i => .int (-i)) (tC (.int i))) (.int (-i)) := fun _ _ _ q => ⟨i, rfl, q _ _ (Same.refl _) (.int _)⟩
theorem lit_pow {i j : Int} (h : CPow i j) : LitE (tOp (rI CPow fun i j => .int (i ^ j.toNat)) (tC (.int i)) (tC (.int j))) (.int (i ^ j.toNat)) := fun _ _ _ q => ⟨i, j, rfl, rfl, h, q _ _ (Same.refl _) (.int _)⟩
theorem lit_nil : LitA tNil [] := fun _ _ _ q => q _ _ (Same.refl _) .nil
theorem lit_cons {te : TE} {ta : TA} {d : PyData} {ds : List PyData} (h : LitE te d) (g : LitA ta ds) : LitA (tCons te ta) (d :: ds) := fun σ H Q q =>
  h σ H _ fun H1 v s1 hv => g σ H1 _ fun H2 vs s2 hvs => q H2 (v :: vs) (s1.trans s2) (.cons (hv.same s2) (hvs.more fun b _ z => Was.mono s1 z))
theorem lit_tup {t : TA} {ds : List PyData} (h : LitA t ds) (hl : ds.length ≤ 1000 := by decide) : LitE (tTup t) (.tuple ds) := fun σ H Q q =>
  h σ H _ fun H1 vs s1 hx => ⟨Nat.le_of_lt (small1000 (by rw [hx.length]; exact hl)), fun p np => q _ _ (s1.trans (same_new np)) (.tup upd_same (fun z => z (s1.free np)) (hx.same (same_new np)))⟩
theorem lit_lst {t : TA} {ds : List PyData} (h : LitA t ds) (hl : ds.length ≤ 1000 := by decide) : LitE (tLst t) (.list ds) := fun σ H Q q =>
  h σ H _ fun H1 vs s1 hx => ⟨Nat.le_of_lt (small1000 (by rw [hx.length]; exact hl)), fun p np => q _ _ (s1.trans (same_new np)) (.lst upd_same (fun z => z (s1.free np)) (hx.same (same_new np)))⟩
theorem lit_dnew : LitE tDNewK (.dict []) := fun σ H Q q p np => q _ _ (same_new np) (.dct (kvs := []) (ds := []) upd_same (fun z => z np) .nil)
theorem lit_disp1 {k : Key} {tv : TE} {d : PyData} (h : LitE tv d) : LitE (tDisp [(tC (kV k), tv)]) (.dict [(keyD k, d)]) := fun σ H Q q p np =>
  h σ _ _ fun H1 v s1 hv => ⟨s1 _ _ upd_same, [(k, v)], rfl, by show 1 ≤ 15; decide, by
    have n1 : H p = none := np
    have e : mergeK [] [(k, v)] = [(k, v)] := rfl
    rw [e]
    refine q _ _ (Same.put ((same_new np).trans s1) np) (.dct (kvs := [(k, v)]) (ds := [d]) upd_same (fun z => z np) (.cons ?_ .nil))
    refine (hv.more (N' := fun b => Was H b ∨ b = p) fun b _ z => z.elim (fun z => Was.mono (same_new np) z) (fun z => ?_)).but ?_ |>.more fun b _ z => .inl z
    · subst z
      unfold Was
      rw [upd_same]
      exact Option.some_ne_none _
    · intro b o nb e
      rw [upd_ne fun z => nb (.inr z)]
      exact e⟩
theorem lit_dispS {x : Str} {tv : TE} {d : PyData} (h : LitE tv d) : LitE (tDisp [(tC (.str x), tv)]) (.dict [(.str x, d)]) := lit_disp1 (k := .inr x) h
theorem lit_dispI {i : Int} {tv : TE} {d : PyData} (h : LitE tv d) : LitE (tDisp [(tC (.int i), tv)]) (.dict [(.int i, d)]) := lit_disp1 (k := .inl i) h
/-! what stands behind -/
theorem lst_dx {N : Addr → Prop} {H : Hp} {x : V} {ds : List PyData} (h : Dx N H x (.list ds)) : ∃ a xs, x = .ref a ∧ H a = some (.lst xs) ∧ ¬ N a ∧ DxAll N H xs ds := by
  generalize e : PyData.list ds = d at h
  cases h with
  | lst h n t => obtain rfl := PyData.list.inj e; exact ⟨_, _, rfl, h, n, t⟩
  | _ => cases e
theorem tpl_dx {N : Addr → Prop} {H : Hp} {x : V} {ds : List PyData} (h : Dx N H x (.tuple ds)) : ∃ a xs, x = .ref a ∧ H a = some (.tup xs) ∧ ¬ N a ∧ DxAll N H xs ds := by
  generalize e : PyData.tuple ds = d at h
  cases h with
  | tup h n t => obtain rfl := PyData.tuple.inj e; exact ⟨_, _, rfl, h, n, t⟩
  | _ => cases e
theorem keyD_inj : ∀ {a b : Key}, keyD a = keyD b → a = b
  | .inl _, .inl _, h => congrArg Sum.inl (PyData.int.inj h)
  | .inr _, .inr _, h => congrArg Sum.inr (PyData.str.inj h)
  | .inl _, .inr _, h => by cases h
  | .inr _, .inl _, h => by cases h
theorem dct1_dx {N : Addr → Prop} {H : Hp} {x : V} {k : Key} {e : PyData} (h : Dx N H x (.dict [(keyD k, e)])) : ∃ a u, x = .ref a ∧ H a = some (.dK [(k, u)]) ∧ ¬ N a ∧ Dx N H u e := by
  generalize q : PyData.dict [(keyD k, e)] = d at h
  cases h with
  | @dct a kvs ds h n t =>
    have q1 := PyData.dict.inj q
    cases kvs with
    | nil => cases t; cases q1
    | cons kv r =>
      cases t with
      | @cons _ _ d ds h1 t =>
        rw [List.map_cons, List.zip_cons_cons] at q1
        have q2 := List.cons.inj q1
        have q3 := Prod.mk.inj q2.1
        cases r with
        | nil =>
          cases t
          obtain ⟨k', u⟩ := kv
          have : k = k' := keyD_inj q3.1
          subst this
          refine ⟨a, u, rfl, h, n, ?_⟩
          rw [q3.2]
          exact h1
        | cons kv2 r =>
          cases t with
          | cons h2 t => cases q2.2
  | _ => cases q
end Mo

/-! ### kinds of data, counts among data of any kind, tables of code objects kept -/
namespace Mo
open PySem PySem.Spec PyProof.Rows L2
def isIntD : PyData → Bool
  | .int _ | .bool _ => true
  | _ => false
def isBoolD : PyData → Bool
  | .bool _ => true
  | _ => false
def isStrD : PyData → Bool
  | .str _ => true
  | _ => false
def isTupD : PyData → Bool
  | .tuple _ => true
  | _ => false
theorem kit_int : ∀ d : PyData, kitB (tyD d) "int" = some (isIntD d)
  | .none => by show kitB "NoneType" "int" = some false; decide +kernel
  | .bool _ => by show kitB "bool" "int" = some true; decide +kernel
  | .int _ => by show kitB "int" "int" = some true; decide +kernel
  | .str _ => by show kitB "str" "int" = some false; decide +kernel
  | .list _ => by show kitB "list" "int" = some false; decide +kernel
  | .tuple _ => by show kitB "tuple" "int" = some false; decide +kernel
  | .dict _ => by show kitB "dict" "int" = some false; decide +kernel
theorem kit_bool : ∀ d : PyData, kitB (tyD d) "bool" = some (isBoolD d)
  | .none => by show kitB "NoneType" "bool" = some false; decide +kernel
  | .bool _ => by show kitB "bool" "bool" = some true; decide +kernel
  | .int _ => by show kitB "int" "bool" = some false; decide +kernel
  | .str _ => by show kitB "str" "bool" = some false; decide +kernel
  | .list _ => by show kitB "list" "bool" = some false; decide +kernel
  | .tuple _ => by show kitB "tuple" "bool" = some false; decide +kernel
  | .dict _ => by show kitB "dict" "bool" = some false; decide +kernel
theorem kit_str : ∀ d : PyData, kitB (tyD d) "str" = some (isStrD d)
  | .none => by show kitB "NoneType" "str" = some false; decide +kernel
  | .bool _ => by show kitB "bool" "str" = some false; decide +kernel
  | .int _ => by show kitB "int" "str" = some false; decide +kernel
  | .str _ => by show kitB "str" "str" = some true; decide +kernel
  | .list _ => by show kitB "list" "str" = some false; decide +kernel
  | .tuple _ => by show kitB "tuple" "str" = some false; decide +kernel
  | .dict _ => by show kitB "dict" "str" = some false; decide +kernel
theorem kit_tup : ∀ d : PyData, kitB (tyD d) "tuple" = some (isTupD d)
  | .none => by show kitB "NoneType" "tuple" = some false; decide +kernel
  | .bool _ => by show kitB "bool" "tuple" = some false; decide +kernel
  | .int _ => by show kitB "int" "tuple" = some false; decide +kernel
  | .str _ => by show kitB "str" "tuple" = some false; decide +kernel
  | .list _ => by show kitB "list" "tuple" = some false; decide +kernel
  | .tuple _ => by show kitB "tuple" "tuple" = some true; decide +kernel
  | .dict _ => by show kitB "dict" "tuple" = some false; decide +kernel
def plainD (d : PyData) : Bool := isIntD d && !isBoolD d
/-- a question about data -/
def spAsk (f : PyData → Bool) : Sp := fun vs H Q _ => ∃ (N : Addr → Prop) (x : V) (d : PyData), vs = [x] ∧ Dx N H x d ∧ d.bulk ≤ 1000000 ∧ ∀ H', Same H H' → Q (.bl (f d)) H'
theorem plain_int : ∀ {N : Addr → Prop} {H : Hp} {x : V} {d : PyData}, Dx N H x d → plainD d = true → ∃ i : Int, x = .int i ∧ d = .int i := by
  intro N H x d h e
  cases h with
  | int i => exact ⟨i, rfl, rfl⟩
  | _ => exact absurd (show false = true from e) (by decide)
def isListD : PyData → Bool
  | .list _ => true
  | _ => false
def isDictD : PyData → Bool
  | .dict _ => true
  | _ => false
theorem kit_list : ∀ d : PyData, kitB (tyD d) "list" = some (isListD d)
  | .none => by show kitB "NoneType" "list" = some false; decide +kernel
  | .bool _ => by show kitB "bool" "list" = some false; decide +kernel
  | .int _ => by show kitB "int" "list" = some false; decide +kernel
  | .str _ => by show kitB "str" "list" = some false; decide +kernel
  | .list _ => by show kitB "list" "list" = some true; decide +kernel
  | .tuple _ => by show kitB "tuple" "list" = some false; decide +kernel
  | .dict _ => by show kitB "dict" "list" = some false; decide +kernel
/-- an integer from a to b -/
def cntB (a b : Int) : PyData → Bool
  | .int i => decide (a ≤ i) && decide (i ≤ b)
  | _ => false
/-- check_count: nothing, or InvalidCount with the very value -/
def spCnt (C : Addr) : Sp := fun vs H Q E => ∃ (N : Addr → Prop) (x : V) (d : PyData) (a b : Int), vs = [x, .int a, .int b] ∧ Dx N H x d ∧ d.bulk ≤ 1000000 ∧ (cntB a b d = true → ∀ H', Same H H' → Q .non H') ∧
  (cntB a b d = false → ∀ dd H', H dd = none → Same H H' → H' dd = some (.xd [("value", x)]) → E (.ref C) (some dd) H')
theorem cnt_no {a b : Int} {d : PyData} (h : plainD d = false) : cntB a b d = false := by
  cases d <;> first | rfl | exact absurd (show true = false from h) (by decide)
/-! more written data -/
theorem lit_negE {te : TE} {i : Int} (h : LitE te (.int i)) : LitE (tUn (rU fun i => .int (-i)) te) (.int (-i)) := fun σ H Q q => h σ H _ fun H' v s hv => by
  cases hv
  exact ⟨i, rfl, q _ _ s (.int _)⟩
/-! nothing is changed but tables -/
mutual
theorem Dx.tabs {N : Addr → Prop} {H H' : Hp} (s : LamX.ExtN H H') : ∀ {v : V} {d : PyData}, Dx N H v d → Dx N H' v d
  | _, _, .non => .non
  | _, _, .bl b => .bl b
  | _, _, .int i => .int i
  | _, _, .str x => .str x
  | _, _, .lst h n a => .lst (s _ _ h (fun _ z => nomatch z)) n (DxAll.tabs s a)
  | _, _, .tup h n a => .tup (s _ _ h (fun _ z => nomatch z)) n (DxAll.tabs s a)
  | _, _, .dct h n a => .dct (s _ _ h (fun _ z => nomatch z)) n (DxAll.tabs s a)
theorem DxAll.tabs {N : Addr → Prop} {H H' : Hp} (s : LamX.ExtN H H') : ∀ {v : List V} {d : List PyData}, DxAll N H v d → DxAll N H' v d
  | _, _, .nil => .nil
  | _, _, .cons a b => .cons (Dx.tabs s a) (DxAll.tabs s b)
end
theorem Tabs.same {T : List (Addr × Str)} {H H' : Hp} (t : LamX.Tabs T H) (s : Same H H') : LamX.Tabs T H' := t.ext s
theorem Tabs.but {T : List (Addr × Str)} {H H' : Hp} {d : Addr} {kvs : List (Key × V)} (t : LamX.Tabs T H) (hd : H d = some (.dK kvs)) (s : But d H H') : LamX.Tabs T H' := fun p hp => by
  obtain ⟨ps, h1, h2, h3⟩ := t p hp
  refine ⟨ps, s _ _ (fun z => ?_) h1, h2, fun pos cv hc => ?_⟩
  · rw [z, hd] at h1
    cases h1
  · obtain ⟨c, e1, e2⟩ := h3 pos cv hc
    refine ⟨c, e1, s _ _ (fun z => ?_) e2⟩
    rw [z, hd] at e2
    cases e2
theorem tabs_nil {H : Hp} {P : Addr} {q : Str} (h : H P = some (.tbl #[])) : LamX.Tabs [(P, q)] H := fun p hp => by
  rw [List.mem_singleton.mp hp]
  exact LamX.TabS.nil h
end Mo
namespace Mo
open PySem PySem.Spec PyProof.Rows L2
/-- while, by a word and a measure; the test's own reading told as it stands -/
theorem while_raw {c : TT} {tb : TS} {D : Ends} {σ : L2.St} {H : Hp} (Pv : L2.St → Hp → Prop) (μ : L2.St → Hp → Nat) (h0 : Pv σ H)
    (hs : ∀ σ H, Pv σ H → c σ H fun b H1 => if b = true then ∃ N : L2.St → Hp → Prop, (∀ σ' H', N σ' H' → ∃ m', m' < μ σ H ∧ m' = μ σ' H' ∧ Pv σ' H') ∧ tb { D with nx := N, ct := N, bk := D.nx } σ H1 else D.nx σ H1) : tWhile c tb D σ H :=
  ⟨fun m σ H => m = μ σ H ∧ Pv σ H, ⟨_, rfl, h0⟩, fun m σ H p => by
    obtain ⟨rfl, p⟩ := p
    exact hs σ H p⟩
/-- an odd value: small, and no integer from 0 on -/
structure OddD (e : PyData) : Prop where
  fit : Fit 30 100 3 e
  no : ∀ a b : Int, 0 ≤ a → cntB a b e = false
theorem fitI {B W D : Nat} {i : Int} (h : i.natAbs < 10 ^ B) (hW : 1 ≤ W) : Fit B W D (.int i) := ⟨by simp only [okD]; exact h, by simp only [PyData.bulk]; exact Nat.zero_le _, by simp only [PyData.depth]; exact Nat.zero_le _⟩
theorem odd_neg {i : Int} (h : i.natAbs < 10 ^ 30) (hn : i < 0) : OddD (.int i) := ⟨fitI h (by decide), fun a b ha => by
  show (decide (a ≤ i) && decide (i ≤ b)) = false
  rw [decide_eq_false (show ¬ a ≤ i by omega)]
  rfl⟩
theorem odd_bl (b : Bool) : OddD (.bool b) := ⟨⟨by simp [okD], by simp [PyData.bulk], by simp [PyData.depth]⟩, fun _ _ _ => rfl⟩
theorem odd_non : OddD .none := ⟨⟨by simp [okD], by simp [PyData.bulk], by simp [PyData.depth]⟩, fun _ _ _ => rfl⟩
theorem odd_str {x : Str} (h : ∀ c ∈ x.cps.toList, c < 128) (hl : x.cps.size ≤ 50) : OddD (.str x) := ⟨⟨by simp only [okD]; exact h, by simp only [PyData.bulk]; omega, by simp [PyData.depth]⟩, fun _ _ _ => rfl⟩
theorem odd_tup1 {i : Int} (h : i.natAbs < 10 ^ 30) : OddD (.tuple [.int i]) := ⟨(FitAll.tup (fitI (W := 1) (D := 0) h (by decide)).one).mono (by decide) (by decide) (by decide), fun _ _ _ => rfl⟩
theorem odd_lst1 {i : Int} (h : i.natAbs < 10 ^ 30) : OddD (.list [.int i]) := ⟨(FitAll.lst (fitI (W := 1) (D := 0) h (by decide)).one).mono (by decide) (by decide) (by decide), fun _ _ _ => rfl⟩
theorem odd_dct : OddD (.dict []) := ⟨⟨by simp [okD, okKv], by simp [PyData.bulk, PyData.bulkKv], by simp [PyData.depth, PyData.depthKv]⟩, fun _ _ _ => rfl⟩
/-- what was new when the old heap was H0, d being old: nothing of it is at d -/
theorem Dx.keep {H0 H H' : Hp} {d : Addr} {v : V} {e : PyData} (h : Dx (Was H0) H v e) (hd : H0 d ≠ none) (b : But d H H') : Dx (fun x => x = d) H' v e :=
  (h.but fun x o nx hx => b x o (fun z => nx (by rw [z]; exact hd)) hx).more fun x _ z => by rw [z]; exact hd
theorem Dx.pen {H H' : Hp} {d : Addr} {v : V} {e : PyData} (h : Dx (fun x => x = d) H v e) (b : But d H H') : Dx (fun x => x = d) H' v e := h.but fun x o nx hx => b x o nx hx
end Mo

/-! ### lists and tuples of flat values compared -/
namespace Mo
open PySem PySem.Spec PyProof.Rows L2
def eqLs : List V → List V → Bool
  | [], [] => true
  | x :: xs, y :: ys => eqV x y && eqLs xs ys
  | _, _ => false
theorem eqLs_range : ∀ (xs ys : List V), xs.length = ys.length → (List.range xs.length).all (fun j => eqV (xs.getD j .non) (ys.getD j .non)) = eqLs xs ys
  | [], [], _ => rfl
  | x :: xs, y :: ys, h => by
    rw [List.length_cons, List.range_succ_eq_map, List.all_cons, List.all_map]
    show (eqV x y && (List.range xs.length).all (fun j => eqV (xs.getD j .non) (ys.getD j .non))) = _
    rw [eqLs_range xs ys (by simpa using h)]
    rfl
  | [], _ :: _, h => by simp at h
  | _ :: _, [], h => by simp at h
theorem eqLs_len : ∀ {xs ys : List V}, eqLs xs ys = true → xs.length = ys.length
  | [], [], _ => rfl
  | x :: xs, y :: ys, h => by
    rw [List.length_cons, List.length_cons, eqLs_len (Bool.and_eq_true_iff.mp h).2]
  | [], _ :: _, h => by cases h
  | _ :: _, [], h => by cases h
theorem eqV_self : ∀ {x : V}, flatV x = true → eqV x x = true := by
  intro x h
  cases x <;> first | (exact absurd (show false = true from h) Bool.false_ne_true) | rfl | (simp [eqV])
theorem eqLs_self : ∀ {xs : List V}, xs.all flatV = true → eqLs xs xs = true
  | [], _ => rfl
  | x :: xs, h => by
    rw [List.all_cons, Bool.and_eq_true] at h
    show (eqV x x && eqLs xs xs) = true
    rw [eqV_self h.1, eqLs_self h.2]
    rfl
theorem flat_ints (ns : List Int) : (ns.map V.int).all flatV = true := by
  rw [List.all_map, List.all_eq_true]
  exact fun _ _ => rfl
theorem flat_strs' (zs : List Str) : (zs.map V.str).all flatV = true := by
  rw [List.all_map, List.all_eq_true]
  exact fun _ _ => rfl
theorem eqLs_ints : ∀ (a b : List Int), eqLs (a.map V.int) (b.map V.int) = decide (a = b)
  | [], [] => by simp [eqLs]
  | x :: a, y :: b => by
    show (x == y && eqLs (a.map V.int) (b.map V.int)) = _
    rw [eqLs_ints a b, Bool.eq_iff_iff]
    simp
  | [], _ :: _ => by simp [eqLs]
  | _ :: _, [] => by simp [eqLs]
theorem eqLs_strs : ∀ (a b : List Str), eqLs (a.map V.str) (b.map V.str) = decide (a = b)
  | [], [] => by simp [eqLs]
  | x :: a, y :: b => by
    show (x == y && eqLs (a.map V.str) (b.map V.str)) = _
    rw [eqLs_strs a b, Bool.eq_iff_iff]
    simp
  | [], _ :: _ => by simp [eqLs]
  | _ :: _, [] => by simp [eqLs]
section
variable {X : Cx}
theorem eqAts {A : Around} {s : Shared} {xs ys : List V} {us ws : List Value} (r1 : Vals xs us) (r2 : Vals ys ws) (f1 : xs.all flatV = true) (f2 : ys.all flatV = true) :
    ∀ j (h1 : j < us.toArray.size) (h2 : j < ws.toArray.size), SeqAt.EqAt A s us.toArray[j] ws.toArray[j] (eqV (xs.getD j .non) (ys.getD j .non)) := by
  intro j h1 h2
  have l1 := r1.length
  have l2 := r2.length
  rw [List.size_toArray] at h1 h2
  have e1 : xs[j]? = some (xs.getD j .non) := by
    rw [List.getD_eq_getElem?_getD, List.getElem?_eq_getElem (by omega)]
    rfl
  have e2 : ys[j]? = some (ys.getD j .non) := by
    rw [List.getD_eq_getElem?_getD, List.getElem?_eq_getElem (by omega)]
    rfl
  obtain ⟨u, hu, ru⟩ := r1.get e1
  obtain ⟨v, hv, rv⟩ := r2.get e2
  have q1 : us.toArray[j] = u := by
    rw [List.getElem?_eq_getElem h1] at hu
    exact Option.some.inj hu
  have q2 : ws.toArray[j] = v := by
    rw [List.getElem?_eq_getElem h2] at hv
    exact Option.some.inj hv
  rw [q1, q2]
  exact eqAt_V ru rv (List.all_eq_true.mp f1 _ (List.mem_of_getElem? e1)) (List.all_eq_true.mp f2 _ (List.mem_of_getElem? e2))
def FlatAt (K : PySem.W.Frag) (H : Hp) (x y : V) (xs ys : List V) : Prop := ∃ a b, x = .ref a ∧ y = .ref b ∧ xs.all flatV = true ∧ ys.all flatV = true ∧ ((SqL K H a xs ∧ SqL K H b ys) ∨ (SqT K H a xs ∧ SqT K H b ys))
def rEqFl (K : PySem.W.Frag) : R2 := fun x y H Q => ∃ xs ys, FlatAt K H x y xs ys ∧ Q (.bl (eqLs xs ys)) H
def rNeFl (K : PySem.W.Frag) : R2 := fun x y H Q => ∃ xs ys, FlatAt K H x y xs ys ∧ Q (.bl (!eqLs xs ys)) H
theorem tups_eq {xs ys : List V} : ((List.range (min xs.length ys.length)).all (fun j => eqV (xs.getD j .non) (ys.getD j .non)) && xs.length == ys.length) = eqLs xs ys := by
  by_cases h : xs.length = ys.length
  · rw [← h, Nat.min_self, eqLs_range xs ys h]
    simp
  · have : eqLs xs ys = false := by
      cases e : eqLs xs ys with
      | false => rfl
      | true => exact absurd (eqLs_len e) h
    rw [this, beq_eq_false_iff_ne.mpr h, Bool.and_false]
theorem op_eqFl (hu : X.A.units + 64 < cLine) : OpR X (compareOp .Eq) (rEqFl X.K) := by
  intro pins s σ H x y v u Q I rx ry h
  obtain ⟨xs, ys, ⟨a, b, rfl, rfl, f1, f2, h⟩, q⟩ := h
  cases rx
  cases ry
  rcases h with ⟨ha, hb⟩ | ⟨ha, hb⟩
  · obtain ⟨is, r1, p1, _⟩ := I.list ha
    obtain ⟨js, r2, p2, _⟩ := I.list hb
    have l1 := r1.length
    have l2 := r2.length
    by_cases hl : xs.length = ys.length
    · refine SeqAt.eq_listAt (e := fun j => eqV (xs.getD j .non) (ys.getD j .non)) p1.isList p2.isList (by simp only [List.size_toArray]; omega) (by omega) (eqAts r1 r2 f1 f2) ?_
      rw [List.size_toArray, ← l1, eqLs_range xs ys hl]
      exact ⟨.bl _, H, I, rfl, q⟩
    · have e : eqLs xs ys = false := by
        cases e : eqLs xs ys with
        | false => rfl
        | true => exact absurd (eqLs_len e) hl
      rw [e] at q
      exact SeqAt.eq_list_lengthsAt p1.isList p2.isList (by simp only [List.size_toArray]; rw [bne_iff_ne]; omega) (by omega) ⟨.bl _, H, I, rfl, q⟩
  · obtain ⟨is, r1, p1, _⟩ := I.tuple ha
    obtain ⟨js, r2, p2, _⟩ := I.tuple hb
    have l1 := r1.length
    have l2 := r2.length
    have k1 : s.heap.IsTuple a is.toArray := p1
    have k2 : s.heap.IsTuple b js.toArray := p2
    refine SeqAt.eq_tupleAt (e := fun j => eqV (xs.getD j .non) (ys.getD j .non)) k1 k2 (by omega) (eqAts r1 r2 f1 f2) ?_
    rw [List.size_toArray, List.size_toArray, ← l1, ← l2, tups_eq]
    exact ⟨.bl _, H, I, rfl, q⟩
theorem op_neFl (hu : X.A.units + 64 < cLine) : OpR X (compareOp .NotEq) (rNeFl X.K) := by
  intro pins s σ H x y v u Q I rx ry h
  obtain ⟨xs, ys, ⟨a, b, rfl, rfl, f1, f2, h⟩, q⟩ := h
  cases rx
  cases ry
  rcases h with ⟨ha, hb⟩ | ⟨ha, hb⟩
  · obtain ⟨is, r1, p1, _⟩ := I.list ha
    obtain ⟨js, r2, p2, _⟩ := I.list hb
    have l1 := r1.length
    have l2 := r2.length
    by_cases hl : xs.length = ys.length
    · refine SeqAt.RcNeAt.lists (e := fun j => eqV (xs.getD j .non) (ys.getD j .non)) p1.isList p2.isList (by simp only [List.size_toArray]; omega) (by omega) (eqAts r1 r2 f1 f2) X.prog X.w X.xe _ ?_
      rw [List.size_toArray, ← l1, eqLs_range xs ys hl]
      exact ⟨.bl _, H, I, rfl, q⟩
    · have e : eqLs xs ys = false := by
        cases e : eqLs xs ys with
        | false => rfl
        | true => exact absurd (eqLs_len e) hl
      rw [e] at q
      exact SeqAt.RcNeAt.lists_lengths p1.isList p2.isList (by simp only [List.size_toArray]; rw [bne_iff_ne]; omega) (by omega) X.prog X.w X.xe _ ⟨.bl _, H, I, rfl, q⟩
  · obtain ⟨is, r1, p1, _⟩ := I.tuple ha
    obtain ⟨js, r2, p2, _⟩ := I.tuple hb
    have l1 := r1.length
    have l2 := r2.length
    have k1 : s.heap.IsTuple a is.toArray := p1
    have k2 : s.heap.IsTuple b js.toArray := p2
    refine SeqAt.RcNeAt.tuples (e := fun j => eqV (xs.getD j .non) (ys.getD j .non)) k1 k2 (by omega) (eqAts r1 r2 f1 f2) X.prog X.w X.xe _ ?_
    rw [List.size_toArray, List.size_toArray, ← l1, ← l2, tups_eq]
    exact ⟨.bl _, H, I, rfl, q⟩
end
end Mo

namespace Mo
open PySem PySem.Spec PyProof.Rows L2
/-! ### the pen -/
def srcD (c : Addr) (t r : Int) : List (Key × V) := [(.inr "cells", .ref c), (.inr "index", .int t), (.inr "rest", .int r)]
theorem s_ct : ¬ ((Sum.inr "cells" : Key) = (Sum.inr "index" : Key)) := by decide +kernel
theorem s_cr : ¬ ((Sum.inr "cells" : Key) = (Sum.inr "rest" : Key)) := by decide +kernel
theorem s_tr : ¬ ((Sum.inr "index" : Key) = (Sum.inr "rest" : Key)) := by decide +kernel
theorem src_cells (c : Addr) (t r : Int) : valV (srcD c t r) (Sum.inr "cells") = some (.ref c) := valV_pos rfl
theorem src_index (c : Addr) (t r : Int) : valV (srcD c t r) (Sum.inr "index") = some (.int t) := by
  unfold srcD
  rw [valV_neg s_ct, valV_pos rfl]
theorem src_rest (c : Addr) (t r : Int) : valV (srcD c t r) (Sum.inr "rest") = some (.int r) := by
  unfold srcD
  rw [valV_neg s_cr, valV_neg s_tr, valV_pos rfl]
theorem sput_index (c : Addr) (t r u : Int) : putK (srcD c t r) (Sum.inr "index") (.int u) = srcD c u r := by
  unfold putK srcD
  have k1 := s_ct
  have k2 : ¬ ((Sum.inr "rest" : Key) = (Sum.inr "index" : Key)) := fun e => s_tr e.symm
  simp only [List.any_cons, List.map_cons, List.map_nil, k1, k2, if_false, if_true, decide_true, decide_false, Bool.true_or, Bool.or_true, Bool.false_or]
theorem sput_rest (c : Addr) (t r u : Int) : putK (srcD c t r) (Sum.inr "rest") (.int u) = srcD c t u := by
  unfold putK srcD
  have k1 := s_cr
  have k2 := s_tr
  simp only [List.any_cons, List.map_cons, List.map_nil, k1, k2, if_false, if_true, decide_true, decide_false, Bool.true_or, Bool.or_true, Bool.false_or]
theorem src_merge (c : Addr) (t r : Int) : mergeK [] (srcD c t r) = srcD c t r := by
  have k1 := s_ct
  have k2 := s_cr
  have k3 := s_tr
  simp only [mergeK, srcD, putK, List.foldl_cons, List.foldl_nil, List.any_nil, List.any_cons, List.nil_append, List.cons_append, k1, k2, k3, decide_false, Bool.or_false, Bool.false_eq_true, if_false]
/-- the pen at d, its cells at c, t draws done -/
def Src (H : Hp) (d c : Addr) (t : Nat) : Prop := ∃ (ns : List Int) (r : Int), H d = some (.dK (srcD c t r)) ∧ H c = some (.lst (ns.map V.int)) ∧ ns.length ≤ 63 ∧ 0 ≤ r
theorem Src.ne {H : Hp} {d c : Addr} {t : Nat} (h : Src H d c t) : d ≠ c := by
  obtain ⟨ns, r, h1, h2, _⟩ := h
  exact ne_of h1 h2 (by intro z; cases z)
theorem Src.new {H : Hp} {d c : Addr} {t : Nat} (h : Src H d c t) {p : Addr} (hp : H p = none) : p ≠ d ∧ p ≠ c := by
  obtain ⟨ns, r, h1, h2, _⟩ := h
  exact ⟨(ne_of_none h1 hp).symm, (ne_of_none h2 hp).symm⟩
theorem Src.upd {H : Hp} {d c : Addr} {t : Nat} (h : Src H d c t) {p : Addr} {o : HO} (h1 : p ≠ d) (h2 : p ≠ c) : Src (upd H p o) d c t := by
  obtain ⟨ns, r, e1, e2, e3⟩ := h
  exact ⟨ns, r, by rw [upd_ne h1.symm]; exact e1, by rw [upd_ne h2.symm]; exact e2, e3⟩
theorem Src.same {H H' : Hp} {d c : Addr} {t : Nat} (h : Src H d c t) (s : Same H H') : Src H' d c t := by
  obtain ⟨ns, r, e1, e2, e3⟩ := h
  exact ⟨ns, r, s _ _ e1, s _ _ e2, e3⟩
theorem src_set {H : Hp} {d c : Addr} {t : Nat} (h : Src H d c t) {u : Nat} {r : Int} (hr : 0 ≤ r) : Src (L2.upd H d (.dK (srcD c u r))) d c u := by
  have n := h.ne
  obtain ⟨ns, r0, e1, e2, e3, _⟩ := h
  exact ⟨ns, r, upd_same, by rw [upd_ne n.symm]; exact e2, e3, hr⟩
def spSDraw : Sp := fun vs H Q _ => ∃ (d c : Addr) (n : Int) (t : Nat), vs = [.ref d, .int n] ∧ Src H d c t ∧ 0 < n ∧ n < 1073741824 ∧ t < 1073741824 ∧
  ∀ H' k t', But d H H' → Src H' d c t' → t' ≤ t + 1 → 0 ≤ k → k < n → Q (.int k) H'
def spSPick (K : PySem.W.Frag) : Sp := fun vs H Q _ => ∃ (d c l : Addr) (xs : List V) (t : Nat), vs = [.ref d, .ref l] ∧ Src H d c t ∧ SqL K H l xs ∧ l ≠ d ∧ 0 < xs.length ∧ xs.length < 1073741824 ∧ t < 1073741824 ∧
  ∀ H' v t', But d H H' → Src H' d c t' → t' ≤ t + 1 → v ∈ xs → Q v H'
end Mo

namespace Mo
open PySem PySem.Spec PyProof.Rows L2
section
variable {K : PySem.W.Frag}
theorem intsDp {H : Hp} : ∀ ns : List Int, DpAll K H (ns.map V.int) (ns.map PyData.int)
  | [] => .nil
  | n :: ns => .cons (.int n) (intsDp ns)
theorem tupI_dat {H : Hp} {p : Addr} {ns : List Int} (h : H p = some (.tup (ns.map V.int))) : Dat K H (.ref p) (.tuple (ns.map PyData.int)) := .inl (.tup (SqT.of h) (intsDp ns))
theorem lstI_dat {H : Hp} {p : Addr} {ns : List Int} (h : H p = some (.lst (ns.map V.int))) : Dat K H (.ref p) (.list (ns.map PyData.int)) := .inl (.lst (SqL.of h) (intsDp ns))
theorem ints_fitAll {B : Nat} : ∀ {ns : List Int}, (∀ n ∈ ns, n.natAbs < 10 ^ B) → FitAll B (2 * ns.length) 0 (ns.map PyData.int)
  | [], _ => ⟨trivial, Nat.le_refl _, Nat.le_refl _⟩
  | n :: ns, h => by
    have ih := ints_fitAll (B := B) (ns := ns) fun x hx => h x (List.mem_cons_of_mem _ hx)
    refine ⟨?_, ?_, ?_⟩
    · simp only [List.map_cons, okAll]
      exact ⟨by simp only [okD]; exact h n (List.mem_cons_self ..), ih.ok⟩
    · have := ih.bulk
      simp only [List.map_cons, PyData.bulkAll, PyData.bulk, List.length_cons]
      omega
    · have := ih.deep
      simp only [List.map_cons, PyData.depthAll, PyData.depth]
      omega
theorem tupI_repr {ns : List Int} (h : ∀ n ∈ ns, n.natAbs < 10 ^ 20) (hl : ns.length ≤ 100000) : (PyData.tuple (ns.map PyData.int)).showable = true ∧ (PyData.tuple (ns.map PyData.int)).depth ≤ 40 ∧ (PyData.tuple (ns.map PyData.int)).shown.length ≤ sizeLine :=
  ((ints_fitAll h).tup).repr (by decide) (by decide) (by omega) (by decide)
theorem lstI_repr {ns : List Int} (h : ∀ n ∈ ns, n.natAbs < 10 ^ 20) (hl : ns.length ≤ 100000) : (PyData.list (ns.map PyData.int)).showable = true ∧ (PyData.list (ns.map PyData.int)).depth ≤ 40 ∧ (PyData.list (ns.map PyData.int)).shown.length ≤ sizeLine :=
  ((ints_fitAll h).lst).repr (by decide) (by decide) (by omega) (by decide)
end
end Mo

namespace Mo
open PySem PySem.Spec PyProof.Rows L2
section
variable {X : Cx}
theorem intsAre_of : ∀ {ns : List Int} {vs : List Value}, Vals (ns.map V.int) vs → IntsAre vs ns
  | [], _, .nil => .nil
  | n :: ns, _, .cons ⟨t, e⟩ h => by
    subst e
    exact .cons n t (intsAre_of h)
/-- t.index(k), a tuple of ints that has it -/
theorem mt_tindexI {K : PySem.W.Frag} (hK : X.K = K) : MtR X "tuple.index" (fun x xs H Q => ∃ p, ∃ ns : List Int, ∃ k : Int, x = .ref p ∧ xs = [.int k] ∧ SqT K H p (ns.map V.int) ∧ k ∈ ns ∧ Q (.int (ns.idxOf k : Nat)) H) := by
  subst hK
  intro pins s σ H x xs v us Q I rx rs h
  obtain ⟨p, ns, k, rfl, rfl, hq, hk, q⟩ := h
  cases rx
  obtain ⟨u, rfl, t, rfl⟩ := vals1 rs
  obtain ⟨its, r, pl, hz⟩ := I.tuple hq
  have k1 : s.heap.IsTuple p its.toArray := pl
  exact PySem.SeqAt.tuple_index_ints k1 (intsAre_of r) hk ⟨.int _, H, I.tok _, ⟨_, rfl⟩, q⟩
/-- a tuple whose object has no dict -/
def Tpl (H : Hp) (p : Addr) (xs : List V) : Prop := ∃ o : Obj, o.dict = none ∧ H p = some (.frz o (.tup xs))
theorem Tpl.sq {K : PySem.W.Frag} {H : Hp} {p : Addr} {xs : List V} (h : Tpl H p xs) : SqT K H p xs := by
  obtain ⟨o, _, e⟩ := h
  exact .inl (.inr ⟨o, e⟩)
theorem Tpl.same {H H' : Hp} {p : Addr} {xs : List V} (h : Tpl H p xs) (s : Same H H') : Tpl H' p xs := by
  obtain ⟨o, d, e⟩ := h
  exact ⟨o, d, s _ _ e⟩
theorem Tpl.ne {H : Hp} {p q : Addr} {xs : List V} {o : HO} (h : Tpl H p xs) (hq : H q = some o) (n : ∀ a b, o ≠ .frz a b) : p ≠ q := by
  obtain ⟨o', d, e⟩ := h
  exact ne_of e hq (fun z => n _ _ z.symm)
/-- tuple(list), the object kept -/
theorem cr_tupF : CallR X (.type "tuple") (fun xs H Q => ∃ p ys, xs = [.ref p] ∧ SqL X.K H p ys ∧ ∀ l H', H l = none → Same H H' → Tpl H' l ys → Q (.ref l) H') := by
  intro pins s σ H xs us Q I r h
  obtain ⟨p, ys, rfl, hq, q⟩ := h
  obtain ⟨u, rfl, rx⟩ := vals1 r
  cases rx
  obtain ⟨its, r', pl, hz⟩ := I.list hq
  have hlen := r'.length
  refine call_tuple_list pl.isList (fun h' kp => ?_) (by simp only [List.size_toArray] <;> omega)
  have I1 : Inv X pins σ H { s with heap := h' } := I.kept (t' := s.toks) kp
  have I2 : Inv X pins σ (upd H h'.objs.size (.frz { cls := .type "tuple", data := .seq its.toArray } (.tup ys))) { s with heap := h'.push { cls := .type "tuple", data := .seq its.toArray } } :=
    I1.laid (t' := s.toks) (fun b o e => Heap.get?_push_of_some _ e) (Nat.le_refl _) (show ObjOk X.prog X.w _ _ _ (.frz _ (.tup ys)) from ⟨Heap.get?_push_size _ rfl, hz, its, r', IsTup.new _ _⟩)
  have nw := I1.hok.fresh (Nat.le_refl _)
  exact ⟨.ref h'.objs.size, _, I2, rfl, q _ _ nw (same_new nw) ⟨_, rfl, upd_same⟩⟩
/-- a tuple's method -/
def tTM (r : V → List V → Hp → VK → Prop) (to : TE) (t : TA) : TE := fun σ H Q => to σ H fun x H1 => (∃ p ys, x = .ref p ∧ Tpl H1 p ys) ∧ t σ H1 fun xs H2 => r x xs H2 Q
theorem pe_tm {id : String} {name : Str} {r : V → List V → Hp → VK → Prop} {o e : Expr} {es : List Expr} {to : TE} {t : TA} {apos cpos : Pos} (slot : Slot "tuple" name id) (hty : typeOf (.builtin id) = pure (.type "method_descriptor")) (hm : MtR X id r) (ho : PE X o to) (ha : PA X (e :: es) t)
    (hbase : attributeBase o name X.env (eval o X.env) = eval o X.env := by rfl)
    (hfew : ((backTo cpos (starEach (e :: es) X.env)).all (fun x => !x.1) && (backToKw cpos (keywordEach [] X.env)).all (fun x => x.1.isSome)
      && decide ((e :: es).length + ([] : List Keyword).length + (if ([] : List Keyword).isEmpty then 0 else 1) < 30)) = true := by rfl)
    (hline : (apos.endLine == cpos.line) = true := by rfl) (hs : starEach (e :: es) X.env = (false, eval e X.env) :: starEach es X.env := by rfl) (hplain : (backTo cpos (starEach es X.env)).any (·.1) = false := by rfl) :
    PE X (.Call (.Attribute o name apos) (e :: es) [] cpos) (tTM r to t) := by
  refine ⟨fun pins s σ H Q I h => ?_⟩
  refine wpAny_Call_method_late hbase hfew hline rfl (thn (ho.run pins s σ H _ I h) fun v s1 ⟨x, H1, I1, r1, ty, q1⟩ => ?_)
  obtain ⟨p, ys, rfl, ob, hob, hp⟩ := ty
  cases r1
  obtain ⟨hg, hz, its, _, o', ho', hc', _⟩ := I1.hok p _ hp
  have eo : ob = o' := Option.some.inj (hg.symm.trans ho')
  subst eo
  refine ⟨"tuple", id, PySem.F.plainAttrs_tuple, slot, hty, ⟨ob, hg, hc'⟩, fun a e => by cases e; exact ⟨ob, hg, hob⟩, ?_⟩
  have hA := ha.run cpos pins s1 σ H1 _ I1 q1
  rw [hs] at hA ⊢
  refine Calls.callWith_builtin (by show (false || (backTo cpos (starEach es X.env)).any (·.1)) = false; rw [hplain] <;> rfl) (Calls.evalArgs_plain ?_)
  exact thn hA fun us s2 ⟨vs, H2, I2, r2, q2⟩ => hm pins s2 σ H2 (.ref p) vs (.ref p) us Q I2 rfl r2 q2
theorem ix_tupK {K : PySem.W.Frag} (h : X.K = K) : IxR X (rIxT K) := by
  subst h
  exact ix_tup
end
end Mo

/-! ### several 'except x as n: ..', each with its own suite -/
namespace Mo
open PySem PySem.Spec PyProof.Rows L2
/-- a clause: the class, the slot of its name, what its suite does -/
abbrev Cls3 := Value × Nat × (Addr → Value → Option Addr → TS)
/-- what the clauses wish of an error of the body, one after the other -/
def wEach (K : PySem.W.Frag) (Wout : WX) (D : Ends) : List Cls3 → WX
  | [] => Wout
  | (c, i, ts) :: r => fun cls d σ H => ∃ b, PySem.W.exmOne K cls c = some b ∧
      (b = true → ∀ a, H a = none → ts a cls d { nx := fun σ' H' => D.nx (σ'.set i none) H', rt := D.rt, bk := fun σ' H' => D.bk (σ'.set i none) H', ct := fun σ' H' => D.ct (σ'.set i none) H' } (σ.set i (some (.ref a))) H) ∧ (b = false → wEach K Wout D r cls d σ H)
inductive HdsAs (X : Cx) : List ExceptHandler → List Cls3 → Prop
  | nil : HdsAs X [] []
  | cons {x n : Str} {c : Value} {i : Nat} {ts : Addr → Value → Option Addr → TS} {b₀ : Stmt} {rest : List Stmt} {np ep : Pos} {hds : List ExceptHandler} {l : List Cls3} (hc : Names X x c) (hi : X.N[i]? = some n) (hln : X.env.kindOf n = some .local)
      (hsu : ∀ (a : Addr) (oe : Obj) (cls : Value) (d : Option Addr) (pn : List (Addr × Obj)), Zc cls d oe → (∃ vs, oe.data = .fields vs) → PSs (X.suite a ((a, oe) :: pn)) (b₀ :: rest) (ts a cls d)) (r : HdsAs X hds l) : HdsAs X (.ExceptHandler (some (.Name x np)) (some n) (b₀ :: rest) ep :: hds) ((c, i, ts) :: l)
section
variable {X : Cx} {body : List Stmt} {h₀ : ExceptHandler} {hds : List ExceptHandler} {l : List Cls3} {pos : Pos} {tb : WX → TS} {Wout : WX}
theorem ps_try_each (hs : X.stack = X.env :: X.outer) (hf : X.env.frame = some X.env.locals) (hN : X.N.Nodup) (tk : Takes X Wout)
    (hb : ∀ (W : WX) (pn : List (Addr × Obj)) (xe : Value → Shared → Prop), Takes (X.tr pn xe) W → PassesOwn (model X.prog X.w) X.A X.env xe → PSs (X.tr pn xe) body (tb W)) (hh : HdsAs X (h₀ :: hds) l) :
    PS X (.Try body (h₀ :: hds) [] [] pos) (fun D σ H => tb (wEach X.K Wout D l) D σ H) := by
  refine ⟨fun pins s σ H D I h => ?_⟩
  have ok := I.ok
  have hfr : X.A.frames = some (X.env :: X.outer) := ok.frames.trans (by rw [hs])
  refine wpAny_Try_except (wpAny_mono ((hb (wEach X.K Wout D l) (X.pn ++ pins) (fun e s₁ => wpAny (model X.prog X.w) X.A (noteFrame e X.env) (fun _ s₂ => wpAny (model X.prog X.w) X.A (setFlight e none) (fun _ s₃ => wpAny (model X.prog X.w) X.A (handleBy e X.env (h₀ :: hds)) (SP X pins D) X.xe s₃) X.xe s₂) X.xe s₁)
    (fun u s' xx => ?_) PassesOwn.looking).run [] s σ H D (I.toTry _) h) (fun f s1 hsp => ?_) (fun e s1 he => he))
  · obtain ⟨a, B, sI, pins', σ', H', cls, d, rfl, J', nb, up, sky, na, os, ag, w⟩ := xx
    have J : Inv X pins σ' H' sI := J'.ofTry ok
    show wpAny (model X.prog X.w) X.A (noteFrame (.ref a) X.env) _ _ _
    refine Sky.land Zc.steady hfr hf (hs ▸ sky) fun h3 fl3 up3 => ?_
    have J3 : Inv X pins σ' H' { s' with heap := h3 } := J.landed nb fl3.1 (up.trans up3) os ag
    obtain ⟨oe3, vs3, he3, hz3, hd3⟩ := fl3.there
    have nfr : a ∉ frs (X.env :: X.outer) := fun hm => by
      obtain ⟨_, o2, e2, hnf⟩ := fl3.2.2.1.mem hm
      rw [he3] at e2
      cases e2
      exact hnf _ hd3
    have nL : a ≠ X.env.locals := fun z => nfr (List.mem_filterMap.mpr ⟨X.env, List.mem_cons_self, hf.trans (congrArg some z.symm)⟩)
    have nF : a ∉ X.fs := fun hm => (List.mem_filterMap.mp hm).elim fun e z => nfr (List.mem_filterMap.mpr ⟨e, List.mem_cons_of_mem _ z.1, z.2⟩)
    have S3 := J3.suite he3 hd3 na nL nF
    have LT : PySem.W.Looks (model X.prog X.w) h3 (typeOf (.ref a)) cls := fun A Q E s k q => wpAny_typeOf_ref (k _ _ he3) (hz3.1 ▸ q)
    have go : ∀ {hs2 : List ExceptHandler} {l2 : List Cls3}, HdsAs X hs2 l2 → wEach X.K Wout D l2 cls d σ' H' → wpAny (model X.prog X.w) X.A (handleBy (.ref a) X.env hs2) (SP X pins D) X.xe { s' with heap := h3 } := by
      intro hs2 l2 hk
      induction hk with
      | nil =>
        intro w
        refine wpAny_handleBy_nil ?_
        obtain ⟨k1, k2, k3, oe, vs, T, oT, t2, he, hz, hd, h1, hr⟩ := id fl3
        unfold PySem.passOn
        refine wpAny_bind (wpAny_field he hd h1 ?_)
        rw [if_neg (show ¬ ((Value.ref T == Value.none) = true) from by simp)]
        have fin : wpAny (model X.prog X.w) X.A (setFlight (.ref a) X.env.frame) (fun _ s4 => wpAny (model X.prog X.w) X.A (throw (.ref a) : Sem Flow) (SP X pins D) X.xe s4) X.xe { s' with heap := h3 } := by
          rw [hf]
          refine HandSPX.setFlight_upZ fl3 fun h4 hh4 up4 => wpAny_throw (tk _ _ ⟨a, B, sI, pins, σ', H', cls, d, rfl, J, nb, (up.trans up3).trans up4, .inr (.inr (hs ▸ hh4)), na, os, ag, w⟩)
        first
          | exact wpAny_bind (wpAny_pure (wpAny_bind fin))
          | exact wpAny_bind fin
      | @cons x n c i ts b₀ rest np ep hds' l' hc hi hln hsu r ih =>
        rintro ⟨b, hb1, hyes, hno⟩
        refine wpAny_handleBy_cons (codeAny_handlers_test ?_) (by intro q; cases q)
        have test : ∀ {Q : Value → Shared → Prop} {E : Value → Shared → Prop}, Q c { s' with heap := h3 } → wpAny (model X.prog X.w) (X.A.mark (some (.ref a))) (eval (.Name x np) X.env) Q E { s' with heap := h3 } := fun {Q E} q => by
          rcases hc with ⟨hg, hdbg, hm | ⟨hm, hv, hnn⟩⟩
          · exact ld_glob (X := X.suite a ((a, oe3) :: (X.pn ++ pins))) S3 hg hm q hdbg
          · exact ld_blt (X := X.suite a ((a, oe3) :: (X.pn ++ pins))) S3 hg hm hv q hnn hdbg
        refine test ((PySem.W.exm_one (M := model X.prog X.w) J3.kIn LT hb1).here ?_)
        cases b with
        | false => exact ih (hno rfl)
        | true =>
          refine codeAny_handlers_suite_as (HandSPX.lands_againZ fl3 fun h4 fl4 up4 => ?_)
          have J4 : Inv X pins σ' H' { s' with heap := h4 } := J.landed nb fl4.1 ((up.trans up3).trans up4) os ag
          obtain ⟨oe4, vs4, he4, hz4, hd4⟩ := fl4.there
          refine store_ok (X := X.suite a ((a, oe4) :: (X.pn ++ pins))) (v := .ref a) (J4.suite he4 hd4 na nL nF) hN hi (.inl hln) rfl (fun s5 S5 => ?_) (.inr hln)
          refine wpAny_mono ((hsu a oe4 cls d (X.pn ++ pins) hz4 ⟨_, hd4⟩).run [] s5 _ H' _ S5 (hyes rfl a na)) (fun f s6 hsp => ?_) (fun _ _ z => False.elim z)
          cases f with
          | next => exact hsp.elim fun σ6 z => z.elim fun H6 z => gone_ok (z.1.unsuite ok) hN hi hln fun s7 J7 => ⟨_, _, J7, z.2⟩
          | brk => exact hsp.elim fun σ6 z => z.elim fun H6 z => gone_ok (z.1.unsuite ok) hN hi hln fun s7 J7 => ⟨_, _, J7, z.2⟩
          | cont => exact hsp.elim fun σ6 z => z.elim fun H6 z => gone_ok (z.1.unsuite ok) hN hi hln fun s7 J7 => ⟨_, _, J7, z.2⟩
          | ret u => exact hsp.elim fun v z => z.elim fun σ6 z => z.elim fun H6 z => gone_ok (z.1.unsuite ok) hN hi hln fun s7 J7 => ⟨v, _, _, J7, z.2.1, z.2.2⟩
    exact go hh w
  · cases f with
    | next => exact hsp.elim fun σ1 z => z.elim fun H1 z => wpAny_execs_nil ⟨σ1, H1, z.1.ofTry ok, z.2⟩
    | brk => exact hsp.elim fun σ1 z => z.elim fun H1 z => ⟨σ1, H1, z.1.ofTry ok, z.2⟩
    | cont => exact hsp.elim fun σ1 z => z.elim fun H1 z => ⟨σ1, H1, z.1.ofTry ok, z.2⟩
    | ret u => exact hsp.elim fun v z => z.elim fun σ1 z => z.elim fun H1 z => ⟨v, σ1, H1, z.1.ofTry ok, z.2⟩
end
/-! isinstance(e, c) in the suite, e an error with its own dict -/
/-- the error at a, its class at C, its dict at dd -/
def rIsS (K : PySem.W.Frag) (a : Addr) (cls : Value) (d : Option Addr) : List V → Hp → VK → Prop := fun xs H Q => ∃ (C dd : Addr) (fs : List (Str × V)) (c : V) (u : Value) (b : Bool), xs = [.ref a, c] ∧ cls = .ref C ∧ d = some dd ∧ H dd = some (.xd fs) ∧ ExcC K C ∧ ClsV c u ∧ PySem.W.kitOne K (.ref C) u = some b ∧ Q (.bl b) H
theorem cr_isS {X : Cx} {a : Addr} {oe : Obj} {cls : Value} {d : Option Addr} {pn : List (Addr × Obj)} (hz : Zc cls d oe) (hf : ∃ vs, oe.data = .fields vs) : CallR (X.suite a ((a, oe) :: pn)) (.builtin "isinstance") (rIsS X.K a cls d) := by
  intro pins s σ H xs us Q I r h
  obtain ⟨C, dd, fs, c, u, b, rfl, rfl, rfl, hd, T, k, e, q⟩ := h
  obtain ⟨u1, u2, rfl, r1, r2⟩ := vals2 r
  cases r1
  obtain rfl := k.eq r2
  obtain ⟨ha, _⟩ := I.pin (a, oe) (List.mem_append_left _ List.mem_cons_self)
  obtain ⟨vs, hv⟩ := hf
  obtain ⟨mA, hns, hr⟩ := (show ObjOk X.prog X.w H s.heap dd (.xd fs) from I.hok dd _ hd)
  obtain ⟨od, ho, hl⟩ := lookIn_ns hns
  exact PySem.W.kia_one (err_kit T) I.kIn ⟨oe, od, ha, hz.1, by unfold PySem.W.notCls; rw [hv] <;> rfl, by rw [hz.2]; exact ho⟩ e (fun z => nomatch z) fun tk => ⟨.bl b, H, I.tok tk, rfl, q⟩
/-- e.f in the suite -/
def tXs (K : PySem.W.Frag) (a : Addr) (cls : Value) (d : Option Addr) (f : Str) (te : TE) : TE := fun σ H Q => te σ H fun x H1 => ∃ (C dd : Addr) (fs : List (Str × V)) (v : V), x = .ref a ∧ cls = .ref C ∧ d = some dd ∧ H1 dd = some (.xd fs) ∧ XfC K C ∧ PySem.W.findIn K (.ref C) f = some none ∧ fs.lookup f = some v ∧ Q v H1
theorem pe_xs {X : Cx} {a : Addr} {oe : Obj} {cls : Value} {d : Option Addr} {pn : List (Addr × Obj)} {e : Expr} {te : TE} {pos : Pos} {f : Str} (hz : Zc cls d oe) (hf : ∃ vs, oe.data = .fields vs) (he : PE (X.suite a ((a, oe) :: pn)) e te)
    (hb : attributeBase e f X.env (eval e X.env) = eval e X.env := by rfl) : PE (X.suite a ((a, oe) :: pn)) (.Attribute e f pos) (tXs X.K a cls d f te) := by
  refine ⟨fun pins s σ H Q I h => attr_of hb (thn (he.run pins s σ H _ I h) fun u s1 hh => ?_)⟩
  obtain ⟨x, H1, I1, rx, C, dd, fs, v, rfl, rfl, rfl, ea, T, hno, l, q⟩ := hh
  obtain rfl : u = Value.ref a := rx
  obtain ⟨ha, _⟩ := I1.pin (a, oe) (List.mem_append_left _ List.mem_cons_self)
  obtain ⟨vs, hv⟩ := hf
  obtain ⟨mA, hns, hr⟩ := (show ObjOk X.prog X.w H1 s1.heap dd (.xd fs) from I1.hok dd _ ea)
  obtain ⟨od, ho, hl⟩ := lookIn_ns hns
  obtain ⟨u, hu, ru⟩ := RelO.some_of (v := v) (o := mA f) (l ▸ hr f)
  exact HandSPX.exc_get I1.kIn ⟨ha, hz.1, by unfold PySem.W.notCls; rw [hv] <;> rfl, by rw [hz.2]; exact ho⟩ T.ga T.gg T.exC (PySem.W.findObj_own T.hdC hno rfl (by rw [hl, hu])) (handed_of ru) ⟨v, H1, I1.tok _, ru, q⟩
end Mo

/-! ### own error classes over any of Python's errors -/
namespace Mo
open PySem PySem.Spec PyProof.Rows L2
open Builtin Builtin.ObjectAttr in
section
variable {prog : Program} {w : World} {A : Around} {E : Value → Shared → Prop} {R : Result → Shared → Prop} {hp : Heap} {g : Array GenState} {d : Drawn} {t : Nat} {os : OsState}
/-- the first field of such an error -/
theorem osaG {K : PySem.W.Frag} {nm : Str} {tk : Tok} {v : Value} {x C : Addr} {fv : Array Value} {cd : ClassData} {bmB : List Value} (X : K.In hp) (hx : hp.get? x = some { cls := .ref C, data := .fields fv }) (hcd : PySem.W.clsIn K C = some cd)
    (hm : PySem.W.excTail bmB cd.mro = true) (hne : bmB ≠ []) (hob : bmB.contains (.type "object") = true) (hps : ∀ self, refuseLoop self "__setattr__" bmB = pure ()) (hh : cd.hasDict = true) (ha : PySem.W.findIn K (.ref C) nm = some none)
    (hq : ∀ h' tk' dx, (∀ b o, b ≠ x → hp.get? b = some o → h'.get? b = some o) → hp.objs.size ≤ dx → dx ≠ x → h'.get? x = some { cls := .ref C, dict := some dx, data := .fields fv } → h'.Ns1 dx (fun y => if y = nm then some v else none) → R (.ok (.ret .none)) ⟨h', g, d, tk', os⟩) :
    codeAny (model prog w) A (.call (.builtin "object.__setattr__") ⟨[.ref x, .str nm tk, v], []⟩) R ⟨hp, g, d, t, os⟩ := by
  have J : PySem.W.InstAt hp x { cls := .ref C, data := .fields fv } C none := ⟨hx, rfl, rfl, trivial⟩
  have SO := PySem.F.store_object
  have e1 : cd.mro.isEmpty = false := by
    cases q : cd.mro with
    | nil =>
      rw [q] at hm
      exact absurd (beq_iff_eq.mp hm).symm hne
    | cons _ _ => rfl
  have e2 : cd.mro.contains (.type "object") = true := (PySem.W.excTail_contains "object" _ hm).trans hob
  have n1 : x ≠ hp.objs.size := Nat.ne_of_lt (Heap.lt_size hx)
  have su : PySem.W.Looks (model prog w) hp (isInstance (.ref x) (.type "object")) true := J.type.andThen (PySem.W.looks_mroIn X (by unfold PySem.W.mroIn; rw [hcd, Option.bind_some, if_neg (by rw [e1]; decide), e2]))
  refine codeAny_call_builtin SO.slot.plain SO.entry (@PySem.W.check_slot (model prog w) _ _ ⟨hp, g, d, t, os⟩ "object.__setattr__" "object" "__setattr__" (.ref x) [.str nm tk, v] [] _ SO.kind SO.split su (SO.args (.ref x) (.str nm tk) v) ?_)
  have l1 : PySem.W.Looks (model prog w) hp (mroOf (.ref C)) cd.mro := (PySem.W.looks_clsIn X hcd).andThen .now
  have l2 : PySem.W.Looks (model prog w) hp (storeTaker? none) none := .now
  have l3 : PySem.W.Looks (model prog w) hp (classData C) cd := PySem.W.looks_clsIn X hcd
  rw [PySem.W.osa_eq, refuse_eq]
  refine wpAny_bind (wpAny_bind (J.type.at (wpAny_bind (l1.at ?_))))
  rw [PySem.W.excTail_pass _ (hps _) _ hm]
  refine wpAny_pure (wpAny_bind (J.type.at (wpAny_bind ((PySem.W.looks_findIn X ha).at (wpAny_bind (l2.at ?_))))))
  show wpAny _ _ (storeInOwnDict (.ref x) (.ref C) (.str nm tk) nm v false) _ _ _
  obtain ⟨_, _, mro, _, _, hd, _, _, _, _, _⟩ := cd
  obtain rfl : hd = true := hh
  unfold storeInOwnDict ownDictForStores
  repeat (first | with_reducible refine PySem.HandSPX.store_in_new ?_ ?_ | with_reducible refine wpAny_loadPart_at hx ?_ | with_reducible refine l3.at ?_ | wp_step)
  · exact ⟨_, #[], _, (Heap.get?_update_ne _ _ _ _ n1.symm).trans (Heap.get?_push_at rfl rfl), rfl, fun e he => absurd he (by simp), fun _ => rfl⟩
  · intro h2 tk2 hn2 hs2
    have hx1 : (hp.push { cls := .type "dict", data := .dict #[] }).get? x = some { cls := .ref C, data := .fields fv } := Heap.get?_push_of_some _ hx
    exact hq h2 tk2 hp.objs.size (fun b o hb ho => (hs2.2 b (Nat.ne_of_lt (Heap.lt_size ho))).trans ((Heap.get?_update_ne _ _ _ _ hb).trans (Heap.get?_push_of_some _ ho))) (Nat.le_refl _) n1.symm ((hs2.2 x n1).trans (Heap.get?_update_self _ hx1 rfl)) hn2
end
/-- what the written part says of an own error class at C over Python's B -/
structure OvC (K : PySem.W.Frag) (C : Addr) (B newId initId : String) (bmB : List Value) : Prop where
  cls : ∃ nm q N bs bm sn sub ab col dd k0 k1 k2 k3 k5, K.lookup C = some (excClassObj nm q C N bs bm true sn sub ab col dd k0 k1 k2 k3 k5 newId) ∧ PySem.W.excTail bmB bm = true
  bas : ExcBaseFacts B newId initId bmB
  obj : bmB.contains (.type "object") = true
  pas : ∀ self, refuseLoop self "__setattr__" bmB = pure ()
  sa : PySem.W.findIn K (.ref C) "__setattr__" = some (some (.builtin "object.__setattr__"))
  exC : PySem.W.subIn K (.ref C) (.type "BaseException") = some true
  tyC : PySem.W.typeIn K (.ref C) = some (.type "type")
  kC : PySem.W.keepIn K (.ref C) = true
section
variable {X : Cx} {pins : List (Addr × Obj)} {σ : L2.St} {H : Hp} {s : Shared} {a C : Addr} {f : Str} {y : V} {u : Value} {Q : Unit → Shared → Prop} {E : Value → Shared → Prop} {A : Around} {B newId initId : String} {bmB : List Value}
theorem fieldG (T : OvC X.K C B newId initId bmB) (I : Inv X pins σ H s) (e : H a = some (exo a C none)) (hno : PySem.W.findIn X.K (.ref C) f = some none) (ry : RelV y u)
    (h : ∀ dx s', H dx = none → dx ≠ a → Inv X pins σ (upd (upd H dx (exd dx [(f, y)])) a (exo a C (some dx))) s' → Q () s') : wpAny (model X.prog X.w) A (setAttr (.ref a) f u) Q E s := by
  obtain ⟨nm, q, N, bs, bm, sn, sub, ab, col, dd, k0, k1, k2, k3, k5, hC, hbm⟩ := T.cls
  have hcl : ∃ cd, PySem.W.clsIn X.K C = some cd ∧ cd.mro = .ref C :: bm ∧ cd.hasDict = true := by
    refine ⟨⟨nm, bs, .ref C :: bm, N, q, true, sn, sub, ab, col, false⟩, ?_, rfl, rfl⟩
    unfold PySem.W.clsIn
    rw [hC]
  obtain ⟨cd, c1, c2, c3⟩ := hcl
  obtain ⟨t1, ho⟩ := exo_at I.hok e
  obtain ⟨hp, g, dr, tk, os⟩ := s
  refine PySem.W.set_plain I.kIn (ox := { cls := .ref C, dict := none, data := .fields #[.ref t1, .none, .none, .none, .bool false, .none] }) (od := none) ⟨ho, rfl, rfl, trivial⟩ T.sa ?_
  refine osaG I.kIn ho c1 (by rw [c2]; exact hbm) (fun z => ?_) T.obj T.pas c3 hno (fun h2 tk2 dx kp dn ne hx hn => ?_)
  · have z2 := T.obj
    rw [z] at z2
    cases z2
  have free : H dx = none := I.hok.fresh dn
  have old : ∀ {b : Addr} {o : Obj}, hp.get? b = some o → b ≠ dx := fun {b o} q => Nat.ne_of_lt (Nat.lt_of_lt_of_le (Heap.lt_size q) dn)
  have off : ∀ {b : Addr}, H b = none → b ≠ a := fun {b} n z => by
    subst z
    rw [e] at n
    cases n
  have un : Un X.fs [] H (upd (upd H dx (exd dx [(f, y)])) a (exo a C (some dx))) hp h2 := by
    constructor
    · exact fun b o q n _ _ => kp b o (off n) q
    · exact fun b o q n _ _ => ⟨o.slots, kp b o (off n) q⟩
    · exact fun b o q n _ => by
        rw [upd_ne (off n), upd_ne (old q)]
        exact n
    · intro b o q _
      by_cases hb : b = a
      · subst hb
        exact ⟨_, hx⟩
      · exact ⟨o, kp b o hb q⟩
    · exact fun b xs q => by
        rw [upd_ne (at_ne e q exo_tup), upd_ne (ne_of_none q free)]
        exact q
    · exact fun b o v q => by
        rw [upd_ne (at_ne e q exo_frz), upd_ne (ne_of_none q free)]
        exact q
    · exact fun b ps q => ⟨#[], by
        rw [upd_ne (at_ne e q exo_tbl), upd_ne (ne_of_none q free), q]
        simp⟩
  refine h dx _ free ne (I.un (t' := tk2) un fun b o q => ?_)
  by_cases hb : b = a
  · subst hb
    rw [upd_same] at q
    obtain rfl := Option.some.inj q
    exact exo_ok hx
  rw [upd_ne hb] at q
  by_cases hd : b = dx
  · subst hd
    rw [upd_same] at q
    obtain rfl := Option.some.inj q
    exact exd_ok hn (relO_put (fs := []) ry fun _ => True.intro)
  rw [upd_ne hd] at q
  refine (I.hok b o q).stay (fun c v hc z => kp c v ?_ z) (fun c hc => ?_) (fun c xs hc => ?_)
  · rcases hc with rfl | hc
    · exact hb
    · exact at_ne e hc exo_own
  · rw [upd_ne (at_ne e hc exo_own), upd_ne (ne_of_none hc free)]
    exact hc
  · rw [upd_ne (at_ne e hc exo_tup), upd_ne (ne_of_none hc free)]
    exact hc
end
/-- self.f = e, the one field of such an error -/
def tFieldG (K : PySem.W.Frag) (f : Str) (to te : TE) : TS := fun D σ H => te σ H fun y H1 => to σ H1 fun x H2 => ∃ (a C : Addr) (B newId initId : String) (bmB : List Value), x = .ref a ∧ OvC K C B newId initId bmB ∧ PySem.W.findIn K (.ref C) f = some none ∧
  H2 a = some (exo a C none) ∧ ∀ dx, H2 dx = none → dx ≠ a → D.nx σ (upd (upd H2 dx (exd dx [(f, y)])) a (exo a C (some dx)))
section
variable {X : Cx} {o e : Expr} {es : List Expr} {to te : TE} {ta : TA} {f : Str} {p q1 pos : Pos} {B newId initId : String} {bmB : List Value}
theorem ps_fieldG (ho : PE X o to) (he : PE X e te) (hs : swapsWith e (some (.Attribute o f q1)) pos.line X.env = pure false := by rfl) : PS X (.Assign [.Attribute o f q1] e pos) (tFieldG X.K f to te) := by
  refine ⟨fun pins s σ H D I h => ?_⟩
  refine plainObj_wpAny_Assign_Attribute (thn (he.run pins s σ H _ I h) fun v s1 ⟨y, H1, I1, r1, z1⟩ => thn (ho.run pins s1 σ H1 _ I1 z1) fun u s2 ⟨x, H2, I2, r2, a, C, B, newId, initId, bmB, ex, T, hno, ea, z⟩ => ?_) hs
  subst ex
  obtain rfl : u = Value.ref a := r2
  exact fieldG T I2 ea hno r1 fun dx s' n ne J => ⟨σ, _, J, z dx n ne⟩
/-- C(e, ..) where it is raised -/
theorem pmkG {CX : CXT} {x : Str} {C fI : Addr} {k : Nat} {fd : FuncData} {ps : List Str} {sp : Sp} (T : OvC X.K C B newId initId bmB) (iC : PySem.W.findIn X.K (.ref C) "__init__" = some (some (.ref fI))) (tI : PySem.W.typeIn X.K (.ref fI) = some (.type "function"))
    (F1 : FnOk X.prog X.w X.K X.mg X.base CX k fI fd ps sp) (hr : Room (k + 1) X.A) (hb : Binds X.K fd ps []) (hx : Passes CX X (fun _ _ _ => False)) (hg : Gl X x) (hm : X.mg x = some (.ref C)) (ha : PA X (e :: es) ta)
    (hdb : (x == ("__debug__" : Str)) = false := by decide) (he : starEach (e :: es) X.env = (false, eval e X.env) :: starEach es X.env := by rfl) (hpl : (backTo pos (starEach es X.env)).any (·.1) = false := by rfl) :
    PMk X (.Call (.Name x p) (e :: es) [] pos) (tMkO C sp [] ta) := by
  intro pins s σ H Q I h
  obtain ⟨nm, q, N, bs, bm, sn, sub, ab, col, dd, k0, k1, k2, k3, k5, hC, hbm⟩ := T.cls
  refine wpAny_Call_Name_kw (ld_glob I hg hm (PySem.W.callWith_K (h₀ := X.base) I.ok.mod.kin T.kC (thn (ha.run pos pins s σ H _ I h) fun us s1 ⟨vs, H1, I1, r1, hz, z1⟩ => ⟨I1.kIn, ?_⟩) he hpl) hdb)
  show wpAny _ _ (call (.ref C) us) _ _ _
  obtain ⟨hp, g, dr, tk, os⟩ := s1
  have le1 : hp.objs.size ≤ hp.objs.size + 1 := Nat.le_succ _
  have z2 := z1 (hp.objs.size + 1) (I1.hok.fresh le1)
  have keep : ∀ b o, hp.get? b = some o → ((hp.push (PySem.W.kdv_tup us)).push (PySem.HandSPX.excO C hp.objs.size)).get? b = some o := fun b o e => Heap.get?_push_of_some _ (Heap.get?_push_of_some _ e)
  have hget : ((hp.push (PySem.W.kdv_tup us)).push (PySem.HandSPX.excO C hp.objs.size)).get? (hp.objs.size + 1) = some (PySem.HandSPX.excO C hp.objs.size) := by heap_get
  have I2 := I1.laid (t' := tk) (a := hp.objs.size + 1) (o := exo (hp.objs.size + 1) C none) (h' := (hp.push (PySem.W.kdv_tup us)).push (PySem.HandSPX.excO C hp.objs.size)) keep le1 (exo_ok hget)
  rw [List.append_nil] at z2
  have r2 : Vals (V.ref (hp.objs.size + 1) :: vs) (Value.ref (hp.objs.size + 1) :: us) := .cons rfl r1
  have bi := hb ⟨(hp.push (PySem.W.kdv_tup us)).push (PySem.HandSPX.excO C hp.objs.size), g, dr, tk, os⟩ (Value.ref (hp.objs.size + 1) :: us) I2.kIn (by rw [List.append_nil]; exact r2.length.symm.trans (F1.len _ _ _ _ z2))
  rw [List.append_nil] at bi
  have hus : us.length ≤ sizeLine := by
    have := r1.length
    rw [sizeLine_eq]
    omega
  refine wpAny_call (PySem.HandSPX.call_own T.bas (fun Y => PySem.W.excTail_contains Y bm hbm) (I1.kIn _ _ hC) (PySem.W.looks_findIn I1.kIn iC) (fun self => PySem.W.bind_fn I1.kIn self tI) hus (codeAny_mono
    (F1.run _ X.stack _ _ ⟨Value.ref (hp.objs.size + 1) :: us, []⟩ (Value.ref (hp.objs.size + 1) :: us) _ _ (fun _ _ _ => False) (hr.make C us []) (I2.env0.make C us []) bi r2 z2) fun r s2 z3 => ?_))
  match r, z3 with
  | .error er, z3 => exact hx pins σ _ _ er s2 I2 z3
  | .ok (.ret u), z3 =>
    obtain ⟨v, H2, os2, bare2, un2, hok2, rv, ev, dx, fs, ea, ed, hd1, z4⟩ := z3
    subst ev
    obtain ⟨h2, g2, d2, t2, os'⟩ := s2
    exact ⟨rv, mk_end (raises_own T.exC T.tyC) I1 le1 keep un2 hok2 os2 bare2 ea ed hd1 z4⟩
end
/-- such a class with one field f, its __init__ at fI -/
structure ErrG (K : PySem.W.Frag) (C fI : Addr) (f : Str) (B newId initId : String) (bmB : List Value) : Prop where
  ov : OvC K C B newId initId bmB
  xf : XfC K C
  exc : ExcC K C
  no : PySem.W.findIn K (.ref C) f = some none
  te : PySem.W.exmOne K (.ref C) (.ref C) = some true
  iC : PySem.W.findIn K (.ref C) "__init__" = some (some (.ref fI))
  tI : PySem.W.typeIn K (.ref fI) = some (.type "function")
end Mo

/-! ### own errors with two fields; isinstance with several classes in a suite -/
namespace Mo
open PySem PySem.Spec PyProof.Rows L2
open Builtin Builtin.ObjectAttr in
section
variable {prog : Program} {w : World} {A : Around} {E : Value → Shared → Prop} {R : Result → Shared → Prop} {hp : Heap} {g : Array GenState} {d : Drawn} {t : Nat} {os : OsState}
/-- a further field of such an error -/
theorem osaG2 {K : PySem.W.Frag} {nm : Str} {tk : Tok} {v : Value} {x C dx : Addr} {fv : Array Value} {cd : ClassData} {bmB : List Value} {m0 : Str → Option Value} {nl : List Str} (X : K.In hp) (hx : hp.get? x = some { cls := .ref C, dict := some dx, data := .fields fv })
    (hns : hp.Ns1 dx m0) (hw : Within m0 nl) (hz : nl.length ≤ 1000) (hcd : PySem.W.clsIn K C = some cd)
    (hm : PySem.W.excTail bmB cd.mro = true) (hne : bmB ≠ []) (hob : bmB.contains (.type "object") = true) (hps : ∀ self, refuseLoop self "__setattr__" bmB = pure ()) (hh : cd.hasDict = true) (ha : PySem.W.findIn K (.ref C) nm = some none)
    (hq : ∀ h' tk', (∀ b o, b ≠ dx → hp.get? b = some o → h'.get? b = some o) → h'.Ns1 dx (fun y => if y = nm then some v else m0 y) → R (.ok (.ret .none)) ⟨h', g, d, tk', os⟩) :
    codeAny (model prog w) A (.call (.builtin "object.__setattr__") ⟨[.ref x, .str nm tk, v], []⟩) R ⟨hp, g, d, t, os⟩ := by
  obtain ⟨oD, _, _, hoD, _, _⟩ := hns.count hw
  have J : PySem.W.InstAt hp x { cls := .ref C, dict := some dx, data := .fields fv } C (some oD) := ⟨hx, rfl, rfl, hoD⟩
  have SO := PySem.F.store_object
  have e1 : cd.mro.isEmpty = false := by
    cases q : cd.mro with
    | nil =>
      rw [q] at hm
      exact absurd (beq_iff_eq.mp hm).symm hne
    | cons _ _ => rfl
  have e2 : cd.mro.contains (.type "object") = true := (PySem.W.excTail_contains "object" _ hm).trans hob
  have su : PySem.W.Looks (model prog w) hp (isInstance (.ref x) (.type "object")) true := J.type.andThen (PySem.W.looks_mroIn X (by unfold PySem.W.mroIn; rw [hcd, Option.bind_some, if_neg (by rw [e1]; decide), e2]))
  refine codeAny_call_builtin SO.slot.plain SO.entry (@PySem.W.check_slot (model prog w) _ _ ⟨hp, g, d, t, os⟩ "object.__setattr__" "object" "__setattr__" (.ref x) [.str nm tk, v] [] _ SO.kind SO.split su (SO.args (.ref x) (.str nm tk) v) ?_)
  have l1 : PySem.W.Looks (model prog w) hp (mroOf (.ref C)) cd.mro := (PySem.W.looks_clsIn X hcd).andThen .now
  have l2 : PySem.W.Looks (model prog w) hp (storeTaker? none) none := .now
  have l3 : PySem.W.Looks (model prog w) hp (classData C) cd := PySem.W.looks_clsIn X hcd
  rw [PySem.W.osa_eq, refuse_eq]
  refine wpAny_bind (wpAny_bind (J.type.at (wpAny_bind (l1.at ?_))))
  rw [PySem.W.excTail_pass _ (hps _) _ hm]
  refine wpAny_pure (wpAny_bind (J.type.at (wpAny_bind ((PySem.W.looks_findIn X ha).at (wpAny_bind (l2.at ?_))))))
  show wpAny _ _ (storeInOwnDict (.ref x) (.ref C) (.str nm tk) nm v false) _ _ _
  obtain ⟨_, _, mro, _, _, hd, _, _, _, _, _⟩ := cd
  obtain rfl : hd = true := hh
  unfold storeInOwnDict ownDictForStores
  repeat (first | with_reducible refine PySem.OEX.store_in_old hns hw hz ?_ | with_reducible refine wpAny_loadPart_at hx ?_ | with_reducible refine l3.at ?_ | wp_step)
  intro h2 tk2 hn2 hs2
  exact hq h2 tk2 (fun b o hb ho => (hs2.2 b hb).trans ho) hn2
end
section
variable {X : Cx} {pins : List (Addr × Obj)} {σ : L2.St} {H : Hp} {s : Shared} {a C dx : Addr} {f : Str} {y : V} {u : Value} {fs : List (Str × V)} {Q : Unit → Shared → Prop} {E : Value → Shared → Prop} {A : Around} {B newId initId : String} {bmB : List Value}
theorem fieldG2 (T : OvC X.K C B newId initId bmB) (I : Inv X pins σ H s) (e : H a = some (exo a C (some dx))) (ed : H dx = some (exd dx fs)) (hl : fs.length ≤ 900) (hno : PySem.W.findIn X.K (.ref C) f = some none) (ry : RelV y u)
    (h : ∀ s', Inv X pins σ (upd H dx (exd dx ((f, y) :: fs))) s' → Q () s') : wpAny (model X.prog X.w) A (setAttr (.ref a) f u) Q E s := by
  obtain ⟨nm, q, N, bs, bm, sn, sub, ab, col, dd, k0, k1, k2, k3, k5, hC, hbm⟩ := T.cls
  have hcl : ∃ cd, PySem.W.clsIn X.K C = some cd ∧ cd.mro = .ref C :: bm ∧ cd.hasDict = true := by
    refine ⟨⟨nm, bs, .ref C :: bm, N, q, true, sn, sub, ab, col, false⟩, ?_, rfl, rfl⟩
    unfold PySem.W.clsIn
    rw [hC]
  obtain ⟨cd, c1, c2, c3⟩ := hcl
  obtain ⟨t1, ho⟩ := exo_at I.hok e
  obtain ⟨mA, hns, rel⟩ := exd_at I.hok ed
  have hw := within_of rel
  obtain ⟨hp, g, dr, tk, os⟩ := s
  obtain ⟨oD, _, _, hoD, _, _⟩ := hns.count hw
  refine PySem.W.set_plain I.kIn (ox := { cls := .ref C, dict := some dx, data := .fields #[.ref t1, .none, .none, .none, .bool false, .none] }) (od := some oD) ⟨ho, rfl, rfl, hoD⟩ T.sa ?_
  refine osaG2 I.kIn ho hns hw (by rw [List.length_map]; omega) c1 (by rw [c2]; exact hbm) (fun z => ?_) T.obj T.pas c3 hno (fun h2 tk2 kp hn => ?_)
  · have z2 := T.obj
    rw [z] at z2
    cases z2
  have there : ∃ o, h2.get? dx = some o := hn.elim fun o z => z.elim fun _ z => z.elim fun _ z => ⟨o, z.1⟩
  exact h _ (I.write (t' := tk2) (x := dx) (e := dx) (o := exd dx ((f, y) :: fs)) (by rw [ed]; exact True.intro) (.inl rfl) kp there (exd_ok hn (relO_put ry rel)))
end
/-- self.f = e, a further field of such an error -/
def tFieldG2 (K : PySem.W.Frag) (f : Str) (to te : TE) : TS := fun D σ H => te σ H fun y H1 => to σ H1 fun x H2 => ∃ (a C dx : Addr) (fs : List (Str × V)) (B newId initId : String) (bmB : List Value), x = .ref a ∧ OvC K C B newId initId bmB ∧ PySem.W.findIn K (.ref C) f = some none ∧
  H2 a = some (exo a C (some dx)) ∧ H2 dx = some (exd dx fs) ∧ fs.length ≤ 900 ∧ D.nx σ (upd H2 dx (exd dx ((f, y) :: fs)))
section
variable {X : Cx} {o e : Expr} {to te : TE} {f : Str} {q1 pos : Pos}
theorem ps_fieldG2 (ho : PE X o to) (he : PE X e te) (hs : swapsWith e (some (.Attribute o f q1)) pos.line X.env = pure false := by rfl) : PS X (.Assign [.Attribute o f q1] e pos) (tFieldG2 X.K f to te) := by
  refine ⟨fun pins s σ H D I h => ?_⟩
  refine plainObj_wpAny_Assign_Attribute (thn (he.run pins s σ H _ I h) fun v s1 ⟨y, H1, I1, r1, z1⟩ => thn (ho.run pins s1 σ H1 _ I1 z1) fun u s2 ⟨x, H2, I2, r2, a, C, dx, fs, B, newId, initId, bmB, ex, T, hno, ea, ed, hl, z⟩ => ?_) hs
  subst ex
  obtain rfl : u = Value.ref a := r2
  exact fieldG2 T I2 ea ed hl hno r1 fun s' J => ⟨σ, _, J, z⟩
end
/-- __init__ of such an error: self.f = y; self.g = z -/
def spInit2 (C : Addr) (f g : Str) : Sp := fun vs H Q _ => ∃ (a : Addr) (y z : V), vs = [.ref a, y, z] ∧ H a = some (exo a C none) ∧ ∀ dx, H dx = none → dx ≠ a → Q .non (upd (upd (upd H dx (exd dx [(f, y)])) a (exo a C (some dx))) dx (exd dx [(g, z), (f, y)]))
/-- raising it: what is left to be shown -/
theorem err_read2 {C : Addr} {f g : Str} {H : Hp} {v u : V} {Q : XK} (h : ∀ d H', H d = none → Same H H' → H' d = some (.xd [(g, u), (f, v)]) → Q (.ref C) (some d) H') :
    [v, u].length ≤ 1000 ∧ ∀ a, H a = none → spInit2 C f g (.ref a :: ([v, u] ++ [])) (upd H a (exo a C none)) (fun x H2 => x = .non ∧ ∃ (d : Addr) (fs : List (Str × V)), H2 a = some (exo a C (some d)) ∧ H2 d = some (exd d fs) ∧ H d = none ∧ Q (.ref C) (some d) (upd (del H2 a) d (.xd fs))) (fun _ _ _ => False) := by
  refine ⟨by show 2 ≤ 1000; decide, fun a na => ⟨a, v, u, rfl, upd_same, fun dx nd ne => ⟨rfl, dx, [(g, u), (f, v)], by rw [upd_ne (Ne.symm ne), upd_same], upd_same, ?_, ?_⟩⟩⟩
  · rw [upd_ne ne] at nd
    exact nd
  · have nd' : H dx = none := by rw [upd_ne ne] at nd; exact nd
    refine h dx _ nd' (fun b o e => ?_) upd_same
    have nb : b ≠ dx := ne_of_none e nd'
    have nba : b ≠ a := ne_of_none e na
    rw [upd_ne nb, del_ne nba, upd_ne nb, upd_ne nba, upd_ne nb, upd_ne nba]
    exact e
/-- isinstance(e, (c1, c2, ..)) in the suite -/
def rIsST (K : PySem.W.Frag) (a : Addr) (cls : Value) (d : Option Addr) : List V → Hp → VK → Prop := fun xs H Q => ∃ (C dd tp : Addr) (fs : List (Str × V)) (cs : List V) (us : List Value) (b : Bool), xs = [.ref a, .ref tp] ∧ cls = .ref C ∧ d = some dd ∧ H dd = some (.xd fs) ∧ ExcC K C ∧ H tp = some (.tup cs) ∧ Paired ClsV cs us ∧
  PySem.W.kitAny K (.ref C) us = some b ∧ Q (.bl b) H
theorem cr_isST {X : Cx} {a : Addr} {oe : Obj} {cls : Value} {d : Option Addr} {pn : List (Addr × Obj)} (hz : Zc cls d oe) (hf : ∃ vs, oe.data = .fields vs) : CallR (X.suite a ((a, oe) :: pn)) (.builtin "isinstance") (rIsST X.K a cls d) := by
  intro pins s σ H xs ws Q I r h
  obtain ⟨C, dd, tp, fs, cs, us, b, rfl, rfl, rfl, hd, T, hT, k, e, q⟩ := h
  obtain ⟨u1, u2, rfl, r1, r2⟩ := vals2 r
  cases r1
  cases (show u2 = Value.ref tp from r2)
  obtain ⟨ha, _⟩ := I.pin (a, oe) (List.mem_append_left _ List.mem_cons_self)
  obtain ⟨vs, hv⟩ := hf
  obtain ⟨mA, hns, hr⟩ := (show ObjOk X.prog X.w H s.heap dd (.xd fs) from I.hok dd _ hd)
  obtain ⟨od, ho, hl⟩ := lookIn_ns hns
  obtain ⟨_, its, rv, ⟨oc, od', dt, sl⟩, h1, h2, n, h3⟩ := (show ObjOk X.prog X.w H s.heap tp (.tup cs) from I.hok tp _ hT)
  obtain rfl := ClsV.all k rv
  simp only at h2 h3
  subst h2 h3
  exact PySem.W.kia_tup (err_kit T) I.kIn ⟨oe, od, ha, hz.1, by unfold PySem.W.notCls; rw [hv] <;> rfl, by rw [hz.2]; exact ho⟩ h1 e (fun z => nomatch z) fun tk => ⟨.bl b, H, I.tok tk, rfl, q⟩
end Mo

namespace Mo
open PySem PySem.Spec PyProof.Rows L2
theorem ints_dx {N : Addr → Prop} {H : Hp} : ∀ ns : List Int, DxAll N H (ns.map V.int) (ns.map PyData.int)
  | [] => .nil
  | n :: r => .cons (.int n) (ints_dx r)
theorem tupI_dx {H : Hp} {p : Addr} {ns : List Int} (h : H p = some (.tup (ns.map V.int))) : Dx (fun _ => False) H (.ref p) (.tuple (ns.map PyData.int)) := .tup h (fun z => z) (ints_dx ns)
theorem same_ne (x : V) : V.bl (!decide (x = x)) = V.bl false := by simp
theorem same_eq (x : V) : V.bl (decide (x = x)) = V.bl true := by simp
/-- two equal tuples of flat values are not unlike -/
theorem neFl_self {K : PySem.W.Frag} {H : Hp} {p r : Addr} {xs : List V} {Q : VK} (hp : H p = some (.tup xs)) (hr : H r = some (.tup xs)) (hf : xs.all flatV = true) (q : Q (.bl false) H) : rNeFl K (.ref p) (.ref r) H Q :=
  ⟨xs, xs, ⟨p, r, rfl, rfl, hf, hf, .inr ⟨SqT.of hp, SqT.of hr⟩⟩, by rw [eqLs_self hf]; exact q⟩
theorem eqFl_self {K : PySem.W.Frag} {H : Hp} {p r : Addr} {xs : List V} {Q : VK} (hp : H p = some (.tup xs)) (hr : H r = some (.tup xs)) (hf : xs.all flatV = true) (q : Q (.bl true) H) : rEqFl K (.ref p) (.ref r) H Q :=
  ⟨xs, xs, ⟨p, r, rfl, rfl, hf, hf, .inr ⟨SqT.of hp, SqT.of hr⟩⟩, by rw [eqLs_self hf]; exact q⟩
theorem cnt_abs {a b : Int} {N : Addr → Prop} {H : Hp} {i : Int} {e : PyData} (h : Dx N H (.int i) e) (hn : cntB a b e = false) (h1 : a ≤ i) (h2 : i ≤ b) : False := by
  cases h
  have z : (decide (a ≤ i) && decide (i ≤ b)) = false := hn
  rw [decide_eq_true h1, decide_eq_true h2] at z
  cases z
theorem cnt_out {a b i : Int} (h : i < a ∨ b < i) : cntB a b (.int i) = false := by
  show (decide (a ≤ i) && decide (i ≤ b)) = false
  rcases h with h | h
  · rw [decide_eq_false (show ¬ a ≤ i by omega)]
    rfl
  · rw [decide_eq_false (show ¬ i ≤ b by omega), Bool.and_false]
/-- where a dict d is and the tables, what the lambda leaves -/
theorem ext_at {H H' : Hp} (s : LamX.ExtN H H') {b : Addr} {o : HO} (h : H b = some o) (n : ∀ ps, o ≠ .tbl ps) : H' b = some o := s b o h n
end Mo

/-! ### texts among data of any kind -/
namespace Mo
open PySem PySem.Spec PyProof.Rows L2
theorem bulk_mem : ∀ {ds : List PyData} {d : PyData}, d ∈ ds → d.bulk ≤ PyData.bulkAll ds
  | x :: ds, d, h => by
    simp only [PyData.bulkAll]
    rcases List.mem_cons.mp h with rfl | h
    · omega
    · have := bulk_mem h
      omega
theorem bulk_len (a : List PyData) : a.length ≤ PyData.bulkAll a := by
  induction a with
  | nil => exact Nat.zero_le _
  | cons x a ih =>
    simp only [PyData.bulkAll, List.length_cons]
    omega
theorem tup_dx : ∀ {N : Addr → Prop} {H : Hp} {x : V} {d : PyData}, Dx N H x d → isTupD d = true → ∃ a xs ds, x = .ref a ∧ d = .tuple ds ∧ H a = some (.tup xs) ∧ ¬ N a ∧ DxAll N H xs ds := by
  intro N H x d h e
  cases h with
  | tup h n t => exact ⟨_, _, _, rfl, rfl, h, n, t⟩
  | _ => exact absurd (show false = true from e) (by decide)
theorem str_dx : ∀ {N : Addr → Prop} {H : Hp} {x : V} {d : PyData}, Dx N H x d → isStrD d = true → ∃ cs : List Nat, x = .str (tx cs) ∧ d = .str (tx cs) := by
  intro N H x d h e
  cases h with
  | str z => exact ⟨z.cps.toList, rfl, rfl⟩
  | _ => exact absurd (show false = true from e) (by decide)
theorem notTup {d : PyData} (h : isTupD d = false) : textD d = false := by
  cases d <;> first | rfl | exact absurd (show true = false from h) (by decide)
/-- check_text: nothing, or InvalidText with the very value -/
def spChkT (C : Addr) : Sp := fun vs H Q E => ∃ (N : Addr → Prop) (x : V) (d : PyData), vs = [x] ∧ Dx N H x d ∧ d.bulk ≤ 1000000 ∧ (textD d = true → ∀ H', Same H H' → Q .non H') ∧
  (textD d = false → ∀ dd H', H dd = none → Same H H' → H' dd = some (.xd [("value", x)]) → E (.ref C) (some dd) H')
theorem text_ints {ns : List Int} (h : ∀ n ∈ ns, 0 ≤ n ∧ n ≤ 999999) (hl : ns.length ≤ 4096) : textD (.tuple (ns.map PyData.int)) = true := by
  show (decide ((ns.map PyData.int).length ≤ 4096) && (ns.map PyData.int).all letterD) = true
  rw [decide_eq_true (by rw [List.length_map]; exact hl), Bool.true_and, List.all_eq_true]
  intro d hd
  obtain ⟨n, hn, rfl⟩ := List.mem_map.mp hd
  show (decide (0 ≤ n) && decide (n ≤ 999999)) = true
  rw [decide_eq_true (h n hn).1, decide_eq_true (h n hn).2]
  rfl
theorem bulk_ints (ns : List Int) : PyData.bulkAll (ns.map PyData.int) = ns.length := by
  induction ns with
  | nil => rfl
  | cons n r ih =>
    rw [List.map_cons]
    simp only [PyData.bulkAll, PyData.bulk, List.length_cons]
    omega
end Mo
namespace Mo
open PySem PySem.Spec PyProof.Rows L2
/-- an error of the class C with the field f, value x, is let out -/
def Errs (C : Addr) (f : Str) (x : V) (H : Hp) (E : XK) : Prop := ∀ dd H', H dd = none → Same H H' → H' dd = some (.xd [(f, x)]) → E (.ref C) (some dd) H'
theorem Errs.same {C : Addr} {f : Str} {x : V} {H H1 : Hp} {E : XK} (h : Errs C f x H E) (s : Same H H1) : Errs C f x H1 E := fun dd H' nd s2 hd => h dd H' (s.free nd) (s.trans s2) hd
end Mo
namespace Mo
open PySem PySem.Spec PyProof.Rows L2
/-- a method of a list within a try: the reading names K itself -/
theorem pe_appK {X : Cx} {K : PySem.W.Frag} {o e : Expr} {to : TE} {t : TA} {apos cpos : Pos} (hK : X.K = K) (ho : PE X o to) (ha : PA X [e] t)
    (hbase : attributeBase o "append" X.env (eval o X.env) = eval o X.env := by rfl) (hfew : ((backTo cpos (starEach [e] X.env)).all (fun x => !x.1) && (backToKw cpos (keywordEach [] X.env)).all (fun x => x.1.isSome) && decide (([e] : List Expr).length + ([] : List Keyword).length + (if ([] : List Keyword).isEmpty then 0 else 1) < 30)) = true := by rfl)
    (hline : (apos.endLine == cpos.line) = true := by rfl) (hs : starEach [e] X.env = (false, eval e X.env) :: starEach [] X.env := by rfl) (hplain : (backTo cpos (starEach [] X.env)).any (·.1) = false := by rfl) :
    PE X (.Call (.Attribute o "append" apos) [e] [] cpos) (tBM K "list" rAppend to t) := by
  subst hK
  exact pe_bm PySem.F.plainAttrs_list PySem.F.slot_list_append PySem.F.type_list_append mt_append ho ha hbase hfew hline hs hplain
end Mo

namespace Mo
open PySem PySem.Spec PyProof.Rows L2
def topS (i : Nat) : Stmt := PySem.Challenge.pw_mustoccur_k64_letters_replaced.main.body.getD i (.Pass ⟨0, 0, 0, 0⟩)
abbrev sWall : Stmt := topS 0
theorem scWall : FnScope ["k"] ["k"] (defScope sWall) := ⟨rfl, rfl, rfl, by decide +kernel, rfl, by decide +kernel, by decide +kernel⟩
abbrev sIsPlainInteger : Stmt := topS 9
theorem scIsPlainInteger : FnScope ["value"] ["value"] (defScope sIsPlainInteger) := ⟨rfl, rfl, rfl, by decide +kernel, rfl, by decide +kernel, by decide +kernel⟩
abbrev sIsLetter : Stmt := topS 10
theorem scIsLetter : FnScope ["value"] ["value"] (defScope sIsLetter) := ⟨rfl, rfl, rfl, by decide +kernel, rfl, by decide +kernel, by decide +kernel⟩
abbrev sIsText : Stmt := topS 11
theorem scIsText : FnScope ["value", "letter"] ["value"] (defScope sIsText) := ⟨rfl, rfl, rfl, by decide +kernel, rfl, by decide +kernel, by decide +kernel⟩
abbrev sCheckText : Stmt := topS 12
theorem scCheckText : FnScope ["value"] ["value"] (defScope sCheckText) := ⟨rfl, rfl, rfl, by decide +kernel, rfl, by decide +kernel, by decide +kernel⟩
abbrev sIsImage : Stmt := topS 16
theorem scIsImage : FnScope ["value", "size"] ["value", "size"] (defScope sIsImage) := ⟨rfl, rfl, rfl, by decide +kernel, rfl, by decide +kernel, by decide +kernel⟩
abbrev sAreImages : Stmt := topS 17
theorem scAreImages : FnScope ["value", "image"] ["value"] (defScope sAreImages) := ⟨rfl, rfl, rfl, by decide +kernel, rfl, by decide +kernel, by decide +kernel⟩
abbrev sLPen : Stmt := topS 20
theorem scLPen : FnScope ["_law_script"] ["_law_script"] (defScope sLPen) := ⟨rfl, rfl, rfl, by decide +kernel, rfl, by decide +kernel, by decide +kernel⟩
abbrev sLDraw : Stmt := topS 21
theorem scLDraw : FnScope ["_law_pen_here", "_law_many", "_law_digit", "_law_index", "_law_cell", "_law_mix"] ["_law_pen_here", "_law_many"] (defScope sLDraw) := ⟨rfl, rfl, rfl, by decide +kernel, rfl, by decide +kernel, by decide +kernel⟩
abbrev sLPick : Stmt := topS 22
theorem scLPick : FnScope ["_law_pen_here", "_law_choices"] ["_law_pen_here", "_law_choices"] (defScope sLPick) := ⟨rfl, rfl, rfl, by decide +kernel, rfl, by decide +kernel, by decide +kernel⟩
abbrev sLTold : Stmt := topS 23
theorem scLTold : FnScope ["_law_call", "_law_heard", "e"] ["_law_call"] (defScope sLTold) := ⟨rfl, rfl, rfl, by decide +kernel, rfl, by decide +kernel, by decide +kernel⟩
abbrev sLImages : Stmt := topS 24
theorem scLImages : FnScope ["_law_pen_here", "_law_many", "_law_found", "_law_k", "_law_size", "_law_j", "_law_at"] ["_law_pen_here"] (defScope sLImages) := ⟨rfl, rfl, rfl, by decide +kernel, rfl, by decide +kernel, by decide +kernel⟩
abbrev sLReplaced : Stmt := topS 25
theorem scLReplaced : FnScope ["_law_images_here", "_law_text", "_law_found", "_law_letter"] ["_law_images_here", "_law_text"] (defScope sLReplaced) := ⟨rfl, rfl, rfl, by decide +kernel, rfl, by decide +kernel, by decide +kernel⟩
abbrev sLaw : Stmt := topS 26
theorem scLaw : FnScope ["_law_script", "_law_pen_here", "_law_turn", "_law_images_here", "_law_size", "_law_whole", "_law_at", "_law_beyond", "_law_odd", "_law_both", "_law_wrong", "_law_rules", "_law_text", "_law_k"] ["_law_script"] (defScope sLaw) := ⟨rfl, rfl, rfl, by decide +kernel, rfl, by decide +kernel, by decide +kernel⟩
abbrev sRulesInit : Stmt := inClass (topS 18) 0
theorem scRulesInit : FnScope ["self", "images"] ["self", "images"] (defScope sRulesInit) := ⟨rfl, rfl, rfl, by decide +kernel, rfl, by decide +kernel, by decide +kernel⟩
abbrev sRulesApply : Stmt := inClass (topS 18) 3
theorem scRulesApply : FnScope ["self", "text", "letter", "new"] ["self", "text"] (defScope sRulesApply) := ⟨rfl, rfl, rfl, by decide +kernel, rfl, by decide +kernel, by decide +kernel⟩
abbrev sInitInvalidText : Stmt := inClass (topS 2) 0
theorem scInitInvalidText : FnScope ["self", "value"] ["self", "value"] (defScope sInitInvalidText) := ⟨rfl, rfl, rfl, by decide +kernel, rfl, by decide +kernel, by decide +kernel⟩
abbrev sInitTooLarge : Stmt := inClass (topS 5) 0
theorem scInitTooLarge : FnScope ["self", "limit"] ["self", "limit"] (defScope sInitTooLarge) := ⟨rfl, rfl, rfl, by decide +kernel, rfl, by decide +kernel, by decide +kernel⟩
structure Txt (K : PySem.W.Frag) (mg : Str → Option Value) where
  cInvalidText : Addr
  eInvalidText : mg "InvalidText" = some (.ref cInvalidText)
  cInvalidCount : Addr
  eInvalidCount : mg "InvalidCount" = some (.ref cInvalidCount)
  cInvalidRules : Addr
  eInvalidRules : mg "InvalidRules" = some (.ref cInvalidRules)
  cTooLarge : Addr
  eTooLarge : mg "TooLarge" = some (.ref cTooLarge)
  cRules : Addr
  eRules : mg "Rules" = some (.ref cRules)
  iInvalidText : Addr
  dInvalidText : FuncData
  fInitInvalidText : Fun K "__init__" "InvalidText.__init__" sInitInvalidText iInvalidText dInvalidText
  bInitInvalidText : Binds K dInvalidText ["self", "value"] []
  xInvalidText : ErrC K cInvalidText iInvalidText "value"
  iTooLarge : Addr
  dTooLarge : FuncData
  fInitTooLarge : Fun K "__init__" "TooLarge.__init__" sInitTooLarge iTooLarge dTooLarge
  bInitTooLarge : Binds K dTooLarge ["self", "limit"] []
  xTooLarge : ErrG K cTooLarge iTooLarge "limit" "OverflowError" "OverflowError.__new__" "OverflowError.__init__" [.type "OverflowError", .type "ArithmeticError", .type "Exception", .type "BaseException", .type "object"]
  mInvalidTextInvalidRules : PySem.W.exmOne K (.ref cInvalidText) (.ref cInvalidRules) = some false
  mTooLargeInvalidRules : PySem.W.exmOne K (.ref cTooLarge) (.ref cInvalidRules) = some false
  mTooLargeInvalidText : PySem.W.exmOne K (.ref cTooLarge) (.ref cInvalidText) = some false
  mTooLargeInvalidCount : PySem.W.exmOne K (.ref cTooLarge) (.ref cInvalidCount) = some false
  oInvalidTextValueError : PySem.W.kitOne K (.ref cInvalidText) (.type "ValueError") = some true
  oInvalidTextInvalidCount : PySem.W.kitOne K (.ref cInvalidText) (.ref cInvalidCount) = some false
  oTooLargeOverflowError : PySem.W.kitOne K (.ref cTooLarge) (.type "OverflowError") = some true
  aWall : Addr
  dWall : FuncData
  fWall : Fun K "_wall" "_wall" sWall aWall dWall
  bWall : Binds K dWall ["k"] []
  gWall : mg "_wall" = some (.ref aWall)
  aIsPlainInteger : Addr
  dIsPlainInteger : FuncData
  fIsPlainInteger : Fun K "is_plain_integer" "is_plain_integer" sIsPlainInteger aIsPlainInteger dIsPlainInteger
  bIsPlainInteger : Binds K dIsPlainInteger ["value"] []
  gIsPlainInteger : mg "is_plain_integer" = some (.ref aIsPlainInteger)
  aIsLetter : Addr
  dIsLetter : FuncData
  fIsLetter : Fun K "is_letter" "is_letter" sIsLetter aIsLetter dIsLetter
  bIsLetter : Binds K dIsLetter ["value"] []
  gIsLetter : mg "is_letter" = some (.ref aIsLetter)
  aIsText : Addr
  dIsText : FuncData
  fIsText : Fun K "is_text" "is_text" sIsText aIsText dIsText
  bIsText : Binds K dIsText ["value"] []
  gIsText : mg "is_text" = some (.ref aIsText)
  aCheckText : Addr
  dCheckText : FuncData
  fCheckText : Fun K "check_text" "check_text" sCheckText aCheckText dCheckText
  bCheckText : Binds K dCheckText ["value"] []
  gCheckText : mg "check_text" = some (.ref aCheckText)
  aIsImage : Addr
  dIsImage : FuncData
  fIsImage : Fun K "is_image" "is_image" sIsImage aIsImage dIsImage
  bIsImage : Binds K dIsImage ["value", "size"] []
  gIsImage : mg "is_image" = some (.ref aIsImage)
  aAreImages : Addr
  dAreImages : FuncData
  fAreImages : Fun K "are_images" "are_images" sAreImages aAreImages dAreImages
  bAreImages : Binds K dAreImages ["value"] []
  gAreImages : mg "are_images" = some (.ref aAreImages)
  aLPen : Addr
  dLPen : FuncData
  fLPen : Fun K "_law_pen" "_law_pen" sLPen aLPen dLPen
  bLPen : Binds K dLPen ["_law_script"] []
  gLPen : mg "_law_pen" = some (.ref aLPen)
  aLDraw : Addr
  dLDraw : FuncData
  fLDraw : Fun K "_law_draw" "_law_draw" sLDraw aLDraw dLDraw
  bLDraw : Binds K dLDraw ["_law_pen_here", "_law_many"] []
  gLDraw : mg "_law_draw" = some (.ref aLDraw)
  aLPick : Addr
  dLPick : FuncData
  fLPick : Fun K "_law_pick" "_law_pick" sLPick aLPick dLPick
  bLPick : Binds K dLPick ["_law_pen_here", "_law_choices"] []
  gLPick : mg "_law_pick" = some (.ref aLPick)
  aLTold : Addr
  dLTold : FuncData
  fLTold : Fun K "_law_told" "_law_told" sLTold aLTold dLTold
  bLTold : Binds K dLTold ["_law_call"] []
  gLTold : mg "_law_told" = some (.ref aLTold)
  aLImages : Addr
  dLImages : FuncData
  fLImages : Fun K "_law_images" "_law_images" sLImages aLImages dLImages
  bLImages : Binds K dLImages ["_law_pen_here"] []
  gLImages : mg "_law_images" = some (.ref aLImages)
  aLReplaced : Addr
  dLReplaced : FuncData
  fLReplaced : Fun K "_law_replaced" "_law_replaced" sLReplaced aLReplaced dLReplaced
  bLReplaced : Binds K dLReplaced ["_law_images_here", "_law_text"] []
  gLReplaced : mg "_law_replaced" = some (.ref aLReplaced)
  aLaw : Addr
  dLaw : FuncData
  fLaw : Fun K "law" "law" sLaw aLaw dLaw
  bLaw : Binds K dLaw ["_law_script"] []
  gLaw : mg "law" = some (.ref aLaw)
  aRulesInit : Addr
  dRulesInit : FuncData
  fRulesInit : Fun K "__init__" "Rules.__init__" sRulesInit aRulesInit dRulesInit
  bRulesInit : Binds K dRulesInit ["self", "images"] []
  mRulesInit : Meth K cRules "__init__" aRulesInit
  aRulesApply : Addr
  dRulesApply : FuncData
  fRulesApply : Fun K "apply" "Rules.apply" sRulesApply aRulesApply dRulesApply
  bRulesApply : Binds K dRulesApply ["self", "text"] []
  mRulesApply : Meth K cRules "apply" aRulesApply
  clRules : Cls K cRules
  kRules : Mk K cRules aRulesInit
  nRules_table : NoAttr K cRules "table"
  cdLaw : Addr
  pdLaw : Addr
  kdLaw : dLaw.code = .ref cdLaw
  hdLaw : PySem.W.codeHdIn K cdLaw pdLaw = true
  npLaw : K.lookup pdLaw = none
  t_LONGEST_TEXT : Tok
  m_LONGEST_TEXT : mg "LONGEST_TEXT" = some (.int 4096 t_LONGEST_TEXT)
  t_GREATEST_LETTER : Tok
  m_GREATEST_LETTER : mg "GREATEST_LETTER" = some (.int 999999 t_GREATEST_LETTER)
  t_MOST_IMAGES : Tok
  m_MOST_IMAGES : mg "MOST_IMAGES" = some (.int 400 t_MOST_IMAGES)
  t_LONGEST_IMAGE : Tok
  m_LONGEST_IMAGE : mg "LONGEST_IMAGE" = some (.int 64 t_LONGEST_IMAGE)
  m_isinstance : mg "isinstance" = none
  m_bool : mg "bool" = none
  m_int : mg "int" = none
  m_all : mg "all" = none
  m_len : mg "len" = none
  m_tuple : mg "tuple" = none
  m_max : mg "max" = none
  m_list : mg "list" = none
  m_abs : mg "abs" = none
  m_OverflowError : mg "OverflowError" = none
  m_repr : mg "repr" = none
  m_ValueError : mg "ValueError" = none
  m_range : mg "range" = none
  m_min : mg "min" = none
  m_sum : mg "sum" = none
end Mo

namespace Mo
open PySem PySem.Spec PyProof.Rows L2
section
variable {P : Program} {w : World} {K : PySem.W.Frag} {mg : Str → Option Value} {base : Heap}
def spPlain : Sp := fun vs H Q _ => ∃ i : Int, vs = [.int i] ∧ ∀ H', Same H H' → Q (.bl true) H'
theorem ok_plain {k : Nat} (T : Txt K mg) : FnOk P w K mg base CX0 (k + 1) T.aIsPlainInteger T.dIsPlainInteger ["value"] spPlain := by
  refine T.fIsPlainInteger.ok scIsPlainInteger (fun vs H Q E h => ?_) (fun cdv A outer s H vs Q E hr h => ?_)
  · obtain ⟨i, rfl, _⟩ := h
    rfl
  · obtain ⟨i, rfl, q⟩ := h
    refine ⟨_, (pss_one (ps_ret (pe_and (pe_callB call_isi (by rfl) T.m_isinstance (by decide +kernel) (pa_cons (pv 0) (pa_cons (pe_bltn (v := .ty "int") (by rfl) T.m_int (by decide +kernel) rfl) pa_nil))) (pe_one (pe_not (pe_callB call_isi (by rfl) T.m_isinstance (by decide +kernel) (pa_cons (pv 0) (pa_cons (pe_bltn (v := .ty "bool") (by rfl) T.m_bool (by decide +kernel) rfl) pa_nil)))))))), ?_⟩
    refine ⟨_, rfl, _, _, .type "int", .type "int", true, rfl, .ty "int", .base (.int _), kit_ty (by decide +kernel), true, rfl, iteT ?_⟩
    refine ⟨_, rfl, _, _, .type "int", .type "bool", false, rfl, .ty "bool", .base (.int _), kit_ty (by decide +kernel), false, rfl, q H (Same.refl _)⟩
end
end Mo

/-! ### lists of texts, written texts, pens and tables -/
namespace Mo
open PySem PySem.Spec PyProof.Rows L2
theorem Src.here {H : Hp} {d c : Addr} {t : Nat} (h : Src H d c t) : H d ≠ none := by
  obtain ⟨_, _, h, _⟩ := h
  rw [h]
  exact Option.some_ne_none _
theorem Src.tabs {H H' : Hp} {d c : Addr} {t : Nat} (h : Src H d c t) (s : LamX.ExtN H H') : Src H' d c t := by
  obtain ⟨ns, r, h1, h2, h3⟩ := h
  exact ⟨ns, r, s _ _ h1 (fun _ z => nomatch z), s _ _ h2 (fun _ z => nomatch z), h3⟩
theorem Src.dict {H : Hp} {d c : Addr} {t : Nat} (h : Src H d c t) : ∃ kvs, H d = some (.dK kvs) := by
  obtain ⟨ns, r, h1, _⟩ := h
  exact ⟨_, h1⟩
theorem Src.tab {T : List (Addr × Str)} {H H' : Hp} {d c : Addr} {t : Nat} (h : Src H d c t) (tb : LamX.Tabs T H) (b : But d H H') : LamX.Tabs T H' := h.dict.elim fun _ e => Tabs.but tb e b
theorem Tabs.put {T : List (Addr × Str)} {H : Hp} {l : Addr} {xs : List V} {o : HO} (t : LamX.Tabs T H) (hl : H l = some (.lst xs)) : LamX.Tabs T (upd H l o) := fun p hp => by
  obtain ⟨ps, h1, h2, h3⟩ := t p hp
  have n1 : p.1 ≠ l := fun z => by
    rw [z, hl] at h1
    cases h1
  refine ⟨ps, by rw [upd_ne n1]; exact h1, h2, fun pos cv hc => ?_⟩
  obtain ⟨c, e1, e2⟩ := h3 pos cv hc
  have n2 : c ≠ l := fun z => by
    rw [z, hl] at e2
    cases e2
  exact ⟨c, e1, by rw [upd_ne n2]; exact e2⟩
def nat2 (ns : List Nat) : List Int := ns.map fun n : Nat => (n : Int)
theorem nat2_len (ns : List Nat) : (nat2 ns).length = ns.length := List.length_map ..
/-- letters as they may be, in a text as long as it may be -/
def Okn (ns : List Nat) : Prop := (∀ n ∈ ns, n ≤ 999999) ∧ ns.length ≤ 4096
/-- v is a text -/
def TxtAt (H : Hp) (v : V) : Prop := ∃ (p : Addr) (ns : List Nat), v = .ref p ∧ H p = some (.tup ((nat2 ns).map V.int)) ∧ Okn ns
theorem TxtAt.same {H H' : Hp} {v : V} (h : TxtAt H v) (s : Same H H') : TxtAt H' v := h.elim fun p z => z.elim fun ns z => ⟨p, ns, z.1, s _ _ z.2.1, z.2.2⟩
theorem TxtAt.tabs {H H' : Hp} {v : V} (h : TxtAt H v) (s : LamX.ExtN H H') : TxtAt H' v := h.elim fun p z => z.elim fun ns z => ⟨p, ns, z.1, s _ _ z.2.1 (fun _ z => nomatch z), z.2.2⟩
theorem TxtAt.but {H H' : Hp} {v : V} {d c : Addr} {t : Nat} (h : TxtAt H v) (src : Src H d c t) (s : But d H H') : TxtAt H' v := by
  obtain ⟨p, ns, e, hp, ok⟩ := h
  obtain ⟨kvs, hd⟩ := src.dict
  exact ⟨p, ns, e, s _ _ (ne_of hp hd (by intro z; cases z)) hp, ok⟩
theorem TxtAt.put {H : Hp} {v : V} {l : Addr} {xs : List V} {o : HO} (h : TxtAt H v) (hl : H l = some (.lst xs)) : TxtAt (upd H l o) v := by
  obtain ⟨p, ns, e, hp, ok⟩ := h
  exact ⟨p, ns, e, by rw [upd_ne (ne_of hp hl (by intro z; cases z))]; exact hp, ok⟩
theorem dx_ints {N : Addr → Prop} {H : Hp} : ∀ {xs : List V} {ns : List Int}, DxAll N H xs (ns.map PyData.int) → xs = ns.map V.int
  | [], [], _ => rfl
  | [], _ :: _, h => nomatch h
  | _ :: _, [], h => nomatch h
  | x :: xs, n :: ns, .cons a b => by
    cases a
    rw [dx_ints b]
    rfl
theorem txt_of {N : Addr → Prop} {H : Hp} {v : V} {ns : List Nat} (h : Dx N H v (.tuple ((nat2 ns).map PyData.int))) (ok : Okn ns) : TxtAt H v := by
  obtain ⟨a, xs, e, ha, _, hx⟩ := tpl_dx h
  rw [dx_ints hx] at ha
  exact ⟨a, ns, e, ha, ok⟩
/-- t * n, written -/
theorem dx_rep {N : Addr → Prop} {H : Hp} {xs : List V} {ds : List PyData} (h : DxAll N H xs ds) : ∀ n : Nat, DxAll N H (List.replicate n xs).flatten (List.replicate n ds).flatten
  | 0 => .nil
  | n + 1 => by
    rw [List.replicate_succ, List.replicate_succ, List.flatten_cons, List.flatten_cons]
    exact h.append (dx_rep h n)
def repD (n : Nat) (ds : List PyData) : PyData := .tuple (List.replicate n ds).flatten
theorem lit_rep {K : PySem.W.Frag} {te : TE} {ds : List PyData} {i : Int} (n : Nat) (h : LitE te (.tuple ds)) (hi : i = (n : Int)) (hne : ds ≠ []) (hl : ds.length ≤ 10) (h2 : 2 ≤ n) (hn : n ≤ 100000) : LitE (tOp (rRepN K) te (tC (.int i))) (repD n ds) := fun σ H Q q => h σ H _ fun H1 v s1 hv => by
  obtain ⟨a, xs, rfl, ha, na, hx⟩ := tpl_dx hv
  have el := hx.length
  subst hi
  refine ⟨a, n, xs, rfl, rfl, SqT.of ha, fun z => ?_, h2, hn, by omega, fun p np => ?_⟩
  · rw [z] at el
    exact hne (List.eq_nil_of_length_eq_zero el.symm)
  · have s2 := same_new (o := .tup (List.replicate n xs).flatten) np
    exact q _ _ (s1.trans s2) (.tup upd_same (fun z => z (s1.free np)) (dx_rep (hx.same s2) n))
/-- (x,) * i, written -/
theorem lit_rep1 {K : PySem.W.Frag} {x i : Int} (h : 2 ≤ i ∧ i ≤ 100000) : LitE (tOp (rRepN K) (tTup (tCons (tC (.int x)) tNil)) (tC (.int i))) (repD i.toNat [.int x]) :=
  lit_rep i.toNat (lit_tup (lit_cons lit_int lit_nil) (by show 1 ≤ 1000; decide)) (by omega) (fun z => by cases z) (by show 1 ≤ 10; decide) (by omega) (by omega)
theorem rep_one {α : Type} (x : α) : ∀ n : Nat, (List.replicate n [x]).flatten = List.replicate n x
  | 0 => rfl
  | n + 1 => by
    rw [List.replicate_succ, List.flatten_cons, rep_one x n, List.replicate_succ]
    rfl
theorem rep_nat2 (n k : Nat) : (List.replicate n [PyData.int ((k : Nat) : Int)]).flatten = (nat2 (List.replicate n k)).map PyData.int := by
  rw [rep_one, nat2, List.map_replicate, List.map_replicate]
theorem repD_nat2 (n k : Nat) : repD n [PyData.int ((k : Nat) : Int)] = .tuple ((nat2 (List.replicate n k)).map PyData.int) := congrArg PyData.tuple (rep_nat2 n k)
theorem ok_rep {n k : Nat} (hn : n ≤ 4096) (hk : k ≤ 999999) : Okn (List.replicate n k) := ⟨fun m hm => by rw [(List.mem_replicate.mp hm).2]; exact hk, by rw [List.length_replicate]; exact hn⟩
/-! what repr says of texts and lists of one text -/
theorem txt_dx {H : Hp} {p : Addr} {ns : List Nat} (h : H p = some (.tup ((nat2 ns).map V.int))) : Dx (fun _ => False) H (.ref p) (.tuple ((nat2 ns).map PyData.int)) := tupI_dx h
theorem nat2_dig {ns : List Nat} (ok : Okn ns) : ∀ n ∈ nat2 ns, n.natAbs < 10 ^ 20 := fun n hn => by
  obtain ⟨m, hm, rfl⟩ := List.mem_map.mp hn
  have := ok.1 m hm
  omega
theorem txt_fit {ns : List Nat} (ok : Okn ns) : Fit 20 10000 1 (.tuple ((nat2 ns).map PyData.int)) := (FitAll.tup ((ints_fitAll (B := 20) (nat2_dig ok)).mono (Nat.le_refl _) (by rw [nat2_len]; have := ok.2; omega) (Nat.le_refl _)))
theorem one_fit {ns : List Nat} (ok : Okn ns) : Fit 20 10001 2 (.list [.tuple ((nat2 ns).map PyData.int)]) := FitAll.lst (txt_fit ok).one
theorem one_dx {H : Hp} {l p : Addr} {ns : List Nat} (hl : H l = some (.lst [.ref p])) (hp : H p = some (.tup ((nat2 ns).map V.int))) : Dx (fun _ => False) H (.ref l) (.list [.tuple ((nat2 ns).map PyData.int)]) := .lst hl (fun z => z) (.cons (txt_dx hp) .nil)
theorem txt_text {ns : List Nat} (ok : Okn ns) : textD (.tuple ((nat2 ns).map PyData.int)) = true := text_ints (fun n hn => by
  obtain ⟨m, hm, rfl⟩ := List.mem_map.mp hn
  have := ok.1 m hm
  omega) (by rw [nat2_len]; exact ok.2)
theorem txt_bulk {ns : List Nat} (ok : Okn ns) : (PyData.tuple ((nat2 ns).map PyData.int)).bulk ≤ 1000000 := Nat.le_trans (txt_fit ok).bulk (by decide)
theorem str_fit {cs : List Nat} (h : ∀ c ∈ cs, c < 128) (hl : cs.length ≤ 100000) : Fit 20 100000 1 (.str (tx cs)) := ⟨by simp only [okD]; exact h, by simp only [PyData.bulk]; rw [tx_size]; exact hl, by simp only [PyData.depth]; exact Nat.zero_le _⟩
end Mo

/-! ### rule sets: the mathematics -/
namespace Mo
/-- images of letters: none empty, of letters that have images -/
structure Ims (ims : List (List Nat)) : Prop where
  ne : ∀ im ∈ ims, im ≠ []
  lt : ∀ im ∈ ims, ∀ l ∈ im, l < ims.length
  few : ∀ im ∈ ims, im.length ≤ 64
  n1 : 1 ≤ ims.length
  n2 : ims.length ≤ 400
def img (ims : List (List Nat)) (l : Nat) : List Nat := ims.getD l []
/-- what a letter becomes -/
def word (ims : List (List Nat)) : Nat → Nat → List Nat
  | 0, l => [l]
  | s + 1, l => (img ims l).flatMap (word ims s)
def len (ims : List (List Nat)) (s l : Nat) : Nat := (word ims s l).length
theorem len_succ (ims : List (List Nat)) (s l : Nat) : len ims (s + 1) l = ((img ims l).map (len ims s)).sum := by
  unfold len
  show ((img ims l).flatMap (word ims s)).length = _
  rw [List.length_flatMap]
theorem img_mem {ims : List (List Nat)} {l : Nat} (h : l < ims.length) : img ims l ∈ ims := by
  unfold img
  rw [List.getD_eq_getElem?_getD, List.getElem?_eq_getElem h]
  exact List.getElem_mem h
theorem img_at {ims : List (List Nat)} {l : Nat} (h : l < ims.length) : ims[l]? = some (img ims l) := by
  unfold img
  rw [List.getD_eq_getElem?_getD, List.getElem?_eq_getElem h]
  rfl
theorem word_lt {ims : List (List Nat)} (ok : Ims ims) : ∀ (s : Nat) {l : Nat}, l < ims.length → ∀ x ∈ word ims s l, x < ims.length
  | 0, l, h, x, hx => by
    rw [List.mem_singleton.mp hx]
    exact h
  | s + 1, l, h, x, hx => by
    obtain ⟨a, ha, hx⟩ := List.mem_flatMap.mp hx
    exact word_lt ok s (ok.lt _ (img_mem h) a ha) x hx
theorem len_pos {ims : List (List Nat)} (ok : Ims ims) : ∀ (s : Nat) {l : Nat}, l < ims.length → 0 < len ims s l
  | 0, _, _ => Nat.one_pos
  | s + 1, l, h => by
    rw [len_succ]
    cases e : img ims l with
    | nil => exact absurd e (ok.ne _ (img_mem h))
    | cons a r =>
      have := len_pos ok s (ok.lt _ (img_mem h) a (by rw [e]; exact List.mem_cons_self))
      rw [List.map_cons, List.sum_cons]
      omega
/-- the last replacement -/
theorem word_last (ims : List (List Nat)) : ∀ (s l : Nat), word ims (s + 1) l = (word ims s l).flatMap (img ims)
  | 0, l => by
    show (img ims l).flatMap (fun a => [a]) = [l].flatMap (img ims)
    simp
  | s + 1, l => by
    show (img ims l).flatMap (word ims (s + 1)) = ((img ims l).flatMap (word ims s)).flatMap (img ims)
    rw [List.flatMap_assoc]
    exact congrArg (List.flatMap · (img ims l)) (funext fun a => word_last ims s a)
/-- the letter of the image that holds an index, and the index in it -/
def within (r : Nat → Nat) : List Nat → Nat → Nat × Nat
  | [], i => (0, i)
  | a :: t, i => if i < r a then (a, i) else within r t (i - r a)
def letAt (ims : List (List Nat)) : Nat → Nat → Nat → Nat
  | 0, l, _ => l
  | s + 1, l, i => letAt ims s (within (len ims s) (img ims l) i).1 (within (len ims s) (img ims l) i).2
theorem within_in {r : Nat → Nat} : ∀ {im : List Nat} {i : Nat}, i < (im.map r).sum → (within r im i).1 ∈ im ∧ (within r im i).2 < r (within r im i).1
  | [], i, h => absurd h (Nat.not_lt_zero _)
  | a :: t, i, h => by
    show (if i < r a then (a, i) else within r t (i - r a)).1 ∈ a :: t ∧ _
    by_cases c : i < r a
    · have e : within r (a :: t) i = (a, i) := if_pos c
      rw [e, if_pos c]
      exact ⟨List.mem_cons_self, c⟩
    · have e : within r (a :: t) i = within r t (i - r a) := if_neg c
      rw [e, if_neg c]
      rw [List.map_cons, List.sum_cons] at h
      obtain ⟨h1, h2⟩ := within_in (r := r) (im := t) (i := i - r a) (by omega)
      exact ⟨List.mem_cons_of_mem _ h1, h2⟩
theorem within_flat {f : Nat → List Nat} : ∀ {im : List Nat} {i : Nat}, i < (im.map fun a => (f a).length).sum → (im.flatMap f)[i]? = (f (within (fun a => (f a).length) im i).1)[(within (fun a => (f a).length) im i).2]?
  | [], i, h => absurd h (Nat.not_lt_zero _)
  | a :: t, i, h => by
    rw [List.flatMap_cons]
    by_cases c : i < (f a).length
    · have e : within (fun a => (f a).length) (a :: t) i = (a, i) := if_pos c
      rw [e, List.getElem?_append_left c]
    · have e : within (fun a => (f a).length) (a :: t) i = within (fun a => (f a).length) t (i - (f a).length) := if_neg c
      rw [List.map_cons, List.sum_cons] at h
      rw [e, List.getElem?_append_right (by omega), within_flat (by omega)]
theorem letAt_word {ims : List (List Nat)} (ok : Ims ims) : ∀ (s : Nat) {l i : Nat}, l < ims.length → i < len ims s l → (word ims s l)[i]? = some (letAt ims s l i)
  | 0, l, i, h, hi => by
    have : i = 0 := by
      have : i < 1 := hi
      omega
    subst this
    rfl
  | s + 1, l, i, h, hi => by
    rw [len_succ] at hi
    have w := within_in hi
    have f := within_flat (f := word ims s) hi
    show ((img ims l).flatMap (word ims s))[i]? = _
    rw [f]
    exact letAt_word ok s (ok.lt _ (img_mem h) _ w.1) w.2
theorem letAt_lt {ims : List (List Nat)} (ok : Ims ims) {s l i : Nat} (h : l < ims.length) (hi : i < len ims s l) : letAt ims s l i < ims.length :=
  word_lt ok s h _ (List.mem_of_getElem? (letAt_word ok s h hi))
/-- the row of s replacements -/
def rowL (ims : List (List Nat)) (s : Nat) : List Nat := (List.range ims.length).map (len ims s)
theorem rowL_at {ims : List (List Nat)} {s l : Nat} (h : l < ims.length) : (rowL ims s)[l]? = some (len ims s l) := by
  unfold rowL
  rw [List.getElem?_map, List.getElem?_range h]
  rfl
theorem rowL_len (ims : List (List Nat)) (s : Nat) : (rowL ims s).length = ims.length := by
  unfold rowL
  rw [List.length_map, List.length_range]
/-- where the image of the letter at m begins after the last replacement -/
def hereL (ims : List (List Nat)) (W : List Nat) (m : Nat) : Nat := ((W.take m).map fun a => (img ims a).length).sum
theorem last_at {ims : List (List Nat)} {W : List Nat} {m k a : Nat} (hm : W[m]? = some a) (hk : k < (img ims a).length) : (W.flatMap (img ims))[hereL ims W m + k]? = (img ims a)[k]? := by
  have hlt := (List.getElem?_eq_some_iff.mp hm).1
  have e : W = W.take m ++ a :: W.drop (m + 1) := by
    have e2 : W[m] = a := (List.getElem?_eq_some_iff.mp hm).2
    rw [← e2, ← List.drop_eq_getElem_cons hlt, List.take_append_drop]
  have hl : ((W.take m).flatMap (img ims)).length = hereL ims W m := by
    rw [List.length_flatMap]
    rfl
  have e3 : W.flatMap (img ims) = (W.take m).flatMap (img ims) ++ (img ims a ++ (W.drop (m + 1)).flatMap (img ims)) := by
    conv => lhs; rw [e]
    rw [List.flatMap_append, List.flatMap_cons]
  rw [e3, List.getElem?_append_right (by omega), hl, show hereL ims W m + k - hereL ims W m = k by omega, List.getElem?_append_left hk]
theorem here_succ {ims : List (List Nat)} {W : List Nat} {m a : Nat} (hm : W[m]? = some a) : hereL ims W (m + 1) = hereL ims W m + (img ims a).length := by
  unfold hereL
  rw [List.take_add_one, hm, List.map_append, List.sum_append]
  simp
theorem here_lt {ims : List (List Nat)} {W : List Nat} {m k a : Nat} (hm : W[m]? = some a) (hk : k < (img ims a).length) : hereL ims W m + k < (W.flatMap (img ims)).length := by
  have := last_at (ims := ims) hm hk
  rw [List.getElem?_eq_getElem hk] at this
  exact (List.getElem?_eq_some_iff.mp this).1
/-- where the letters after the first k parts begin -/
def partL (ims : List (List Nat)) (s : Nat) (im : List Nat) (k : Nat) : Nat := ((im.take k).map (len ims s)).sum
end Mo

/-! ### max of a tuple of ints -/
namespace Mo
open PySem PySem.Spec PyProof.Rows L2
def rMaxT (K : PySem.W.Frag) : List V → Hp → VK → Prop := fun vs H Q => ∃ (a : Addr) (ns : List Int), vs = [V.ref a] ∧ SqT K H a (ns.map V.int) ∧ 0 < ns.length ∧ ∀ m, m ∈ ns → (∀ y, y ∈ ns → y ≤ m) → Q (.int m) H
theorem cr_maxT {X : Cx} (hc : X.calm = true) : CallR X (.builtin "max") (rMaxT X.K) := by
  intro pins s σ H vs us Q I r h
  obtain ⟨a, ns, rfl, hs, n0, q⟩ := h
  obtain ⟨its, rv, pt, _⟩ := I.tuple hs
  have pt : s.heap.IsTuple a its.toArray := pt
  obtain ⟨zs, ez⟩ := rv.ints.allInts.items
  have en : numsOf (intItems zs).toList = ns := by
    rw [← ez]
    exact rv.ints.numsOf
  rw [nums_intItems] at en
  subst en
  rw [ez] at pt
  have n1 : 0 < zs.size := by simpa using n0
  have la : a < s.heap.objs.size := by
    obtain ⟨_, z, _⟩ := pt
    exact Heap.lt_size z
  rw [Vals.ref1 r]
  refine call_max_walk (wpAny_pyIter_tuple pt ⟨s.heap.objs.size, [s.heap.objs.size, a], [s.heap.objs.size], _, _, _, _, rfl, Walks.tuple (A := X.A.in1) (I.ok.hd hc) s.heap.objs.size a (Nat.ne_of_lt la) (intItems zs), ?_, fun b hb => ?_, ?_, CmpOf.ints_gt (numAt zs) (fun _ _ z => intItems_at z), fun v h' tk hP hk => ?_⟩)
  · exact ⟨⟨_, Heap.get?_push_size _ rfl, rfl, rfl⟩, pt.push _⟩
  · show b < (s.heap.push _).objs.size
    rw [Heap.size_push]
    rcases List.mem_cons.mp hb with z | hb
    · rw [z]
      exact Nat.lt_succ_self _
    · rw [List.mem_singleton.mp hb]
      exact Nat.lt_succ_of_lt la
  · simpa [intItems] using n1
  · have hP : (intItems zs)[argBest (fun i j => decide (numAt zs i > numAt zs j)) ((intItems zs).size - 1)]? = some v := hP
    have es : (intItems zs).size - 1 = zs.size - 1 := by simp [intItems]
    rw [es] at hP
    obtain ⟨t, rfl⟩ := intItems_at hP
    obtain ⟨b1, b2⟩ := argBest_gt (numAt zs) (zs.size - 1)
    refine ⟨.int _, H, I.kept (t' := tk) (fun b o z => hk b o (fun hm => ?_) (Heap.get?_push_of_some _ z)), ⟨t, rfl⟩, q _ ?_ fun y hy => ?_⟩
    · have z1 := Heap.lt_size z
      rw [List.mem_singleton.mp hm] at z1
      exact absurd z1 (Nat.lt_irrefl _)
    · rw [numAt_eq]
      exact PySem.getD_mem (by rw [List.length_map, Array.length_toList]; omega)
    · obtain ⟨j, hj, rfl⟩ := mem_getD hy
      rw [List.length_map, Array.length_toList] at hj
      rw [← numAt_eq]
      exact b2 j (by omega)
theorem cr_sumK {X : Cx} {K : PySem.W.Frag} (h : X.K = K) (hc : X.calm = true) : CallR X (.builtin "sum") (rSum K) := by
  subst h
  exact cr_sum hc
end Mo

/-! ### all but the pen's dict and the tables stands: one relation for what is made, drawn and called -/
namespace Mo
open PySem PySem.Spec PyProof.Rows L2
def Kp (d : Addr) (H H' : Hp) : Prop := ∀ b o, b ≠ d → H b = some o → (∀ ps, o ≠ .tbl ps) → H' b = some o
theorem Kp.refl (d : Addr) (H : Hp) : Kp d H H := fun _ _ _ e _ => e
theorem Kp.trans {d : Addr} {H H' H2 : Hp} (h : Kp d H H') (g : Kp d H' H2) : Kp d H H2 := fun b o n e t => g b o n (h b o n e t) t
theorem Kp.same {d : Addr} {H H' : Hp} (s : Same H H') : Kp d H H' := fun b o _ e _ => s b o e
theorem Kp.but {d : Addr} {H H' : Hp} (s : But d H H') : Kp d H H' := fun b o n e _ => s b o n e
theorem Kp.tabs {d : Addr} {H H' : Hp} (s : LamX.ExtN H H') : Kp d H H' := fun b o _ e t => s b o e t
theorem Kp.lst {d b : Addr} {H H' : Hp} {xs : List V} (s : Kp d H H') (n : b ≠ d) (h : H b = some (.lst xs)) : H' b = some (.lst xs) := s _ _ n h fun _ z => nomatch z
theorem Kp.tup {d b : Addr} {H H' : Hp} {xs : List V} (s : Kp d H H') (n : b ≠ d) (h : H b = some (.tup xs)) : H' b = some (.tup xs) := s _ _ n h fun _ z => nomatch z
mutual
theorem Dx.kp {d : Addr} {H H' : Hp} (s : Kp d H H') : ∀ {v : V} {e : PyData}, Dx (fun x => x = d) H v e → Dx (fun x => x = d) H' v e
  | _, _, .non => .non
  | _, _, .bl b => .bl b
  | _, _, .int i => .int i
  | _, _, .str x => .str x
  | _, _, .lst h n t => .lst (s _ _ n h fun _ z => nomatch z) n (DxAll.kp s t)
  | _, _, .tup h n t => .tup (s _ _ n h fun _ z => nomatch z) n (DxAll.kp s t)
  | _, _, .dct h n t => .dct (s _ _ n h fun _ z => nomatch z) n (DxAll.kp s t)
theorem DxAll.kp {d : Addr} {H H' : Hp} (s : Kp d H H') : ∀ {v : List V} {e : List PyData}, DxAll (fun x => x = d) H v e → DxAll (fun x => x = d) H' v e
  | _, _, .nil => .nil
  | _, _, .cons h t => .cons (Dx.kp s h) (DxAll.kp s t)
end
theorem ne_dk {d b : Addr} {H : Hp} {kvs : List (Key × V)} {o : HO} (h : H d = some (.dK kvs)) (hb : H b = some o) (n : ∀ kvs, o ≠ .dK kvs) : b ≠ d := fun z => by
  rw [z, h] at hb
  exact n _ (Option.some.inj hb).symm
end Mo

/-! ### rule sets: where they stand -/
namespace Mo
open PySem PySem.Spec PyProof.Rows L2
theorem n2v_len (im : List Nat) : ((nat2 im).map V.int).length = im.length := by rw [List.length_map, nat2_len]
theorem n2v_at {im : List Nat} {k n : Nat} (h : im[k]? = some n) : ((nat2 im).map V.int)[k]? = some (.int (n : Int)) := by
  unfold nat2
  rw [List.getElem?_map, List.getElem?_map, h]
  rfl
theorem n2v_get {im : List Nat} {k : Nat} {v : V} (h : ((nat2 im).map V.int)[k]? = some v) : ∃ n, im[k]? = some n ∧ v = .int (n : Int) := by
  unfold nat2 at h
  rw [List.getElem?_map, List.getElem?_map] at h
  cases e : im[k]? with
  | none => rw [e] at h; cases h
  | some n =>
    rw [e] at h
    exact ⟨n, rfl, (Option.some.inj h).symm⟩
theorem n2v_snoc (im : List Nat) (n : Nat) : (nat2 (im ++ [n])).map V.int = (nat2 im).map V.int ++ [.int (n : Int)] := by
  unfold nat2
  rw [List.map_append, List.map_append]
  rfl
theorem nat2_sum : ∀ l : List Nat, (nat2 l).sum = ((l.sum : Nat) : Int)
  | [] => rfl
  | n :: r => by
    show (n : Int) + (nat2 r).sum = _
    rw [nat2_sum r, List.sum_cons]
    omega
/-- tuples (or lists) of letters, one after the other -/
structure ImsAt (H : Hp) (ps : List Addr) (ims : List (List Nat)) : Prop where
  len : ps.length = ims.length
  el : ∀ (k : Nat) (p : Addr) (im : List Nat), ps[k]? = some p → ims[k]? = some im → H p = some (.tup ((nat2 im).map V.int))
theorem ImsAt.same {H H' : Hp} {ps : List Addr} {ims : List (List Nat)} (h : ImsAt H ps ims) (s : Same H H') : ImsAt H' ps ims := ⟨h.len, fun k p im a b => s _ _ (h.el k p im a b)⟩
theorem ImsAt.by {H H' : Hp} {ps : List Addr} {ims : List (List Nat)} (h : ImsAt H ps ims) (s : ∀ p xs, H p = some (.tup xs) → H' p = some (.tup xs)) : ImsAt H' ps ims := ⟨h.len, fun k p im a b => s _ _ (h.el k p im a b)⟩
/-- the tuple of letter l -/
theorem ImsAt.at {H : Hp} {ps : List Addr} {ims : List (List Nat)} (h : ImsAt H ps ims) {l : Nat} (hl : l < ims.length) : ∃ p, ps[l]? = some p ∧ H p = some (.tup ((nat2 (img ims l)).map V.int)) := by
  have e : ps[l]? = some (ps[l]'(by rw [h.len]; exact hl)) := List.getElem?_eq_getElem (by rw [h.len]; exact hl)
  exact ⟨_, e, h.el l _ _ e (img_at hl)⟩
/-- a rule set -/
def RlsAt (C : Addr) (H : Hp) (r : Addr) (ims : List (List Nat)) : Prop := ∃ (dx t : Addr) (ps : List Addr), H r = some (.ins C dx [(("table" : Str), .ref t)]) ∧ H t = some (.tup (ps.map V.ref)) ∧ ImsAt H ps ims
theorem RlsAt.same {C : Addr} {H H' : Hp} {r : Addr} {ims : List (List Nat)} (h : RlsAt C H r ims) (s : Same H H') : RlsAt C H' r ims := by
  obtain ⟨dx, t, ps, h1, h2, h3⟩ := h
  exact ⟨dx, t, ps, s _ _ h1, s _ _ h2, h3.same s⟩
theorem RlsAt.but {C d c : Addr} {n : Nat} {H H' : Hp} {r : Addr} {ims : List (List Nat)} (h : RlsAt C H r ims) (x : Nxt H d c n) (s : But d H H') : RlsAt C H' r ims := by
  obtain ⟨dx, t, ps, h1, h2, h3⟩ := h
  obtain ⟨_, _, hd, _⟩ := x
  exact ⟨dx, t, ps, s _ _ (ne_dk hd h1 (fun _ z => nomatch z)) h1, s _ _ (ne_dk hd h2 (fun _ z => nomatch z)) h2, h3.by fun p xs e => s _ _ (ne_dk hd e (fun _ z => nomatch z)) e⟩
theorem ref_at {ps : List Addr} {k : Nat} {p : Addr} (h : ps[k]? = some p) : (ps.map V.ref)[k]? = some (.ref p) := by
  rw [List.getElem?_map, h]
  rfl
theorem ref_get {ps : List Addr} {k : Nat} {v : V} (h : (ps.map V.ref)[k]? = some v) : ∃ p, ps[k]? = some p ∧ v = .ref p := by
  rw [List.getElem?_map] at h
  cases e : ps[k]? with
  | none => rw [e] at h; cases h
  | some p =>
    rw [e] at h
    exact ⟨p, rfl, (Option.some.inj h).symm⟩
/-- lists of rows, one after the other -/
structure RowsAt (H : Hp) (qs : List Addr) (rows : List (List Nat)) : Prop where
  len : qs.length = rows.length
  el : ∀ (k : Nat) (p : Addr) (row : List Nat), qs[k]? = some p → rows[k]? = some row → H p = some (.lst ((nat2 row).map V.int))
theorem RowsAt.same {H H' : Hp} {qs : List Addr} {rows : List (List Nat)} (h : RowsAt H qs rows) (s : Same H H') : RowsAt H' qs rows := ⟨h.len, fun k p im a b => s _ _ (h.el k p im a b)⟩
/-- the rows of 0 to s replacements -/
def rowsL (ims : List (List Nat)) (s : Nat) : List (List Nat) := (List.range (s + 1)).map (rowL ims)
theorem rowsL_len (ims : List (List Nat)) (s : Nat) : (rowsL ims s).length = s + 1 := by
  unfold rowsL
  rw [List.length_map, List.length_range]
theorem rowsL_at {ims : List (List Nat)} {s k : Nat} (h : k < s + 1) : (rowsL ims s)[k]? = some (rowL ims k) := by
  unfold rowsL
  rw [List.getElem?_map, List.getElem?_range h]
  rfl
theorem rowsL_succ (ims : List (List Nat)) (s : Nat) : rowsL ims (s + 1) = rowsL ims s ++ [rowL ims (s + 1)] := by
  unfold rowsL
  rw [List.range_succ (n := s + 1), List.map_append]
  rfl
theorem row0 (ims : List (List Nat)) : rowL ims 0 = List.replicate ims.length 1 := by
  unfold rowL
  rw [List.eq_replicate_iff]
  refine ⟨by rw [List.length_map, List.length_range], fun b hb => ?_⟩
  obtain ⟨l, _, rfl⟩ := List.mem_map.mp hb
  rfl
theorem row_next {ims : List (List Nat)} {s k : Nat} (hk : k < ims.length) : (rowL ims (s + 1)).take (k + 1) = (rowL ims (s + 1)).take k ++ [((img ims k).map (len ims s)).sum] := by
  rw [List.take_add_one, rowL_at hk, len_succ]
  rfl
theorem ref_last {ps : List Addr} {i : Nat} {p : Addr} (hl : ps.length = i + 1) (h : ps[i]? = some p) : atI (ps.map V.ref) (-1) = some (.ref p) := by
  have e : ps = ps.take i ++ [p] := by
    conv => lhs; rw [← List.take_length (l := ps), hl, List.take_add_one, h]
    rfl
  rw [e, List.map_append]
  exact atI_last _ _
theorem cut_last (xs : List V) : cutV xs none (some (-1)) = xs.take (xs.length - 1) := by
  have e : HT.sIx xs.length xs.length (some (-1)) = xs.length - 1 := by
    unfold HT.sIx
    simp
    omega
  unfold cutV
  rw [e, HT.sIx_none, List.drop_zero, Nat.sub_zero]
end Mo

/-! ### dicts of anything -/
namespace Mo
open PySem PySem.Spec PyProof.Rows L2
section
variable {X : Cx}
/-- a dict of anything == {} -/
def rEqNilD : R2 := fun x y H Q => ∃ a b ks, x = .ref a ∧ y = .ref b ∧ H a = some (.dK ks) ∧ H b = some (.dK []) ∧ Q (.bl ks.isEmpty) H
theorem op_eqNilD (hu : X.A.units + 64 < cLine) : OpR X (compareOp .Eq) rEqNilD := by
  intro pins s σ H x y v u Q I rx ry h
  obtain ⟨a, b, ks, rfl, rfl, ea, eb, q⟩ := h
  obtain rfl : v = Value.ref a := rx
  obtain rfl : u = Value.ref b := ry
  obtain ⟨_, ya, va, ra, da⟩ := (show ObjOk X.prog X.w H s.heap a (.dK ks) from I.hok a _ ea)
  obtain ⟨_, yb, vb, rb, db⟩ := (show ObjOk X.prog X.w H s.heap b (.dK []) from I.hok b _ eb)
  cases rb
  have ml := ra.length
  refine PySem.W.keq_eq (knd := mixKind X.prog X.w) (r := true) ya yb da db (by omega) (fun hl => ?_) (fin_bl I q ?_)
  · have e : va = [] := List.eq_nil_of_length_eq_zero hl
    subst e
    exact .nil
  · cases ks with
    | nil => simp at ml; simp [← ml]
    | cons k r => simp at ml; simp [← ml]
theorem op_neNilTK {K : PySem.W.Frag} (h : X.K = K) (hu : X.A.units + 64 < cLine) : OpR X (compareOp .NotEq) (rNeNilT K) := by
  subst h
  exact op_neNilT hu
/-- list(a text) -/
theorem cr_lstS (hc : X.calm = true) : CallR X (.type "list") (fun xs H Q => ∃ cs : List Nat, xs = [.str (tx cs)] ∧ cs.length ≤ 100000 ∧ ∀ p, H p = none → Q (.ref p) (upd H p (.lst (cs.map sg)))) := by
  intro pins s σ H xs us Q I r h
  obtain ⟨cs, rfl, hz, q⟩ := h
  obtain ⟨u, rfl, t, rfl⟩ := vals1 r
  refine call_list_str (I.ok.hd hc) (tx cs) t (fun h' tk acc c' hk hS hacc => ?_) (by rw [tx_size]; exact fits5 hz)
  have I2 := I.laid (t' := tk) (o := .lst (cs.map sg)) (h' := h') (a := s.heap.objs.size) hk (Nat.le_refl _) ⟨by rw [List.length_map]; exact fits5 hz, acc.toList, c', vals_signs cs acc.toList (by have := hacc.1; rw [tx_size] at this; simpa using this) (fun j v e => by
    obtain ⟨c, u, e1, e2⟩ := hacc.2 j v (by simpa using e)
    exact ⟨c, u, tx_get.symm.trans e1, e2⟩), by simpa using hS⟩
  exact ⟨.ref s.heap.objs.size, _, I2, rfl, q _ (I.hok.fresh (Nat.le_refl _))⟩
theorem pi_tupK {K : PySem.W.Frag} {tg l : Expr} {tl : TE} (h : X.K = K) (hl : PE X l tl) : PI X tg l (iTup K tl) := by
  subst h
  exact pi_tup hl
/-- the turns of a walk, whatever is done in one -/
theorem turns_it {J : It} {n : Nat} {G : Hp → Prop} {Y : Nat → Hp → V → Hp → Prop} (w : Walk J n G Y) {S : V → Hp → (Hp → Prop) → Prop} {H0 : Hp} {Qd : Hp → Prop} (Pv : Nat → Hp → Prop) (h0 : Pv 0 H0) (hG : ∀ i H, i ≤ n → Pv i H → G H)
    (hs : ∀ i x H H', i < n → Pv i H → Y i H x H' → S x H' (Pv (i + 1))) (hd : ∀ H, Pv n H → Qd H) :
    ∃ W : Nat → Nat → Hp → Prop, (∃ m, W 0 m H0) ∧ ∀ i m H, W i m H → (J.stop i H ∧ Qd H) ∨ (J.go i H ∧ ∃ Nx : Hp → Prop, (∀ H', Nx H' → ∃ m', m' < m ∧ W (i + 1) m' H') ∧ ∀ x H', J.yld i H x H' → S x H' Nx) := by
  refine ⟨fun i m H => m = n - i ∧ i ≤ n ∧ Pv i H, ⟨n, by simp, Nat.zero_le _, h0⟩, fun i m H z => ?_⟩
  obtain ⟨rfl, hi, p⟩ := z
  have g := hG i H hi p
  rcases Nat.lt_or_ge i n with lt | ge
  · exact .inr ⟨w.goes i H lt g, Pv (i + 1), fun H' p' => ⟨n - (i + 1), by omega, rfl, lt, p'⟩, fun x H' y => hs i x H H' lt p (w.yields i H x H' lt g y)⟩
  · obtain rfl : i = n := Nat.le_antisymm hi ge
    exact .inl ⟨w.stops H g, hd H p⟩
end
end Mo

namespace Mo
open PySem PySem.Spec PyProof.Rows L2
section
variable {X : Cx}
theorem sl_tupAK {K : PySem.W.Frag} (h : X.K = K) : SlR X (rSlA K) := by
  subst h
  exact sl_tupA
theorem op_eqFlK {K : PySem.W.Frag} (h : X.K = K) (hu : X.A.units + 64 < cLine) : OpR X (compareOp .Eq) (rEqFl K) := by
  subst h
  exact op_eqFl hu
theorem op_neFlK {K : PySem.W.Frag} (h : X.K = K) (hu : X.A.units + 64 < cLine) : OpR X (compareOp .NotEq) (rNeFl K) := by
  subst h
  exact op_neFl hu
end
theorem Same.sqT {K : PySem.W.Frag} {H H' : Hp} {p : Addr} {xs : List V} (s : Same H H') (h : SqT K H p xs) : SqT K H' p xs := by
  rcases h with (e | ⟨o, e⟩) | e
  · exact .inl (.inl (s _ _ e))
  · exact .inl (.inr ⟨o, s _ _ e⟩)
  · exact .inr e
theorem But.sqT {K : PySem.W.Frag} {d : Addr} {H H' : Hp} {p : Addr} {xs : List V} (s : But d H H') (n : p ≠ d) (h : SqT K H p xs) : SqT K H' p xs := by
  rcases h with (e | ⟨o, e⟩) | e
  · exact .inl (.inl (s _ _ n e))
  · exact .inl (.inr ⟨o, s _ _ n e⟩)
  · exact .inr e
end Mo

namespace Mo
open PySem PySem.Spec PyProof.Rows L2
/-! enumerate(v), v a list or a tuple -/
theorem enum_made {v : Value} {o : Obj} {Hd : Heap → Prop} (B : Begins v o Hd) :
    Meets (Builtin.«enumerate.__new__» ⟨[.type "enumerate", v], []⟩) (fun _ R s => Hd s.heap ∧
      R (.ok (.ret (.ref (s.heap.push o).objs.size))) { s with heap := (s.heap.push o).push { cls := .type "enumerate", data := .fields #[.none, .bool false, .ref s.heap.objs.size, rawInt 0, .none, .none] } }) :=
  .of_wp fun prog w A R s hh => by
    obtain ⟨hp, g, dd, tk, os⟩ := s
    obtain ⟨b0, b1⟩ := hh
    have hsub := sub_enumerate
    have it1 : ∀ {A' : Around} {F : Value → Shared → Prop} {Q : Value → Shared → Prop}, Q (.ref hp.objs.size) ⟨hp.push o, g, dd, tk, os⟩ → wpAny (model prog w) A' (pyIter v) Q F ⟨hp, g, dd, tk, os⟩ := fun z => B.iter prog w _ _ ⟨hp, g, dd, tk, os⟩ _ b0 z
    wp_walk using it1
    refine wpAny_stack_any fun st => wpAny_pure ?_
    split
    · rename_i cc _ _ _ _ _
      by_cases ec : (cc == Value.type "enumerate") = true
      · rw [ec]
        wp_walk using it1
        exact ⟨_, rfl, b1⟩
      · rw [Bool.eq_false_iff.mpr ec]
        wp_walk using it1
        exact ⟨_, rfl, b1⟩
    · wp_walk using it1
      exact ⟨_, rfl, b1⟩
theorem enum_call {prog : Program} {w : World} {A : Around} {E : Value → Shared → Prop} {s : Shared} {v : Value} {o : Obj} {Hd : Heap → Prop} {Q : Value → Shared → Prop} (B : Begins v o Hd) (b0 : Hd s.heap)
    (q : ∀ h', IsEnum h' (s.heap.objs.size + 1) s.heap.objs.size 0 .none → h'.get? s.heap.objs.size = some o → (∀ b ob, s.heap.get? b = some ob → h'.get? b = some ob) → Q (.ref (s.heap.objs.size + 1)) { s with heap := h' }) :
    wpAny (model prog w) A (call (.type "enumerate") [v]) Q E s := by
  refine callType_new F.called_enumerate (by decide) (F.typeCall_enumerate_1 _) (F.newCall_enumerate_1 _) (fun ob => F.args_object_init_2 ob _) F.entry_enumerate_new (enum_made B) ⟨b0, ?_⟩
  have n1 : (s.heap.push o).objs.size = s.heap.objs.size + 1 := Heap.size_push ..
  have g1 := Heap.get?_push_size (s.heap.push o) (o := { cls := .type "enumerate", data := .fields #[.none, .bool false, .ref s.heap.objs.size, rawInt 0, .none, .none] }) rfl
  rw [n1] at g1
  show _ ∧ _
  rw [n1]
  exact ⟨⟨_, g1, rfl⟩, q _ g1 (Heap.get?_push_of_some _ (Heap.get?_push_size _ B.free)) fun b ob z => Heap.get?_push_of_some _ (Heap.get?_push_of_some _ z)⟩
def ItE (K : PySem.W.Frag) (a : Addr) (xs : List V) : It := ⟨fun i H => SqT K H a xs ∧ i < xs.length, fun i H v H' => ∃ T x, v = .ref T ∧ H T = none ∧ xs[i]? = some x ∧ H' = upd H T (.tup [.int (i : Nat), x]), fun i H => SqT K H a xs ∧ xs.length ≤ i⟩
theorem turn_enumT {P : Program} {w : World} {K : PySem.W.Frag} {elts : List Expr} {kk : Nat} {tpos : Pos} {xs : List V} {a e it : Addr} (n1 : e ≠ it) (n2 : a ≠ it) (n3 : e ≠ a) :
    Turn P w K (.Tuple elts kk tpos) (ItE K a xs) [e, it] e (fun i h => ((∃ old, IsEnum h e it ((i : Nat) : Int) old) ∧ h.IsTupleIter it a i) ∧ i ≤ xs.length) where
  mem := List.mem_cons_self ..
  obj := fun i h st b hb => by
    obtain ⟨⟨⟨old, he⟩, o, ho, hc, hd⟩, _⟩ := st
    rcases List.mem_cons.mp hb with rfl | hb
    · exact ⟨_, he, fun v q => nomatch q⟩
    · rw [List.mem_singleton.mp hb]
      exact ⟨o, ho, fun v q => by rw [hd] at q; cases q⟩
  keep := fun i h h' st k => by
    obtain ⟨⟨⟨old, he⟩, hi⟩, hle⟩ := st
    exact ⟨⟨⟨old, k e (List.mem_cons_self ..) _ he⟩, hi.at fun o q => k it (List.mem_cons_of_mem _ (List.mem_singleton.mpr rfl)) o q⟩, hle⟩
  item := by
    intro X hP hw hK hc i pins s σ H E I hf st hg
    subst hP hw hK
    obtain ⟨⟨⟨old, he⟩, hit⟩, hle⟩ := st
    obtain ⟨hq, hi⟩ := hg
    obtain ⟨its, rv, pt, _⟩ := I.tuple hq
    have pt : s.heap.IsTuple a its.toArray := pt
    have hsz : i < its.toArray.size := by rw [List.size_toArray, ← rv.length]; exact hi
    have le : e < s.heap.objs.size := Heap.lt_size he
    have li : it < s.heap.objs.size := by
      obtain ⟨_, z, _⟩ := hit
      exact Heap.lt_size z
    have nh : X.A.in1.handled = none := by simpa using I.ok.hd hc
    have nf : e ∉ [it, a] := fun z => by
      rcases List.mem_cons.mp z with z | z
      · exact n1 z
      · exact n3 (List.mem_singleton.mp z)
    refine wpAny_pyNext_enum_itemD (Draws.tuple nh it a n2 its.toArray) he ⟨hit, pt⟩ hsz n1 nf fun u h1 tk hu ho st1 hT _ hk => ?_
    obtain ⟨x, hx⟩ : ∃ x, xs[i]? = some x := ⟨xs[i], List.getElem?_eq_getElem hi⟩
    obtain ⟨u', hu', ru⟩ := rv.get hx
    have eu : u = u' := by
      have z : its.toArray[i]? = some u' := by simpa using hu'
      rw [hu] at z
      exact Option.some.inj z
    subst eu
    refine ⟨_, rfl, wpAny_letOwnedTupleGo_enum (s := { s with heap := h1, toks := tk + 1 }) ho fun h2 he2 sb => ?_⟩
    have hT2 := (sb.2 _ (Nat.ne_of_gt le)).trans hT
    have I1 : Inv X pins σ (upd H s.heap.objs.size (.tup [.int (i : Nat), x])) { s with heap := h2, toks := tk + 1 } := by
      refine I.turnedNew (ch := [e, it]) (fun b ob hb z => ?_) hf (Nat.le_refl _) ⟨by show 2 ≤ sizeLine; decide, [.int i tk, u], .cons ⟨_, rfl⟩ (.cons ru .nil), ⟨_, hT2, rfl, _, rfl⟩⟩
      have nb1 : b ≠ e := fun z => hb (by rw [z]; exact List.mem_cons_self ..)
      have nb2 : b ≠ it := fun z => hb (by rw [z]; exact List.mem_cons_of_mem _ (List.mem_singleton.mpr rfl))
      exact (sb.2 b nb1).trans (hk b ob nb1 nb2 z)
    refine ⟨.ref s.heap.objs.size, _, I1, rfl, ⟨_, x, rfl, I.hok.fresh (Nat.le_refl _), hx, rfl⟩, ⟨⟨⟨u, ?_⟩, st1.1.at fun o z => (sb.2 it (Ne.symm n1)).trans z⟩, hi⟩, fun b hb => ?_⟩
    · have e1 : ((i + 1 : Nat) : Int) = (i : Int) + 1 := Int.natCast_succ i
      rw [e1]
      exact he2
    · have lb : b < s.heap.objs.size := by
        rcases List.mem_cons.mp hb with rfl | hb
        · exact le
        · rw [List.mem_singleton.mp hb]
          exact li
      rw [upd_ne (Nat.ne_of_lt lb)]
      exact (hf b hb).1
  done := by
    intro X hP hw hK hc i pins s σ H E I hf st hg
    subst hP hw hK
    obtain ⟨⟨⟨old, he⟩, hit⟩, hle⟩ := st
    obtain ⟨hq, hge⟩ := hg
    obtain ⟨its, rv, pt, _⟩ := I.tuple hq
    have pt : s.heap.IsTuple a its.toArray := pt
    have ei : its.toArray.size = i := by
      rw [List.size_toArray, ← rv.length]
      omega
    obtain ⟨f0, f1, f2, f3, f4, f5⟩ := hf it (List.mem_cons_of_mem _ (List.mem_singleton.mpr rfl))
    have nh : X.A.in1.handled = none := by simpa using I.ok.hd hc
    exact wpAny_pyNext_enum_endD (Draws.tuple nh it a n2 its.toArray) he ⟨by rw [ei]; exact hit, pt⟩ fun h' eb => ⟨rfl, I.turned (t' := s.toks) (fun b o hb z => eb b o hb z) f0 f1 f3 f4 f5⟩
  self := fun A i s Q E st h => by
    obtain ⟨⟨⟨_, he⟩, _⟩, _⟩ := st
    exact wpAny_pyIter_enum he h
/-- enumerate of a list or of a tuple -/
def enJ (K : PySem.W.Frag) (a : Addr) (xs : List V) : Bool → It
  | true => ItE K a xs
  | false => Ite K a
def enO (xs : List V) : Bool → HO
  | true => .tup xs
  | false => .lst xs
def iEnumB (K : PySem.W.Frag) (ta : TA) : TI := fun σ H R => ta σ H fun vs H1 => ∃ (a : Addr) (xs : List V) (b : Bool), vs = [.ref a] ∧ H1 a = some (enO xs b) ∧ R (enJ K a xs b) H1
section
variable {X : Cx}
theorem pi_enumB {e : Expr} {ta : TA} {p pos tpos : Pos} {elts : List Expr} {kk : Nat} (hg : Gl X "enumerate") (hm : X.mg "enumerate" = none) (ha : PA X [e] ta) (hs : starEach [e] X.env = [(false, eval e X.env)] := by rfl) :
    PI X (.Tuple elts kk tpos) (.Call (.Name "enumerate" p) [e] [] pos) (iEnumB X.K ta) := by
  refine ⟨fun pins s σ H R I h => ?_⟩
  refine Call_ (ld_blt I hg hm boot_enumerate (PyProof.Rows.callWith_type1 (thn (ha.run pos pins s σ H _ I h) fun us s1 ⟨vs, H1, I1, r1, q1⟩ => ?_) hs rfl))
  obtain ⟨a, xs, b, rfl, hb, q⟩ := q1
  obtain ⟨u, rfl, ru⟩ := vals1 r1
  cases (show u = Value.ref a from ru)
  have far : ∀ b ∈ [s1.heap.objs.size + 1, s1.heap.objs.size], s1.heap.objs.size ≤ b := fun b hb => by
    rcases List.mem_cons.mp hb with rfl | hb
    · exact Nat.le_succ _
    · exact Nat.le_of_eq (List.mem_singleton.mp hb).symm
  cases b with
  | false =>
    obtain ⟨its, rv, pl, _⟩ := I1.list (SqL.of hb)
    exact enum_call (begins_list a its.toArray) pl.isList fun h' he hi hk => wpAny_pyIter_enum he
      ⟨s1.heap.objs.size + 1, _, _, _, H1, rfl, I1.kept (t' := s1.toks) hk, turn_enum a (s1.heap.objs.size + 1) s1.heap.objs.size, ⟨⟨.none, he⟩, ⟨_, hi, rfl, rfl⟩, Nat.succ_ne_self _⟩, fun b hb => I1.fpOk (far b hb) (I1.hok.fresh (far b hb)), q⟩
  | true =>
    obtain ⟨its, rv, pt, _⟩ := I1.tuple (SqT.of hb)
    have pt : s1.heap.IsTuple a its.toArray := pt
    have la : a < s1.heap.objs.size := by
      obtain ⟨_, z, _⟩ := pt
      exact Heap.lt_size z
    exact enum_call (begins_tuple a its.toArray) pt fun h' he hi hk => wpAny_pyIter_enum he
      ⟨s1.heap.objs.size + 1, _, _, _, H1, rfl, I1.kept (t' := s1.toks) hk, turn_enumT (a := a) (e := s1.heap.objs.size + 1) (it := s1.heap.objs.size) (Nat.succ_ne_self _) (Nat.ne_of_lt la) (Nat.ne_of_gt (Nat.lt_succ_of_lt la)), ⟨⟨⟨.none, he⟩, ⟨_, hi, rfl, rfl⟩⟩, Nat.zero_le _⟩, fun b hb => I1.fpOk (far b hb) (I1.hok.fresh (far b hb)), q⟩
end
/-- one walk for both -/
theorem walk_enB {K : PySem.W.Frag} {a : Addr} {xs : List V} {b : Bool} : Walk (enJ K a xs b) xs.length (fun H' => H' a = some (enO xs b)) (YPair (fun i => some (.int (i : Nat))) (fun i => xs[i]?)) := by
  cases b with
  | false => exact walk_enum.mono (fun H' h' => SqL.of h') fun _ _ _ _ _ _ y => y
  | true => exact ⟨fun i H' hi h' => ⟨SqT.of h', hi⟩, fun H' h' => ⟨SqT.of h', Nat.le_refl _⟩, fun i H' v H2 hi h' y => by
      obtain ⟨T, x, h1, h2, h3, h4⟩ := y
      exact ⟨T, _, x, h1, h2, h4, rfl, h3⟩⟩
end Mo
namespace Mo
open PySem PySem.Spec PyProof.Rows L2
theorem pi_listK {X : Cx} {K : PySem.W.Frag} {tg l : Expr} {tl : TE} (h : X.K = K) (hl : PE X l tl) : PI X tg l (iList K tl) := by
  subst h
  exact pi_list hl
end Mo

namespace Mo
open PySem PySem.Spec PyProof.Rows L2
section
variable {P : Program} {w : World} {K : PySem.W.Frag} {mg : Str → Option Value} {base : Heap}
def spIsLetter : Sp := fun vs H Q _ => ∃ n : Nat, vs = [.int n] ∧ n ≤ 999999 ∧ ∀ H', Same H H' → Q (.bl true) H'
theorem ok_isLetter {k : Nat} (T : Txt K mg) : FnOk P w K mg base CX0 (k + 2) T.aIsLetter T.dIsLetter ["value"] spIsLetter := by
  have GIsPlainInteger : FnOk P w K mg base CX0 (k + 1) T.aIsPlainInteger T.dIsPlainInteger ["value"] spPlain := ok_plain T
  refine T.fIsLetter.ok scIsLetter (fun vs H Q E h => ?_) (fun cdv A outer s H vs Q E hr h => ?_)
  · obtain ⟨n, rfl, _⟩ := h
    rfl
  · obtain ⟨n, rfl, hn, q⟩ := h
    refine ⟨_, (pss_one (ps_ret (pe_and (pe_call GIsPlainInteger hr (by rfl) T.gIsPlainInteger T.fIsPlainInteger.kp T.bIsPlainInteger .nil pass0 (pa_cons (pv 0) pa_nil)) (pe_one (pe_chain op_le op_le pe_int (pv 0) (pe_glob (v := .int 999999) rfl T.m_GREATEST_LETTER ⟨_, rfl⟩)))))), ?_⟩
    refine ⟨_, rfl, n, rfl, fun H1 s1 => ⟨true, rfl, ?_⟩⟩
    refine ⟨_, rfl, _, _, rfl, rfl, true, congrArg V.bl (decide_eq_true (by omega)), _, _, rfl, rfl, ?_⟩
    have z := q H1 s1
    rw [← decide_eq_true (show (n : Int) ≤ 999999 by omega)] at z
    exact z
def spIsText : Sp := fun vs H Q _ => ∃ (a : Addr) (im : List Nat), vs = [.ref a] ∧ H a = some (.tup ((nat2 im).map V.int)) ∧ im.length ≤ 4096 ∧ (∀ n ∈ im, n ≤ 999999) ∧ ∀ H', Same H H' → Q (.bl true) H'
theorem ok_isText {k : Nat} (T : Txt K mg) : FnOk P w K mg base CX0 (k + 3) T.aIsText T.dIsText ["value"] spIsText := by
  have GIsLetter : FnOk P w K mg base CX0 (k + 2) T.aIsLetter T.dIsLetter ["value"] spIsLetter := ok_isLetter T
  refine T.fIsText.ok scIsText (fun vs H Q E h => ?_) (fun cdv A outer s H vs Q E hr h => ?_)
  · obtain ⟨a, im, rfl, _⟩ := h
    rfl
  · obtain ⟨a, im, rfl, ha, hl, hi, q⟩ := h
    refine ⟨_, (pss_cons (ps_if (PW.pt (pw_or (pt_not (pt_val (pe_callB call_isi (by rfl) T.m_isinstance (by decide +kernel) (pa_cons (pv 0) (pa_cons (pe_bltn (v := .ty "tuple") (by rfl) T.m_tuple (by decide +kernel) rfl) pa_nil))))) (pw_or1 (pt_cmpR op_gt (pe_callB call_len_seq (by rfl) T.m_len PySem.boot_len (pa_cons (pv 0) pa_nil)) (pe_glob (v := .int 4096) rfl T.m_LONGEST_TEXT ⟨_, rfl⟩) (nomark _))))) (pss_one (ps_ret pe_bl)) pss_nil)
      (pss_one (ps_ret (pe_callB (cr_all rfl) (by rfl) T.m_all (by decide +kernel) (pa_cons (pe_lc (own := [("letter", 1)]) (g := gName 1) (tt := tYes) rfl scIsText.nd (pi_tup (pv 0)) (blkOk_by (N := ["value", "letter"]) (sc := defScope sIsText) (by decide +kernel)) (fun _ _ _ _ _ => pg_name (i := 1) scIsText.nd rfl (Or.inl rfl)) (fun _ _ _ _ _ => pts_nil) (fun _ _ _ _ _ => (pe_call GIsLetter hr (by rfl) T.gIsLetter T.fIsLetter.kp T.bIsLetter .nil pass0 (pa_cons (pv 1) pa_nil)))) pa_nil))))), ?_⟩
    refine ⟨_, rfl, _, _, .type "tuple", .type "tuple", true, rfl, .ty "tuple", .base (.tup ha), kit_ty (by decide +kernel), true, rfl, iteF ?_⟩
    refine ⟨_, rfl, a, _, rfl, .inr (SqT.of ha), _, _, rfl, rfl, _, rfl, ite2 (fun e => ?_) (fun _ => ?_)⟩
    · exact absurd (of_decide_eq_true e) (by rw [n2v_len]; omega)
    refine ⟨_, rfl, a, rfl, ⟨_, SqT.of ha⟩, fun D nD => lc_tup (K := K) (a := a) (xs := (nat2 im).map V.int) (fun i H' => Same H H' ∧ H' D = some (.lst ((List.replicate i true).map V.bl))) ?_ ?_ ?_ ?_⟩
    · exact ⟨same_new nD, upd_same⟩
    · rintro i H1 _ ⟨s1, _⟩
      exact SqT.of (s1 _ _ ha)
    · rintro i x H1 hx ⟨s1, hD⟩
      obtain ⟨n, hn, rfl⟩ := n2v_get hx
      have hi2 := (List.getElem?_eq_some_iff.mp hn).1
      refine ⟨rfl, _, rfl, n, rfl, hi n (List.mem_of_getElem? hn), fun H2 s2 => ?_⟩
      refine ⟨_, s2 _ _ hD, fitsLt (by rw [List.length_map, List.length_replicate]; omega), Same.put (s1.trans s2) nD, ?_⟩
      rw [upd_same, List.replicate_succ', List.map_append]
      rfl
    · rintro H1 ⟨s1, hD⟩
      refine ⟨D, _, rfl, SqL.of hD, ?_⟩
      rw [show (List.replicate ((nat2 im).map V.int).length true).all id = true by simp]
      exact q H1 s1
def spIsImage : Sp := fun vs H Q _ => ∃ (a : Addr) (im : List Nat) (n : Nat), vs = [.ref a, .int n] ∧ H a = some (.tup ((nat2 im).map V.int)) ∧ im ≠ [] ∧ im.length ≤ 64 ∧ (∀ x ∈ im, x < n) ∧ n ≤ 400 ∧ ∀ H', Same H H' → Q (.bl true) H'
theorem ok_isImage {k : Nat} (T : Txt K mg) : FnOk P w K mg base CX0 (k + 4) T.aIsImage T.dIsImage ["value", "size"] spIsImage := by
  have GIsText : FnOk P w K mg base CX0 (k + 3) T.aIsText T.dIsText ["value"] spIsText := ok_isText T
  refine T.fIsImage.ok scIsImage (fun vs H Q E h => ?_) (fun cdv A outer s H vs Q E hr h => ?_)
  · obtain ⟨a, im, n, rfl, _⟩ := h
    rfl
  · obtain ⟨a, im, n, rfl, ha, hne, hl, hi, hn, q⟩ := h
    have h0 : 0 < im.length := List.length_pos_iff.mpr hne
    refine ⟨_, (pss_cons (ps_if (PW.pt (pw_or (pt_not (pt_val (pe_call GIsText hr (by rfl) T.gIsText T.fIsText.kp T.bIsText .nil pass0 (pa_cons (pv 0) pa_nil)))) (pw_or1 (pt_not (pt_chain op_le op_le pe_int (pe_callB call_len_seq (by rfl) T.m_len PySem.boot_len (pa_cons (pv 0) pa_nil)) (pe_glob (v := .int 64) rfl T.m_LONGEST_IMAGE ⟨_, rfl⟩)))))) (pss_one (ps_ret pe_bl)) pss_nil)
      (pss_one (ps_ret (pe_cmpR op_lt (pe_callB (Mo.cr_maxT rfl) (by rfl) T.m_max (by decide +kernel) (pa_cons (pv 0) pa_nil)) (pv 1) (nomark _))))), ?_⟩
    refine ⟨_, rfl, a, im, rfl, ha, by omega, fun x hx => by have := hi x hx; omega, fun H1 s1 => ⟨true, rfl, iteF ?_⟩⟩
    have ha1 := s1 _ _ ha
    refine ⟨_, rfl, a, _, rfl, .inr (SqT.of ha1), _, _, rfl, rfl, true, congrArg V.bl (decide_eq_true (by rw [n2v_len]; omega)), _, _, rfl, rfl, _, rfl, ?_⟩
    rw [decide_eq_true (show (((nat2 im).map V.int).length : Int) ≤ 64 by rw [n2v_len]; omega)]
    refine iteF ⟨_, rfl, a, _, rfl, SqT.of ha1, by rw [nat2_len]; exact h0, fun m hm _ => ⟨_, rfl, _, _, rfl, rfl, ?_⟩⟩
    obtain ⟨x, hx, rfl⟩ := List.mem_map.mp hm
    have := hi x hx
    have z := q H1 s1
    rw [← decide_eq_true (show (x : Int) < (n : Int) by omega)] at z
    exact z
def spAreImages : Sp := fun vs H Q _ => ∃ (a : Addr) (ps : List Addr) (ims : List (List Nat)), vs = [.ref a] ∧ H a = some (.lst (ps.map V.ref)) ∧ ImsAt H ps ims ∧ Ims ims ∧ ∀ H', Same H H' → Q (.bl true) H'
theorem ok_areImages {k : Nat} (T : Txt K mg) : FnOk P w K mg base CX0 (k + 5) T.aAreImages T.dAreImages ["value"] spAreImages := by
  have GIsImage : FnOk P w K mg base CX0 (k + 4) T.aIsImage T.dIsImage ["value", "size"] spIsImage := ok_isImage T
  refine T.fAreImages.ok scAreImages (fun vs H Q E h => ?_) (fun cdv A outer s H vs Q E hr h => ?_)
  · obtain ⟨a, ps, ims, rfl, _⟩ := h
    rfl
  · obtain ⟨a, ps, ims, rfl, ha, tab, ok, q⟩ := h
    have n1 := ok.n1
    have n2 := ok.n2
    refine ⟨_, (pss_cons (ps_if (PW.pt (pw_or (pt_not (pt_val (pe_callB call_isiT (by rfl) T.m_isinstance (by decide +kernel) (pa_cons (pv 0) (pa_cons (pe_tup (pa_cons (pe_bltn (v := .ty "list") (by rfl) T.m_list (by decide +kernel) rfl) (pa_cons (pe_bltn (v := .ty "tuple") (by rfl) T.m_tuple (by decide +kernel) rfl) pa_nil))) pa_nil))))) (pw_or1 (pt_not (pt_chain op_le op_le pe_int (pe_callB call_len_seq (by rfl) T.m_len PySem.boot_len (pa_cons (pv 0) pa_nil)) (pe_glob (v := .int 400) rfl T.m_MOST_IMAGES ⟨_, rfl⟩)))))) (pss_one (ps_ret pe_bl)) pss_nil)
      (pss_one (ps_ret (pe_callB (cr_all rfl) (by rfl) T.m_all (by decide +kernel) (pa_cons (pe_lc (own := [("image", 1)]) (g := gName 1) (tt := tYes) rfl scAreImages.nd (pi_list (pv 0)) (blkOk_by (N := ["value", "image"]) (sc := defScope sAreImages) (by decide +kernel)) (fun _ _ _ _ _ => pg_name (i := 1) scAreImages.nd rfl (Or.inl rfl)) (fun _ _ _ _ _ => pts_nil) (fun _ _ _ _ _ => (pe_call GIsImage hr (by rfl) T.gIsImage T.fIsImage.kp T.bIsImage .nil pass0 (pa_cons (pv 1) (pa_cons (pe_callB (Mo.call_len_seqK (K := K) rfl) (by rfl) T.m_len PySem.boot_len (pa_cons (pv 0) pa_nil)) pa_nil))))) pa_nil))))), ?_⟩
    refine ⟨_, rfl, by show 2 ≤ sizeLine; decide, fun tp ntp => ?_⟩
    have s1 := same_new (o := .tup [V.ty "list", V.ty "tuple"]) ntp
    obtain ⟨t, ty, kt⟩ : ∃ t : Value, TyX K (upd H tp (.tup [V.ty "list", V.ty "tuple"])) (.ref a) t ∧ PySem.W.kitAny K t [.type "list", .type "tuple"] = some true := ⟨.type "list", .base (.lst (s1 _ _ ha)), kitAny_cons (kit_ty (kit_list (.list []))) (fun z => nomatch z) (fun _ => rfl)⟩
    refine ⟨_, tp, _, t, _, true, rfl, upd_same, .cons (.ty "list") (.cons (.ty "tuple") .nil), ty, kt, true, rfl, iteF ?_⟩
    have ha1 := s1 _ _ ha
    have tab1 := tab.same s1
    generalize upd H tp (.tup [V.ty "list", V.ty "tuple"]) = H1 at *
    have hlen : (ps.map V.ref).length = ims.length := by rw [List.length_map, tab.len]
    refine ⟨_, rfl, a, _, rfl, .inl (SqL.of ha1), _, _, rfl, rfl, true, congrArg V.bl (decide_eq_true (by rw [hlen]; omega)), _, _, rfl, rfl, _, rfl, ?_⟩
    rw [decide_eq_true (show ((ps.map V.ref).length : Int) ≤ 400 by rw [hlen]; omega)]
    refine iteF ⟨_, rfl, a, rfl, ⟨_, SqL.of ha1⟩, fun D nD => lc_list (K := K) (a := a) (xs := ps.map V.ref) (fun i H' => Same H1 H' ∧ H' D = some (.lst ((List.replicate i true).map V.bl))) ?_ ?_ ?_ ?_⟩
    · exact ⟨same_new nD, upd_same⟩
    · rintro i H2 _ ⟨s2, _⟩
      exact SqL.of (s2 _ _ ha1)
    · rintro i x H2 hx ⟨s2, hD⟩
      obtain ⟨p, hp, rfl⟩ := ref_get hx
      have hi2 : i < ims.length := by rw [← tab.len]; exact (List.getElem?_eq_some_iff.mp hp).1
      have hp2 := (tab1.same s2).el i p _ hp (img_at hi2)
      have mem := img_mem hi2
      refine ⟨rfl, _, rfl, _, rfl, a, _, rfl, .inl (SqL.of (s2 _ _ ha1)), p, img ims i, ims.length, ?_, hp2, ok.ne _ mem, ok.few _ mem, ok.lt _ mem, n2, fun H3 s3 => ?_⟩
      · rw [hlen]
        rfl
      refine ⟨_, s3 _ _ hD, fitsLt (by rw [List.length_map, List.length_replicate]; omega), Same.put (s2.trans s3) nD, ?_⟩
      rw [upd_same, List.replicate_succ', List.map_append]
      rfl
    · rintro H2 ⟨s2, hD⟩
      refine ⟨D, _, rfl, SqL.of hD, ?_⟩
      rw [show (List.replicate (ps.map V.ref).length true).all id = true by simp]
      exact q H2 (s1.trans s2)
def spRInit (C : Addr) : Sp := fun vs H Q _ => ∃ (r dx a : Addr) (ps : List Addr) (ims : List (List Nat)), vs = [.ref r, .ref a] ∧ H r = some (.ins C dx []) ∧ H a = some (.lst (ps.map V.ref)) ∧ ImsAt H ps ims ∧ Ims ims ∧ ∀ H', (∀ b o, b ≠ r → H b = some o → H' b = some o) → RlsAt C H' r ims → Q .non H'
theorem ok_rInit {k : Nat} (T : Txt K mg) : FnOk P w K mg base CX0 (k + 6) T.aRulesInit T.dRulesInit ["self", "images"] (spRInit T.cRules) := by
  have GAreImages : FnOk P w K mg base CX0 (k + 5) T.aAreImages T.dAreImages ["value"] spAreImages := ok_areImages T
  refine T.fRulesInit.ok scRulesInit (fun vs H Q E h => ?_) (fun cdv A outer s H vs Q E hr h => ?_)
  · obtain ⟨r, dx, a, ps, ims, rfl, _⟩ := h
    rfl
  · obtain ⟨r, dx, a, ps, ims, rfl, hr0, ha, tab, ok, q⟩ := h
    refine ⟨_, (pss_cons (ps_if (pt_not (pt_val (pe_call GAreImages hr (by rfl) T.gAreImages T.fAreImages.kp T.bAreImages .nil pass0 (pa_cons (pv 1) pa_nil)))) (pss_one ps_never) pss_nil)
      (pss_one (ps_fld (pv 0) (pe_callTy call_tuple_of (by rfl) T.m_tuple (by decide +kernel) (pa_cons (pv 1) pa_nil)) rfl))), ?_⟩
    refine ⟨_, rfl, a, ps, ims, rfl, ha, tab, ok, fun H1 s1 => ⟨true, rfl, iteF ?_⟩⟩
    refine ⟨_, rfl, a, _, rfl, .inl ⟨SqL.of (s1 _ _ ha), fun t nt => ?_⟩⟩
    have s2 := same_new (o := .tup (ps.map V.ref)) nt
    have s12 := s1.trans s2
    have ht : upd H1 t (.tup (ps.map V.ref)) t = some (.tup (ps.map V.ref)) := upd_same
    have nrt : r ≠ t := ne_of_none (s1 _ _ hr0) nt
    generalize upd H1 t (.tup (ps.map V.ref)) = H2 at *
    refine ⟨_, rfl, r, T.cRules, dx, [], rfl, s12 _ _ hr0, T.clRules, T.nRules_table, by show 0 < 1000; decide, ?_⟩
    refine q _ (fun b o nb e => by rw [upd_ne nb]; exact s12 _ _ e) ⟨dx, t, ps, upd_same, by rw [upd_ne nrt.symm]; exact ht, (tab.same s12).by fun p xs e => ?_⟩
    rw [upd_ne (ne_of e (s12 _ _ hr0) (fun z => nomatch z))]
    exact e
theorem no_meth {t : Addr} {m : Str} (h : ¬ m = "table") : ([(("table" : Str), V.ref t)] : List (Str × V)).lookup m = none := by
  rw [lookup_put, if_neg h]
  rfl
theorem tab_field {t : Addr} : ([(("table" : Str), V.ref t)] : List (Str × V)).lookup ("table" : Str) = some (.ref t) := by
  rw [lookup_put, if_pos rfl]
end
end Mo

namespace Mo
open PySem PySem.Spec PyProof.Rows L2
section
variable {P : Program} {w : World} {K : PySem.W.Frag} {mg : Str → Option Value} {base : Heap}
theorem ok_plainX {k : Nat} (T : Txt K mg) : FnOk P w K mg base CX0 (k + 1) T.aIsPlainInteger T.dIsPlainInteger ["value"] (spAsk plainD) := by
  refine T.fIsPlainInteger.ok scIsPlainInteger (fun vs H Q E h => ?_) (fun cdv A outer s H vs Q E hr h => ?_)
  · obtain ⟨_, _, _, rfl, _⟩ := h
    rfl
  · obtain ⟨N, x, d, rfl, hd, _, q⟩ := h
    refine ⟨_, (pss_one (ps_ret (pe_and (pe_callB call_isi (by rfl) T.m_isinstance (by decide +kernel) (pa_cons (pv 0) (pa_cons (pe_bltn (v := .ty "int") (by rfl) T.m_int (by decide +kernel) rfl) pa_nil))) (pe_one (pe_not (pe_callB call_isi (by rfl) T.m_isinstance (by decide +kernel) (pa_cons (pv 0) (pa_cons (pe_bltn (v := .ty "bool") (by rfl) T.m_bool (by decide +kernel) rfl) pa_nil)))))))), ?_⟩
    have ty := hd.ty (K := K)
    have q0 := q H (Same.refl H)
    unfold plainD at q0
    refine ⟨_, rfl, _, _, .type (tyD d), .type "int", isIntD d, rfl, .ty "int", ty, kit_ty (kit_int d), isIntD d, rfl, ?_⟩
    cases e : isIntD d with
    | false => rw [e] at q0; exact q0
    | true =>
      rw [e] at q0
      exact ⟨_, rfl, _, _, .type (tyD d), .type "bool", isBoolD d, rfl, .ty "bool", ty, kit_ty (kit_bool d), isBoolD d, rfl, q0⟩
theorem ok_letterX {k : Nat} (T : Txt K mg) : FnOk P w K mg base CX0 (k + 2) T.aIsLetter T.dIsLetter ["value"] (spAsk letterD) := by
  have GIsPlainInteger : FnOk P w K mg base CX0 (k + 1) T.aIsPlainInteger T.dIsPlainInteger ["value"] (spAsk plainD) := ok_plainX T
  refine T.fIsLetter.ok scIsLetter (fun vs H Q E h => ?_) (fun cdv A outer s H vs Q E hr h => ?_)
  · obtain ⟨_, _, _, rfl, _⟩ := h
    rfl
  · obtain ⟨N, x, d, rfl, hd, hb, q⟩ := h
    refine ⟨_, (pss_one (ps_ret (pe_and (pe_call GIsPlainInteger hr (by rfl) T.gIsPlainInteger T.fIsPlainInteger.kp T.bIsPlainInteger .nil pass0 (pa_cons (pv 0) pa_nil)) (pe_one (pe_chain op_le op_le pe_int (pv 0) (pe_glob (v := .int 999999) rfl T.m_GREATEST_LETTER ⟨_, rfl⟩)))))), ?_⟩
    refine ⟨_, rfl, N, x, d, rfl, hd, hb, fun H1 s1 => ?_⟩
    have q0 := q H1 s1
    cases e : plainD d with
    | false =>
      refine ⟨false, rfl, ?_⟩
      have z : letterD d = false := by
        cases hd <;> first | rfl | exact absurd (show true = false from e) (by decide)
      rw [z] at q0
      exact q0
    | true =>
      obtain ⟨i, rfl, rfl⟩ := plain_int hd e
      refine ⟨true, rfl, iteT ⟨_, rfl, 0, i, rfl, rfl, decide (0 ≤ i), rfl, ?_⟩⟩
      have z : letterD (.int i) = (decide (0 ≤ i) && decide (i ≤ 999999)) := rfl
      rw [z] at q0
      cases e0 : decide (0 ≤ i) with
      | false => rw [e0] at q0; exact q0
      | true => rw [e0] at q0; exact ⟨i, 999999, rfl, rfl, q0⟩
theorem ok_isTextX {k : Nat} (T : Txt K mg) : FnOk P w K mg base CX0 (k + 3) T.aIsText T.dIsText ["value"] (spAsk textD) := by
  have GIsLetter : FnOk P w K mg base CX0 (k + 2) T.aIsLetter T.dIsLetter ["value"] (spAsk letterD) := ok_letterX T
  refine T.fIsText.ok scIsText (fun vs H Q E h => ?_) (fun cdv A outer s H vs Q E hr h => ?_)
  · obtain ⟨_, _, _, rfl, _⟩ := h
    rfl
  · obtain ⟨N, x, d, rfl, hd, hb, q⟩ := h
    refine ⟨_, (pss_cons (ps_if (PW.pt (pw_or (pt_not (pt_val (pe_callB call_isi (by rfl) T.m_isinstance (by decide +kernel) (pa_cons (pv 0) (pa_cons (pe_bltn (v := .ty "tuple") (by rfl) T.m_tuple (by decide +kernel) rfl) pa_nil))))) (pw_or1 (pt_cmpR op_gt (pe_callB call_len_seq (by rfl) T.m_len PySem.boot_len (pa_cons (pv 0) pa_nil)) (pe_glob (v := .int 4096) rfl T.m_LONGEST_TEXT ⟨_, rfl⟩) (nomark _))))) (pss_one (ps_ret pe_bl)) pss_nil)
      (pss_one (ps_ret (pe_callB (cr_all rfl) (by rfl) T.m_all (by decide +kernel) (pa_cons (pe_lc (own := [("letter", 1)]) (g := gName 1) (tt := tYes) rfl scIsText.nd (pi_tup (pv 0)) (blkOk_by (N := ["value", "letter"]) (sc := defScope sIsText) (by decide +kernel)) (fun _ _ _ _ _ => pg_name (i := 1) scIsText.nd rfl (Or.inl rfl)) (fun _ _ _ _ _ => pts_nil) (fun _ _ _ _ _ => (pe_call GIsLetter hr (by rfl) T.gIsLetter T.fIsLetter.kp T.bIsLetter .nil pass0 (pa_cons (pv 1) pa_nil)))) pa_nil))))), ?_⟩
    have ty := hd.ty (K := K)
    refine ⟨_, rfl, _, _, .type (tyD d), .type "tuple", isTupD d, rfl, .ty "tuple", ty, kit_ty (kit_tup d), isTupD d, rfl, ?_⟩
    cases e : isTupD d with
    | false =>
      have q0 := q H (Same.refl H)
      rw [notTup e] at q0
      exact iteT q0
    | true =>
      obtain ⟨a, xs, ds, rfl, rfl, ha, _, hx⟩ := tup_dx hd e
      have hl := hx.length
      simp only [PyData.bulk] at hb
      have hb2 := bulk_len ds
      have zt : textD (.tuple ds) = (decide (ds.length ≤ 4096) && ds.all letterD) := rfl
      refine iteF ⟨_, rfl, a, xs, rfl, .inr (SqT.of ha), _, _, rfl, rfl, _, rfl, ite2 (fun e => ?_) (fun e => ?_)⟩
      · have h1 := of_decide_eq_true e
        have q0 := q H (Same.refl H)
        rw [zt, decide_eq_false (by omega)] at q0
        exact q0
      · have h1 : ¬ (4096 : Int) < xs.length := fun z => e (decide_eq_true z)
        rw [zt, decide_eq_true (by omega), Bool.true_and] at q
        refine ⟨_, rfl, a, rfl, ⟨xs, SqT.of ha⟩, fun D nD => lc_it (walk_tup (xs := xs)) (fun i H' => Same H H' ∧ H' D = some (.lst (((ds.take i).map letterD).map V.bl))) ?_ ?_ ?_ ?_⟩
        · exact ⟨same_new nD, upd_same⟩
        · exact fun i H' _ h => SqT.of (h.1 _ _ ha)
        · rintro i x H1 H2 hi ⟨s1, hD⟩ ⟨rfl, hx1⟩
          obtain ⟨dd, hdd, hxd⟩ := (hx.same s1).get hx1
          have hm := bulk_mem (List.mem_of_getElem? hdd)
          refine ⟨rfl, _, rfl, N, x, dd, rfl, hxd, by omega, fun H3 s3 => ⟨_, s3 _ _ hD, fitsLt (by rw [List.length_map, List.length_map, List.length_take]; omega), Same.put (s1.trans s3) nD, ?_⟩⟩
          rw [upd_same, List.take_add_one, hdd, List.map_append, List.map_append]
          rfl
        · rintro H1 ⟨s1, hD⟩
          rw [hl, List.take_length] at hD
          refine ⟨D, ds.map letterD, rfl, SqL.of hD, ?_⟩
          rw [show (ds.map letterD).all id = ds.all letterD by rw [List.all_map]; rfl]
          exact q H1 s1
theorem ok_initText {k : Nat} (T : Txt K mg) : FnOk P w K mg base CX0 (k + 1) T.iInvalidText T.dInvalidText ["self", "value"] (spInit T.cInvalidText "value") := by
  refine T.fInitInvalidText.ok scInitInvalidText (fun vs H Q E h => ?_) (fun cdv A outer s H vs Q E hr h => ?_)
  · obtain ⟨a, y, rfl, _⟩ := h
    rfl
  · obtain ⟨a, y, rfl, ha, q⟩ := h
    refine ⟨_, pss_one (ps_ost (pv 0) (pv 1)), ?_⟩
    exact ⟨_, rfl, _, rfl, a, T.cInvalidText, rfl, T.xInvalidText.oex, T.xInvalidText.no, .inl ⟨ha, fun dx nd ne => q dx nd ne⟩⟩
theorem ok_chkT {k : Nat} (T : Txt K mg) : FnOk P w K mg base (L2.CX P w) (k + 4) T.aCheckText T.dCheckText ["value"] (spChkT T.cInvalidText) := by
  have GIsText : FnOk P w K mg base CX0 (k + 3) T.aIsText T.dIsText ["value"] (spAsk textD) := ok_isTextX T
  have GInitInvalidText : FnOk P w K mg base CX0 (k + 2) T.iInvalidText T.dInvalidText ["self", "value"] (spInit T.cInvalidText "value") := ok_initText T
  refine T.fCheckText.okX scCheckText (fun vs H Q E h => ?_) (fun cdv A outer s H vs Q E hr h => ?_)
  · obtain ⟨_, _, _, rfl, _⟩ := h
    rfl
  · obtain ⟨N, x, d, rfl, hd, hb, q1, q2⟩ := h
    refine ⟨_, (pss_one (ps_if (pt_not (pt_val (pe_call GIsText hr (by rfl) T.gIsText T.fIsText.kp T.bIsText .nil pass0 (pa_cons (pv 0) pa_nil)))) (pss_one (ps_raise rfl (takes_of rfl rfl rfl rfl) (pmk_oex T.xInvalidText.oex T.xInvalidText.iC T.xInvalidText.tI GInitInvalidText hr T.bInitInvalidText .nil pass0 (by rfl) T.eInvalidText (pa_cons (pv 0) pa_nil)))) pss_nil)), ?_⟩
    refine ⟨_, rfl, N, x, d, rfl, hd, hb, fun H1 s1 => ⟨textD d, rfl, ?_⟩⟩
    cases e : textD d with
    | false => exact iteT ⟨_, rfl, err_read fun dd H' nd s2 hdx => q2 e dd H' (s1.free nd) (s1.trans s2) hdx⟩
    | true => exact iteF (q1 e H1 s1)
end
end Mo

/-! ### a walk whose turn is anything: for comprehensions of two sources -/
namespace Mo
open PySem PySem.Spec PyProof.Rows L2
theorem loop_it {J : It} {n : Nat} {G : Hp → Prop} {Y : Nat → Hp → V → Hp → Prop} {R : V → Hp → (Hp → Prop) → Prop} {H0 : Hp} {Qd : Hp → Prop} (w : Walk J n G Y) (Pv : Nat → Hp → Prop) (h0 : Pv 0 H0) (hG : ∀ i H, i ≤ n → Pv i H → G H)
    (hs : ∀ i x H H', i < n → Pv i H → Y i H x H' → R x H' (Pv (i + 1))) (hd : ∀ H, Pv n H → Qd H) :
    ∃ W : Nat → Nat → Hp → Prop, (∃ m, W 0 m H0) ∧ ∀ i m H, W i m H →
      (J.stop i H ∧ Qd H) ∨ (J.go i H ∧ ∃ Nx : Hp → Prop, (∀ H', Nx H' → ∃ m', m' < m ∧ W (i + 1) m' H') ∧ ∀ x H', J.yld i H x H' → R x H' Nx) := by
  refine ⟨fun i m H => Pv i H ∧ i + m = n, ⟨n, h0, Nat.zero_add n⟩, fun i m H h => ?_⟩
  obtain ⟨p, e⟩ := h
  have g := hG i H (by omega) p
  rcases Nat.eq_zero_or_pos m with z | z
  · have ei : i = n := by omega
    subst ei
    exact .inl ⟨w.stops H g, hd H p⟩
  · have lt : i < n := by omega
    exact .inr ⟨w.goes i H lt g, Pv (i + 1), fun H' q => ⟨m - 1, by omega, q, by omega⟩, fun x H' y => hs i x H H' lt p (w.yields i H x H' lt g y)⟩
theorem pe_fldK {X : Cx} {e : Expr} {f : Str} {pos : Pos} {ta : TE} {K : PySem.W.Frag} (h : X.K = K) (he : PE X e ta) (hb : attributeBase e f X.env (eval e X.env) = eval e X.env) : PE X (.Attribute e f pos) (tFld K ta f) := by
  subst h
  exact pe_fld he hb
theorem op_repNK {X : Cx} {K : PySem.W.Frag} (h : X.K = K) : OpR X (binaryOp .Mult) (rRepN K) := by
  subst h
  exact op_repN
end Mo

/-! ### growing letters; images cut to four letters -/
namespace Mo
open PySem PySem.Spec PyProof.Rows L2
def growB (ims : List (List Nat)) (l : Nat) : Bool := decide ((img ims l)[0]? = some l) && decide (1 < (img ims l).length)
theorem grow_img {ims : List (List Nat)} {l : Nat} (h : growB ims l = true) : ∃ b r, img ims l = l :: b :: r := by
  unfold growB at h
  rw [Bool.and_eq_true] at h
  have h1 := of_decide_eq_true h.1
  have h2 := of_decide_eq_true h.2
  cases e : img ims l with
  | nil => rw [e] at h2; cases h2
  | cons a r =>
    rw [e] at h1 h2
    obtain rfl : a = l := Option.some.inj h1
    cases r with
    | nil => exact absurd h2 (Nat.lt_irrefl _)
    | cons b r => exact ⟨b, r, rfl⟩
theorem grow_len {ims : List (List Nat)} (ok : Ims ims) {s l : Nat} (hl : l < ims.length) (h : growB ims l = true) : len ims s l < len ims (s + 1) l := by
  obtain ⟨b, r, e⟩ := grow_img h
  rw [len_succ, e, List.map_cons, List.map_cons, List.sum_cons, List.sum_cons]
  have := len_pos ok s (ok.lt _ (img_mem hl) b (by rw [e]; simp))
  omega
theorem grow_at {ims : List (List Nat)} {s l i : Nat} (h : growB ims l = true) (hi : i < len ims s l) : letAt ims (s + 1) l i = letAt ims s l i := by
  obtain ⟨b, r, e⟩ := grow_img h
  show letAt ims s (within (len ims s) (img ims l) i).1 (within (len ims s) (img ims l) i).2 = _
  rw [e, show within (len ims s) (l :: b :: r) i = (l, i) from if_pos hi]
theorem n2v_flat (im : List Nat) : ((nat2 im).map V.int).all flatV = true := by
  rw [List.all_eq_true]
  intro v hv
  obtain ⟨n, _, rfl⟩ := List.mem_map.mp hv
  rfl
theorem neFl_selfL {K : PySem.W.Frag} {H : Hp} {p r : Addr} {xs : List V} {Q : VK} (hp : H p = some (.lst xs)) (hr : H r = some (.lst xs)) (hf : xs.all flatV = true) (q : Q (.bl false) H) : rNeFl K (.ref p) (.ref r) H Q :=
  ⟨xs, xs, ⟨p, r, rfl, rfl, hf, hf, .inl ⟨SqL.of hp, SqL.of hr⟩⟩, by rw [eqLs_self hf]; exact q⟩
theorem strs_flat (zs : List Str) : (zs.map V.str).all flatV = true := by
  rw [List.all_eq_true]
  intro v hv
  obtain ⟨n, _, rfl⟩ := List.mem_map.mp hv
  rfl
theorem bool_fits (b : Bool) : (PyData.bool b).showable = true ∧ (PyData.bool b).depth ≤ 40 ∧ (PyData.bool b).shown.length ≤ sizeLine := (odd_bl b).fit.repr (by decide) (by decide) (by decide) (by decide)
theorem inV_nats (k : Nat) (G : List Nat) : inV (.int (k : Int)) ((nat2 G).map V.int) = decide (k ∈ G) := by
  unfold inV nat2
  rw [List.map_map, List.any_map]
  by_cases h : k ∈ G
  · rw [decide_eq_true h]
    refine List.any_eq_true.mpr ⟨k, h, ?_⟩
    show ((k : Int) == (k : Int)) = true
    exact beq_self_eq_true _
  · rw [decide_eq_false h]
    cases q : G.any _ with
    | false => rfl
    | true =>
      obtain ⟨x, hx, e⟩ := List.any_eq_true.mp q
      have e : ((x : Int) == (k : Int)) = true := e
      have : x = k := Int.ofNat.inj (beq_iff_eq.mp e)
      exact absurd (this ▸ hx) h
/-- what is refused -/
structure Ref (d : Addr) (H : Hp) (v : V) (e : PyData) (a b : Int) : Prop where
  dx : Dx (fun x => x = d) H v e
  fit : Fit 30 100 3 e
  no : cntB a b e = false
theorem Ref.fit2 {d : Addr} {H : Hp} {v : V} {e : PyData} {a b : Int} (h : Ref d H v e a b) : Fit 40 1000 5 e := h.fit.mono (by decide) (by decide) (by decide)
theorem Ref.bulk {d : Addr} {H : Hp} {v : V} {e : PyData} {a b : Int} (h : Ref d H v e a b) : e.bulk ≤ 1000000 := Nat.le_trans h.fit.bulk (by decide)
theorem Ref.kp {d : Addr} {H H' : Hp} {v : V} {e : PyData} {a b : Int} (h : Ref d H v e a b) (s : Kp d H H') : Ref d H' v e a b := ⟨h.dx.kp s, h.fit, h.no⟩
theorem Ref.int {d : Addr} {H : Hp} {i a b : Int} (h : i.natAbs < 10 ^ 30) (ho : i < a ∨ b < i) : Ref d H (.int i) (.int i) a b := ⟨.int i, fitI h (by decide), cnt_out ho⟩
theorem Nxt.tabs {H H' : Hp} {d c : Addr} {t : Nat} (h : Nxt H d c t) (s : LamX.ExtN H H') : Nxt H' d c t := by
  obtain ⟨ns, r, h1, h2, h3⟩ := h
  exact ⟨ns, r, s _ _ h1 (fun _ z => nomatch z), s _ _ h2 (fun _ z => nomatch z), h3⟩
theorem Nxt.dict {H : Hp} {d c : Addr} {t : Nat} (h : Nxt H d c t) : ∃ kvs, H d = some (.dK kvs) := by
  obtain ⟨ns, r, h1, _⟩ := h
  exact ⟨_, h1⟩
/-- a rule set kept, its instance and tuples not the pen's dict -/
theorem RlsAt.kp {C d : Addr} {kvs : List (Key × V)} {H H' : Hp} {r : Addr} {ims : List (List Nat)} (h : RlsAt C H r ims) (hd : H d = some (.dK kvs)) (s : Kp d H H') : RlsAt C H' r ims := by
  obtain ⟨dx, t, ps, h1, h2, h3⟩ := h
  refine ⟨dx, t, ps, s _ _ (ne_dk hd h1 (fun _ z => nomatch z)) h1 (fun _ z => nomatch z), s.tup (ne_dk hd h2 (fun _ z => nomatch z)) h2, h3.by fun p xs e => s.tup (ne_dk hd e (fun _ z => nomatch z)) e⟩
theorem ImsAt.kp {d : Addr} {kvs : List (Key × V)} {H H' : Hp} {ps : List Addr} {ims : List (List Nat)} (h : ImsAt H ps ims) (hd : H d = some (.dK kvs)) (s : Kp d H H') : ImsAt H' ps ims :=
  h.by fun p xs e => s.tup (ne_dk hd e (fun _ z => nomatch z)) e
/-- the first four letters of each image -/
def cut4 (ims : List (List Nat)) : List (List Nat) := ims.map fun im => im.take 4
end Mo

namespace Mo
open PySem PySem.Spec PyProof.Rows L2
theorem n2v_app (a b : List Nat) : (nat2 (a ++ b)).map V.int = (nat2 a).map V.int ++ (nat2 b).map V.int := by
  unfold nat2
  rw [List.map_append, List.map_append]
theorem flat_take {W : List Nat} {f : Nat → List Nat} {m a : Nat} (h : W[m]? = some a) : (W.take (m + 1)).flatMap f = (W.take m).flatMap f ++ f a := by
  rw [List.take_add_one, h, List.flatMap_append]
  simp
theorem flat_take_le (W : List Nat) (f : Nat → List Nat) (m : Nat) : ((W.take m).flatMap f).length ≤ (W.flatMap f).length := by
  conv => rhs; rw [← List.take_append_drop m W, List.flatMap_append, List.length_append]
  omega
section
variable {P : Program} {w : World} {K : PySem.W.Frag} {mg : Str → Option Value} {base : Heap}
def spChkTN : Sp := fun vs H Q _ => ∃ (a : Addr) (im : List Nat), vs = [.ref a] ∧ H a = some (.tup ((nat2 im).map V.int)) ∧ im.length ≤ 4096 ∧ (∀ n ∈ im, n ≤ 999999) ∧ ∀ H', Same H H' → Q .non H'
theorem ok_chkTN {k : Nat} (T : Txt K mg) : FnOk P w K mg base CX0 (k + 4) T.aCheckText T.dCheckText ["value"] spChkTN := by
  have GIsText : FnOk P w K mg base CX0 (k + 3) T.aIsText T.dIsText ["value"] spIsText := ok_isText T
  refine T.fCheckText.ok scCheckText (fun vs H Q E h => ?_) (fun cdv A outer s H vs Q E hr h => ?_)
  · obtain ⟨a, im, rfl, _⟩ := h
    rfl
  · obtain ⟨a, im, rfl, ha, hl, hi, q⟩ := h
    refine ⟨_, (pss_one (ps_if (pt_not (pt_val (pe_call GIsText hr (by rfl) T.gIsText T.fIsText.kp T.bIsText .nil pass0 (pa_cons (pv 0) pa_nil)))) (pss_one ps_never) pss_nil)), ?_⟩
    exact ⟨_, rfl, a, im, rfl, ha, hl, hi, fun H1 s1 => ⟨true, rfl, iteF (q H1 s1)⟩⟩
/-- each letter replaced -/
def spRApp (C : Addr) : Sp := fun vs H Q _ => ∃ (r p : Addr) (ims : List (List Nat)) (W : List Nat), vs = [.ref r, .ref p] ∧ RlsAt C H r ims ∧ Ims ims ∧ H p = some (.tup ((nat2 W).map V.int)) ∧ W.length ≤ 4096 ∧ (∀ z ∈ W, z < ims.length) ∧ (W.flatMap (img ims)).length ≤ 4096 ∧
  ∀ H' p', Same H H' → H' p' = some (.tup ((nat2 (W.flatMap (img ims))).map V.int)) → Q (.ref p') H'
theorem ok_rApp {k : Nat} (T : Txt K mg) : FnOk P w K mg base CX0 (k + 5) T.aRulesApply T.dRulesApply ["self", "text"] (spRApp T.cRules) := by
  have GCheckText : FnOk P w K mg base CX0 (k + 4) T.aCheckText T.dCheckText ["value"] spChkTN := ok_chkTN T
  refine T.fRulesApply.ok scRulesApply (fun vs H Q E h => ?_) (fun cdv A outer s H vs Q E hr h => ?_)
  · obtain ⟨r, p, ims, W, rfl, _⟩ := h
    rfl
  · obtain ⟨r, p, ims, W, rfl, ra, ok, hp, hl, hW, hz, q⟩ := h
    have n2 := ok.n2
    refine ⟨_, (pss_cons (ps_expr (pe_call GCheckText hr (by rfl) T.gCheckText T.fCheckText.kp T.bCheckText .nil pass0 (pa_cons (pv 1) pa_nil)))
      (pss_cons (ps_if (pt_not (pt_val (pe_callB (cr_all rfl) (by rfl) T.m_all (by decide +kernel) (pa_cons (pe_lc (own := [("letter", 2)]) (g := gName 2) (tt := tYes) rfl scRulesApply.nd (pi_tup (pv 1)) (blkOk_by (N := ["self", "text", "letter", "new"]) (sc := defScope sRulesApply) (by decide +kernel)) (fun _ _ _ _ _ => pg_name (i := 2) scRulesApply.nd rfl (Or.inl rfl)) (fun _ _ _ _ _ => pts_nil) (fun _ _ _ _ _ => (pe_cmpR op_lt (pv 2) (pe_callB (Mo.call_len_seqK (K := K) rfl) (by rfl) T.m_len PySem.boot_len (pa_cons (Mo.pe_fldK (K := K) rfl (pv 0) rfl) pa_nil)) (nomark _)))) pa_nil)))) (pss_one ps_never) pss_nil)
      (pss_cons (ps_if (pt_cmpR op_gt (pe_callB (cr_sum rfl) (by rfl) T.m_sum (by decide +kernel) (pa_cons (pe_lc (own := [("letter", 2)]) (g := gName 2) (tt := tYes) rfl scRulesApply.nd (pi_tup (pv 1)) (blkOk_by (N := ["self", "text", "letter", "new"]) (sc := defScope sRulesApply) (by decide +kernel)) (fun _ _ _ _ _ => pg_name (i := 2) scRulesApply.nd rfl (Or.inl rfl)) (fun _ _ _ _ _ => pts_nil) (fun _ _ _ _ _ => (pe_callB (Mo.call_len_seqK (K := K) rfl) (by rfl) T.m_len PySem.boot_len (pa_cons (pe_ix (Mo.ix_tupK (K := K) rfl) (Mo.pe_fldK (K := K) rfl (pv 0) rfl) (pv 2) (fun _ _ => rfl)) pa_nil)))) pa_nil)) (pe_glob (v := .int 4096) rfl T.m_LONGEST_TEXT ⟨_, rfl⟩) (nomark _)) (pss_one ps_never) pss_nil)
      (pss_one (ps_ret (pe_callTy call_tuple_of (by rfl) T.m_tuple (by decide +kernel) (pa_cons (pe_lc2 (own := [("letter", 2), ("new", 3)]) (vs1 := [3]) (g := gName 2) (g1 := gName 3) (tt := tYes) (tt1 := tYes) rfl scRulesApply.nd (pi_tup (pv 1)) (blkOk_by (N := ["self", "text", "letter", "new"]) (sc := defScope sRulesApply) (by decide +kernel)) (by decide) (fun _ _ _ _ _ => pg_name (i := 2) scRulesApply.nd rfl (Or.inl rfl)) (fun _ _ _ _ _ => pts_nil) (fun _ _ _ _ _ => (Mo.pi_tupK (K := K) rfl (pe_ix (Mo.ix_tupK (K := K) rfl) (Mo.pe_fldK (K := K) rfl (pv 0) rfl) (pv 2) (fun _ _ => rfl)))) (fun _ _ _ _ _ => pg_name (i := 3) scRulesApply.nd rfl (Or.inl rfl)) (fun _ _ _ _ _ => pts_nil) (fun _ _ _ _ _ => (pv 3))) pa_nil))))))), ?_⟩
    obtain ⟨dx, t, ps, h1, h2, h3⟩ := id ra
    have hlen : (ps.map V.ref).length = ims.length := by rw [List.length_map, h3.len]
    refine ⟨_, rfl, p, W, rfl, hp, hl, fun z hz => by have := hW z hz; omega, fun H1 s1 => ?_⟩
    -- all are letters of the rule set
    refine ⟨_, rfl, p, rfl, ⟨_, SqT.of (s1 _ _ hp)⟩, fun D nD => lc_tup (K := K) (a := p) (xs := (nat2 W).map V.int) (fun i H' => Same H1 H' ∧ H' D = some (.lst ((List.replicate i true).map V.bl))) ?_ ?_ ?_ ?_⟩
    · exact ⟨same_new nD, upd_same⟩
    · rintro i H2 _ ⟨s2, _⟩
      exact SqT.of (s2 _ _ (s1 _ _ hp))
    · rintro i x H2 hx ⟨s2, hD⟩
      obtain ⟨n, hn, rfl⟩ := n2v_get hx
      have hi2 := (List.getElem?_eq_some_iff.mp hn).1
      have hn2 := hW n (List.mem_of_getElem? hn)
      have s12 := s1.trans s2
      refine ⟨rfl, _, rfl, _, rfl, r, T.cRules, dx, _, _, rfl, s12 _ _ h1, T.clRules, T.nRules_table, tab_field, t, _, rfl, .inr (SqT.of (s12 _ _ h2)), _, _, rfl, rfl, ?_⟩
      refine ⟨_, hD, fitsLt (by rw [List.length_map, List.length_replicate]; omega), Same.put s2 nD, ?_⟩
      rw [upd_same, List.replicate_succ', List.map_append, hlen]
      have e : decide ((n : Int) < (ims.length : Int)) = true := decide_eq_true (by omega)
      show some (HO.lst (_ ++ [V.bl (decide ((n : Int) < (ims.length : Int)))])) = _
      rw [e]
      rfl
    rintro H2 ⟨s2, hD⟩
    refine ⟨D, _, rfl, SqL.of hD, ?_⟩
    rw [show (List.replicate ((nat2 W).map V.int).length true).all id = true by simp]
    refine ⟨true, rfl, iteF ?_⟩
    have s12 := s1.trans s2
    clear hD nD s1 s2
    -- the length
    refine ⟨_, rfl, p, rfl, ⟨_, SqT.of (s12 _ _ hp)⟩, fun E nE => lc_tup (K := K) (a := p) (xs := (nat2 W).map V.int) (fun m H' => Same H2 H' ∧ H' E = some (.lst ((nat2 ((W.take m).map fun p => (img ims p).length)).map V.int))) ?_ ?_ ?_ ?_⟩
    · exact ⟨same_new nE, upd_same⟩
    · rintro m H3 _ ⟨s3, _⟩
      exact SqT.of (s3 _ _ (s12 _ _ hp))
    · rintro m v H3 hv ⟨s3, hE⟩
      obtain ⟨b, hb, rfl⟩ := n2v_get hv
      have hb2 := hW b (List.mem_of_getElem? hb)
      have hm := (List.getElem?_eq_some_iff.mp hb).1
      have s13 := s12.trans s3
      obtain ⟨pp, hpp1, hpp⟩ := (h3.same s13).at hb2
      refine ⟨rfl, _, rfl, r, T.cRules, dx, _, _, rfl, s13 _ _ h1, T.clRules, T.nRules_table, tab_field, _, rfl, t, _, _, .ref pp, rfl, rfl, SqT.of (s13 _ _ h2), atI_nat (ref_at hpp1), pp, _, rfl, .inr (SqT.of hpp), _, hE, fitsLt (by rw [n2v_len, List.length_map, List.length_take]; omega), Same.put s3 nE, ?_⟩
      rw [upd_same, List.take_add_one, hb, List.map_append, show (some b).toList.map (fun p => (img ims p).length) = [(img ims b).length] from rfl, n2v_snoc, n2v_len]
    rintro H3 ⟨s3, hE⟩
    rw [n2v_len, List.take_length] at hE
    refine ⟨E, _, rfl, SqL.of hE, _, _, rfl, rfl, _, rfl, ite2 (fun e => ?_) (fun _ => ?_)⟩
    · have := of_decide_eq_true e
      rw [nat2_sum] at this
      rw [List.length_flatMap] at hz
      omega
    have s13 := s12.trans s3
    clear hE nE s12 s3
    -- the letters
    refine ⟨_, rfl, p, rfl, ⟨_, SqT.of (s13 _ _ hp)⟩, fun D nD => loop_it (walk_tup (K := K) (a := p) (xs := (nat2 W).map V.int)) (fun m H' => Same H3 H' ∧ H' D = some (.lst ((nat2 ((W.take m).flatMap (img ims))).map V.int))) ?_ ?_ ?_ ?_⟩
    · exact ⟨same_new nD, upd_same⟩
    · rintro m H4 _ ⟨s4, _⟩
      exact SqT.of (s4 _ _ (s13 _ _ hp))
    · rintro m v H4 H5 _ ⟨s4, hD⟩ ⟨rfl, hv⟩
      obtain ⟨b, hb, rfl⟩ := n2v_get hv
      have hb2 := hW b (List.mem_of_getElem? hb)
      have s14 := s13.trans s4
      obtain ⟨pp, hpp1, hpp⟩ := h3.at hb2
      have hz2 := Nat.le_trans (flat_take_le W (img ims) (m + 1)) hz
      rw [flat_take hb, List.length_append] at hz2
      refine ⟨rfl, _, rfl, r, T.cRules, dx, _, _, rfl, s14 _ _ h1, T.clRules, T.nRules_table, tab_field, _, rfl, t, _, _, .ref pp, rfl, rfl, SqT.of (s14 _ _ h2), atI_nat (ref_at hpp1), pp, rfl, ⟨_, SqT.of (s14 _ _ hpp)⟩, loop_it (walk_tup (K := K) (a := pp) (xs := (nat2 (img ims b)).map V.int)) (fun j H' => Same H3 H' ∧ H' D = some (.lst ((nat2 ((W.take m).flatMap (img ims) ++ (img ims b).take j)).map V.int))) ?_ ?_ ?_ ?_⟩
      · refine ⟨s4, ?_⟩
        rw [List.take_zero, List.append_nil]
        exact hD
      · rintro j H6 _ ⟨s6, _⟩
        exact SqT.of ((s13.trans s6) _ _ hpp)
      · rintro j u H6 H7 hj ⟨s6, hD6⟩ ⟨rfl, hu⟩
        obtain ⟨e, he, rfl⟩ := n2v_get hu
        rw [n2v_len] at hj
        refine ⟨rfl, _, rfl, _, hD6, fitsLt (by rw [n2v_len, List.length_append, List.length_take]; omega), Same.put s6 nD, ?_⟩
        rw [upd_same, List.take_add_one, he, ← List.append_assoc, show (some e).toList = [e] from rfl, n2v_snoc]
      · rintro H6 ⟨s6, hD6⟩
        rw [n2v_len, List.take_length, ← flat_take hb] at hD6
        exact ⟨s6, hD6⟩
    · rintro H4 ⟨s4, hD⟩
      rw [n2v_len, List.take_length] at hD
      refine ⟨D, _, rfl, .inl ⟨SqL.of hD, fun p' np' => q _ p' ((s13.trans s4).trans (same_new np')) upd_same⟩⟩
end
end Mo

namespace Mo
open PySem PySem.Spec PyProof.Rows L2
def BadT (cT : Addr) (H : Hp) (x : V) (E : XK) : Prop := ∀ dd H', H dd = none → Same H H' → H' dd = some (.xd [("value", x)]) → E (.ref cT) (some dd) H'
def TooL (cL : Addr) (H : Hp) (E : XK) : Prop := ∀ dd H', H dd = none → Same H H' → H' dd = some (.xd [("limit", .int 4096)]) → E (.ref cL) (some dd) H'
theorem BadT.same {cT : Addr} {H H1 : Hp} {x : V} {E : XK} (h : BadT cT H x E) (s : Same H H1) : BadT cT H1 x E := fun dd H' n s' e => h dd H' (s.free n) (s.trans s') e
theorem TooL.same {cT : Addr} {H H1 : Hp} {E : XK} (h : TooL cT H E) (s : Same H H1) : TooL cT H1 E := fun dd H' n s' e => h dd H' (s.free n) (s.trans s') e
section
variable {P : Program} {w : World} {K : PySem.W.Frag} {mg : Str → Option Value} {base : Heap}
theorem ok_initL {k : Nat} (T : Txt K mg) : FnOk P w K mg base CX0 (k + 1) T.iTooLarge T.dTooLarge ["self", "limit"] (spInit T.cTooLarge "limit") := by
  refine T.fInitTooLarge.ok scInitTooLarge (fun vs H Q E h => ?_) (fun cdv A outer s H vs Q E hr h => ?_)
  · obtain ⟨a, y, rfl, _⟩ := h
    rfl
  · obtain ⟨a, y, rfl, ha, q⟩ := h
    refine ⟨_, pss_one (Mo.ps_fieldG (pv 0) (pv 1)), ?_⟩
    exact ⟨_, rfl, _, rfl, a, T.cTooLarge, _, _, _, _, rfl, T.xTooLarge.ov, T.xTooLarge.no, ha, fun dx nd ne => q dx nd ne⟩
/-- a text refused -/
def spRAppX (C cT cL : Addr) : Sp := fun vs H Q E => ∃ (r : Addr) (ims : List (List Nat)) (x : V) (N : Addr → Prop) (d : PyData), vs = [.ref r, x] ∧ RlsAt C H r ims ∧ Dx N H x d ∧ d.bulk ≤ 1000000 ∧
  ((textD d = false ∧ BadT cT H x E) ∨ ∃ (p : Addr) (W : List Nat), x = .ref p ∧ H p = some (.tup ((nat2 W).map V.int)) ∧ textD d = true ∧ W.length ≤ 4096 ∧
    (((∃ z ∈ W, ims.length ≤ z) ∧ BadT cT H x E) ∨ ((∀ z ∈ W, z < ims.length) ∧ 4096 < (W.flatMap (img ims)).length ∧ TooL cL H E)))
theorem ok_rAppX {k : Nat} (T : Txt K mg) : FnOk P w K mg base (L2.CX P w) (k + 5) T.aRulesApply T.dRulesApply ["self", "text"] (spRAppX T.cRules T.cInvalidText T.cTooLarge) := by
  have GCheckTextX : FnOk P w K mg base (L2.CX P w) (k + 4) T.aCheckText T.dCheckText ["value"] (spChkT T.cInvalidText) := ok_chkT T
  have GInitInvalidText : FnOk P w K mg base CX0 (k + 3) T.iInvalidText T.dInvalidText ["self", "value"] (spInit T.cInvalidText "value") := ok_initText T
  have GInitTooLarge : FnOk P w K mg base CX0 (k + 3) T.iTooLarge T.dTooLarge ["self", "limit"] (spInit T.cTooLarge "limit") := ok_initL T
  refine T.fRulesApply.okX scRulesApply (fun vs H Q E h => ?_) (fun cdv A outer s H vs Q E hr h => ?_)
  · obtain ⟨r, ims, x, N, d, rfl, _⟩ := h
    rfl
  · obtain ⟨r, ims, x, N, d, rfl, ra, hx, hb, h⟩ := h
    refine ⟨_, (pss_cons (ps_expr (pe_call GCheckTextX hr (by rfl) T.gCheckText T.fCheckText.kp T.bCheckText .nil (passes_call (takes_of rfl rfl rfl rfl) (fun _ _ _ _ h => h)) (pa_cons (pv 1) pa_nil)))
      (pss_cons (ps_if (pt_not (pt_val (pe_callB (cr_all rfl) (by rfl) T.m_all (by decide +kernel) (pa_cons (pe_lc (own := [("letter", 2)]) (g := gName 2) (tt := tYes) rfl scRulesApply.nd (pi_tup (pv 1)) (blkOk_by (N := ["self", "text", "letter", "new"]) (sc := defScope sRulesApply) (by decide +kernel)) (fun _ _ _ _ _ => pg_name (i := 2) scRulesApply.nd rfl (Or.inl rfl)) (fun _ _ _ _ _ => pts_nil) (fun _ _ _ _ _ => (pe_cmpR op_lt (pv 2) (pe_callB (Mo.call_len_seqK (K := K) rfl) (by rfl) T.m_len PySem.boot_len (pa_cons (Mo.pe_fldK (K := K) rfl (pv 0) rfl) pa_nil)) (nomark _)))) pa_nil)))) (pss_one (ps_raise rfl (takes_of rfl rfl rfl rfl) (pmk_oex T.xInvalidText.oex T.xInvalidText.iC T.xInvalidText.tI GInitInvalidText hr T.bInitInvalidText .nil pass0 (by rfl) T.eInvalidText (pa_cons (pv 1) pa_nil)))) pss_nil)
      (pss_cons (ps_if (pt_cmpR op_gt (pe_callB (cr_sum rfl) (by rfl) T.m_sum (by decide +kernel) (pa_cons (pe_lc (own := [("letter", 2)]) (g := gName 2) (tt := tYes) rfl scRulesApply.nd (pi_tup (pv 1)) (blkOk_by (N := ["self", "text", "letter", "new"]) (sc := defScope sRulesApply) (by decide +kernel)) (fun _ _ _ _ _ => pg_name (i := 2) scRulesApply.nd rfl (Or.inl rfl)) (fun _ _ _ _ _ => pts_nil) (fun _ _ _ _ _ => (pe_callB (Mo.call_len_seqK (K := K) rfl) (by rfl) T.m_len PySem.boot_len (pa_cons (pe_ix (Mo.ix_tupK (K := K) rfl) (Mo.pe_fldK (K := K) rfl (pv 0) rfl) (pv 2) (fun _ _ => rfl)) pa_nil)))) pa_nil)) (pe_glob (v := .int 4096) rfl T.m_LONGEST_TEXT ⟨_, rfl⟩) (nomark _)) (pss_one (ps_raise rfl (takes_of rfl rfl rfl rfl) (Mo.pmkG T.xTooLarge.ov T.xTooLarge.iC T.xTooLarge.tI GInitTooLarge hr T.bInitTooLarge pass0 (by rfl) T.eTooLarge (pa_cons (pe_glob (v := .int 4096) rfl T.m_LONGEST_TEXT ⟨_, rfl⟩) pa_nil)))) pss_nil)
      (pss_one (ps_ret (pe_callTy call_tuple_of (by rfl) T.m_tuple (by decide +kernel) (pa_cons (pe_lc2 (own := [("letter", 2), ("new", 3)]) (vs1 := [3]) (g := gName 2) (g1 := gName 3) (tt := tYes) (tt1 := tYes) rfl scRulesApply.nd (pi_tup (pv 1)) (blkOk_by (N := ["self", "text", "letter", "new"]) (sc := defScope sRulesApply) (by decide +kernel)) (by decide) (fun _ _ _ _ _ => pg_name (i := 2) scRulesApply.nd rfl (Or.inl rfl)) (fun _ _ _ _ _ => pts_nil) (fun _ _ _ _ _ => (Mo.pi_tupK (K := K) rfl (pe_ix (Mo.ix_tupK (K := K) rfl) (Mo.pe_fldK (K := K) rfl (pv 0) rfl) (pv 2) (fun _ _ => rfl)))) (fun _ _ _ _ _ => pg_name (i := 3) scRulesApply.nd rfl (Or.inl rfl)) (fun _ _ _ _ _ => pts_nil) (fun _ _ _ _ _ => (pv 3))) pa_nil))))))), ?_⟩
    obtain ⟨dx, t, ps, h1, h2, h3⟩ := id ra
    have hlen : (ps.map V.ref).length = ims.length := by rw [List.length_map, h3.len]
    rcases h with ⟨no, q⟩ | ⟨p, W, rfl, hp, yes, hl, h⟩
    · refine ⟨_, rfl, N, x, d, rfl, hx, hb, fun z => ?_, fun _ => q⟩
      rw [no] at z
      cases z
    refine ⟨_, rfl, N, _, d, rfl, hx, hb, fun _ H1 s1 => ?_, fun z => ?_⟩
    rotate_left
    · rw [yes] at z
      cases z
    refine ⟨_, rfl, p, rfl, ⟨_, SqT.of (s1 _ _ hp)⟩, fun D nD => lc_tup (K := K) (a := p) (xs := (nat2 W).map V.int) (fun i H' => Same H1 H' ∧ H' D = some (.lst (((W.take i).map fun z => decide (z < ims.length)).map V.bl))) ?_ ?_ ?_ ?_⟩
    · exact ⟨same_new nD, upd_same⟩
    · rintro i H2 _ ⟨s2, _⟩
      exact SqT.of (s2 _ _ (s1 _ _ hp))
    · rintro i x H2 hx ⟨s2, hD⟩
      obtain ⟨n, hn, rfl⟩ := n2v_get hx
      have hi2 := (List.getElem?_eq_some_iff.mp hn).1
      have s12 := s1.trans s2
      refine ⟨rfl, _, rfl, _, rfl, r, T.cRules, dx, _, _, rfl, s12 _ _ h1, T.clRules, T.nRules_table, tab_field, t, _, rfl, .inr (SqT.of (s12 _ _ h2)), _, _, rfl, rfl, ?_⟩
      refine ⟨_, hD, fitsLt (by rw [List.length_map, List.length_map, List.length_take]; omega), Same.put s2 nD, ?_⟩
      rw [upd_same, List.take_add_one, hn, List.map_append, List.map_append, hlen]
      have e : decide ((n : Int) < (ims.length : Int)) = decide (n < ims.length) := decide_eq_decide.mpr ⟨fun z => by omega, fun z => by omega⟩
      show some (HO.lst (_ ++ [V.bl (decide ((n : Int) < (ims.length : Int)))])) = _
      rw [e]
      rfl
    rintro H2 ⟨s2, hD⟩
    rw [n2v_len, List.take_length] at hD
    refine ⟨D, _, rfl, SqL.of hD, ?_⟩
    have s12 := s1.trans s2
    clear nD
    rcases h with ⟨⟨z, hz, hlz⟩, q⟩ | ⟨hW, hlong, q⟩
    · rw [show (W.map fun z => decide (z < ims.length)).all id = false by
        rw [List.all_map]
        refine List.all_eq_false.mpr ⟨z, hz, ?_⟩
        show ¬ decide (z < ims.length) = true
        rw [decide_eq_false (by omega)]
        exact Bool.false_ne_true]
      exact ⟨false, rfl, iteT ⟨_, rfl, err_read fun dd H' nd s3 hdx => q dd H' (s12.free nd) (s12.trans s3) hdx⟩⟩
    rw [show (W.map fun z => decide (z < ims.length)).all id = true by
      rw [List.all_map]
      refine List.all_eq_true.mpr fun z hz => ?_
      exact decide_eq_true (hW z hz)]
    refine ⟨true, rfl, iteF ?_⟩
    clear hD s1 s2
    refine ⟨_, rfl, p, rfl, ⟨_, SqT.of (s12 _ _ hp)⟩, fun E nE => lc_tup (K := K) (a := p) (xs := (nat2 W).map V.int) (fun m H' => Same H2 H' ∧ H' E = some (.lst ((nat2 ((W.take m).map fun p => (img ims p).length)).map V.int))) ?_ ?_ ?_ ?_⟩
    · exact ⟨same_new nE, upd_same⟩
    · rintro m H3 _ ⟨s3, _⟩
      exact SqT.of (s3 _ _ (s12 _ _ hp))
    · rintro m v H3 hv ⟨s3, hE⟩
      obtain ⟨b, hb, rfl⟩ := n2v_get hv
      have hb2 := hW b (List.mem_of_getElem? hb)
      have hm := (List.getElem?_eq_some_iff.mp hb).1
      have s13 := s12.trans s3
      obtain ⟨pp, hpp1, hpp⟩ := (h3.same s13).at hb2
      refine ⟨rfl, _, rfl, r, T.cRules, dx, _, _, rfl, s13 _ _ h1, T.clRules, T.nRules_table, tab_field, _, rfl, t, _, _, .ref pp, rfl, rfl, SqT.of (s13 _ _ h2), atI_nat (ref_at hpp1), pp, _, rfl, .inr (SqT.of hpp), _, hE, fitsLt (by rw [n2v_len, List.length_map, List.length_take]; omega), Same.put s3 nE, ?_⟩
      rw [upd_same, List.take_add_one, hb, List.map_append, show (some b).toList.map (fun p => (img ims p).length) = [(img ims b).length] from rfl, n2v_snoc, n2v_len]
    rintro H3 ⟨s3, hE⟩
    rw [n2v_len, List.take_length] at hE
    refine ⟨E, _, rfl, SqL.of hE, _, _, rfl, rfl, _, rfl, ite2 (fun _ => ?_) (fun e => ?_)⟩
    · exact err_read fun dd H' nd s4 hdx => q dd H' ((s12.trans s3).free nd) ((s12.trans s3).trans s4) hdx
    · refine absurd (decide_eq_true ?_) e
      rw [nat2_sum]
      rw [List.length_flatMap] at hlong
      omega
/-- what _law_told makes of a call that InvalidText or TooLarge refuses -/
def TTold (cT cL : Addr) : (XK → Hp → VK → Prop) → Hp → VK → Prop := fun tl H Q =>
  (∃ (N : Addr → Prop) (x : V) (d : PyData), Dx N H x d ∧ Fit 40 60000 6 d ∧ (∀ (E : XK) (Q1 : VK), BadT cT H x E → tl E H Q1) ∧
    ∀ H' p, Same H H' → H' p = some (.tup [.str (Str.ofString "text"), .str d.shown, .bl true]) → Q (.ref p) H') ∨
  ((∀ (E : XK) (Q1 : VK), TooL cL H E → tl E H Q1) ∧ ∀ H' p, Same H H' → H' p = some (.tup [.str (Str.ofString "large"), .str (PyData.int 4096).shown, .bl true]) → Q (.ref p) H')
theorem fit4096 : Fit 40 60000 6 (.int 4096) := fitI (by decide) (by decide)
theorem givesLTold (T : Txt K mg) (hbm : ∃ mm, base.Ns sysModules mm) {N : List Str} {qual : Str} {sc : Scope} {f0 : Addr} {cd0 : Value} {A : Around} {outer : List Env} {s0 : Shared} {H0 : Hp} {E0 : XK} {k : Nat} {q : Str} (hgd : A.guards = some []) :
    ∀ cdv : Value, Gives (cxOf CX0 P w K mg base N qual sc f0 cd0 A outer s0 H0 E0).nox ["_law_call", "_law_heard", "e"] "_law_told" (defScope sLTold) T.aLTold cdv (defBody sLTold) "_law_call" q k (TTold T.cInvalidText T.cTooLarge) := by
  intro cdv fn cc s H Q tl hr act hco h
  refine ⟨_, (pss_cons (ps_set (i := 1) scLTold.nd rfl (Or.inl rfl) pe_non)
      (pss_cons (Mo.ps_try_each rfl rfl scLTold.nd takes0 (fun W pn xe tk _ => (pss_one (ps_set (i := 1) scLTold.nd rfl (Or.inl rfl) (act _ _ _ _ _ tk)))) (.cons ⟨rfl, by decide, Or.inl T.eInvalidRules⟩ (i := 2) rfl rfl (fun a oe cls d pn hz hf => (pss_one (ps_set (i := 1) scLTold.nd rfl (Or.inl rfl) (pe_tup (pa_cons pe_str (pa_cons (pe_callB (Mo.cr_reprX hbm hgd hr.units) (by rfl) T.m_repr (by decide +kernel) (pa_cons (Mo.pe_xs hz hf (pv 2)) pa_nil)) (pa_cons (pe_and (pe_callB (Mo.cr_isS hz hf) (by rfl) T.m_isinstance (by decide +kernel) (pa_cons (pv 2) (pa_cons (pe_bltn (v := .ty "ValueError") (by rfl) T.m_ValueError (by decide +kernel) rfl) pa_nil))) (pe_one (pe_not (pe_callB (Mo.cr_isST hz hf) (by rfl) T.m_isinstance (by decide +kernel) (pa_cons (pv 2) (pa_cons (pe_tup (pa_cons (pe_glob (v := .ref T.cInvalidText) rfl T.eInvalidText rfl) (pa_cons (pe_glob (v := .ref T.cInvalidCount) rfl T.eInvalidCount rfl) pa_nil))) pa_nil)))))) pa_nil))))))) (.cons ⟨rfl, by decide, Or.inl T.eInvalidText⟩ (i := 2) rfl rfl (fun a oe cls d pn hz hf => (pss_one (ps_set (i := 1) scLTold.nd rfl (Or.inl rfl) (pe_tup (pa_cons pe_str (pa_cons (pe_callB (Mo.cr_reprX hbm hgd hr.units) (by rfl) T.m_repr (by decide +kernel) (pa_cons (Mo.pe_xs hz hf (pv 2)) pa_nil)) (pa_cons (pe_and (pe_callB (Mo.cr_isS hz hf) (by rfl) T.m_isinstance (by decide +kernel) (pa_cons (pv 2) (pa_cons (pe_bltn (v := .ty "ValueError") (by rfl) T.m_ValueError (by decide +kernel) rfl) pa_nil))) (pe_one (pe_not (pe_callB (Mo.cr_isS hz hf) (by rfl) T.m_isinstance (by decide +kernel) (pa_cons (pv 2) (pa_cons (pe_glob (v := .ref T.cInvalidCount) rfl T.eInvalidCount rfl) pa_nil)))))) pa_nil))))))) (.cons ⟨rfl, by decide, Or.inl T.eInvalidCount⟩ (i := 2) rfl rfl (fun a oe cls d pn hz hf => (pss_one (ps_set (i := 1) scLTold.nd rfl (Or.inl rfl) (pe_tup (pa_cons pe_str (pa_cons (pe_callB (Mo.cr_reprX hbm hgd hr.units) (by rfl) T.m_repr (by decide +kernel) (pa_cons (Mo.pe_xs hz hf (pv 2)) pa_nil)) (pa_cons (pe_callB (Mo.cr_isS hz hf) (by rfl) T.m_isinstance (by decide +kernel) (pa_cons (pv 2) (pa_cons (pe_bltn (v := .ty "ValueError") (by rfl) T.m_ValueError (by decide +kernel) rfl) pa_nil))) pa_nil))))))) (.cons ⟨rfl, by decide, Or.inl T.eTooLarge⟩ (i := 2) rfl rfl (fun a oe cls d pn hz hf => (pss_one (ps_set (i := 1) scLTold.nd rfl (Or.inl rfl) (pe_tup (pa_cons pe_str (pa_cons (pe_callB (Mo.cr_reprX hbm hgd hr.units) (by rfl) T.m_repr (by decide +kernel) (pa_cons (Mo.pe_xs hz hf (pv 2)) pa_nil)) (pa_cons (pe_callB (Mo.cr_isS hz hf) (by rfl) T.m_isinstance (by decide +kernel) (pa_cons (pv 2) (pa_cons (pe_bltn (v := .ty "OverflowError") (by rfl) T.m_OverflowError (by decide +kernel) rfl) pa_nil))) pa_nil))))))) .nil)))))
      (pss_one (ps_ret (pv 1))))), ?_⟩
  refine ⟨rfl, hco, fun cls d H' => _, fun cls d H' z => z, ?_⟩
  rcases h with ⟨N0, x, d, dx, fx, hC, q⟩ | ⟨hC, q⟩
  · obtain ⟨f1, f2, f3⟩ := fx.repr (by decide) (by decide) (by decide) (by decide)
    refine hC _ _ fun dd H1 nd s1 hd => ?_
    refine ⟨false, T.mInvalidTextInvalidRules, fun z => Bool.noConfusion z, fun _ => ⟨true, T.xInvalidText.te, fun _ a na => ?_, fun z => nomatch z⟩⟩
    refine ⟨_, rfl, T.cInvalidText, dd, _, x, rfl, rfl, rfl, hd, T.xInvalidText.xf, T.xInvalidText.no, by simp [List.lookup], N0, x, d, rfl, dx.same s1, f1, f2, f3, ?_⟩
    refine ⟨_, rfl, T.cInvalidText, dd, _, .ty "ValueError", .type "ValueError", true, rfl, rfl, rfl, hd, T.xInvalidText.exc, .ty _, T.oInvalidTextValueError, true, rfl, ?_⟩
    refine ⟨_, rfl, T.cInvalidText, dd, _, .ref T.cInvalidCount, .ref T.cInvalidCount, false, rfl, rfl, rfl, hd, T.xInvalidText.exc, .own _, T.oInvalidTextInvalidCount, false, rfl, ?_⟩
    refine ⟨by show 3 ≤ sizeLine; decide, fun p np => ?_⟩
    exact ⟨_, rfl, q _ p (s1.trans (same_new np)) upd_same⟩
  · obtain ⟨f1, f2, f3⟩ := fit4096.repr (by decide) (by decide) (by decide) (by decide)
    refine hC _ _ fun dd H1 nd s1 hd => ?_
    refine ⟨false, T.mTooLargeInvalidRules, fun z => Bool.noConfusion z, fun _ => ⟨false, T.mTooLargeInvalidText, fun z => Bool.noConfusion z, fun _ => ⟨false, T.mTooLargeInvalidCount, fun z => Bool.noConfusion z, fun _ => ⟨true, T.xTooLarge.te, fun _ a na => ?_, fun z => nomatch z⟩⟩⟩⟩
    refine ⟨_, rfl, T.cTooLarge, dd, _, .int 4096, rfl, rfl, rfl, hd, T.xTooLarge.xf, T.xTooLarge.no, by simp [List.lookup], fun _ => False, .int 4096, .int 4096, rfl, .int _, f1, f2, f3, ?_⟩
    refine ⟨_, rfl, T.cTooLarge, dd, _, .ty "OverflowError", .type "OverflowError", true, rfl, rfl, rfl, hd, T.xTooLarge.exc, .ty _, T.oTooLargeOverflowError, ?_⟩
    refine ⟨by show 3 ≤ sizeLine; decide, fun p np => ?_⟩
    exact ⟨_, rfl, q _ p (s1.trans (same_new np)) upd_same⟩
/-- each letter replaced by its image -/
def spRepl : Sp := fun vs H Q _ => ∃ (L t : Addr) (ps : List Addr) (ims : List (List Nat)) (W : List Nat), vs = [.ref L, .ref t] ∧ H L = some (.lst (ps.map V.ref)) ∧ ImsAt H ps ims ∧ H t = some (.tup ((nat2 W).map V.int)) ∧ (∀ x ∈ W, x < ims.length) ∧ (W.flatMap (img ims)).length ≤ 4096 ∧
  ∀ H' p, Same H H' → H' p = some (.tup ((nat2 (W.flatMap (img ims))).map V.int)) → Q (.ref p) H'
theorem ok_repl {k : Nat} (T : Txt K mg) : FnOk P w K mg base CX0 (k + 2) T.aLReplaced T.dLReplaced ["_law_images_here", "_law_text"] spRepl := by
  refine T.fLReplaced.ok scLReplaced (fun vs H Q E h => ?_) (fun cdv A outer s H vs Q E hr h => ?_)
  · obtain ⟨L, t, ps, ims, W, rfl, _⟩ := h
    rfl
  · obtain ⟨L, t, ps, ims, W, rfl, hL, h3, ht, hW, hz, q⟩ := h
    refine ⟨_, (pss_cons (ps_set (i := 2) scLReplaced.nd rfl (Or.inl rfl) (pe_tup pa_nil))
      (pss_cons (ps_for PassesOwn.never rfl (pi_tup (pv 1)) (pg_name (i := 3) scLReplaced.nd rfl (Or.inl rfl)) (pss_one (ps_set (i := 2) scLReplaced.nd rfl (Or.inl rfl) (pe_op op_catA (pv 2) (pe_ix ix_list (pv 0) (pv 3) (fun _ _ => rfl))))))
      (pss_one (ps_ret (pv 2))))), ?_⟩
    refine ⟨by show 0 ≤ sizeLine; decide, fun D nD => ?_⟩
    refine ⟨_, rfl, t, rfl, ⟨_, SqT.of (same_new nD _ _ ht)⟩, for_tup (K := K) (a := t) (xs := (nat2 W).map V.int) (fun m σ H' => ∃ (f : Addr) (o3 : Option V), σ = [some (.ref L), some (.ref t), some (.ref f), o3] ∧ Same H H' ∧ H' f = some (.tup ((nat2 ((W.take m).flatMap (img ims))).map V.int))) ?_ ?_ ?_ ?_⟩
    · exact ⟨D, _, rfl, same_new nD, upd_same⟩
    · rintro m σ H1 _ ⟨f, o3, rfl, s1, _⟩
      exact SqT.of (s1 _ _ ht)
    · rintro m v σ H1 hv ⟨f, o3, rfl, s1, hf⟩
      obtain ⟨a, ha, rfl⟩ := n2v_get hv
      have ha2 := hW a (List.mem_of_getElem? ha)
      obtain ⟨p, hp, hpp⟩ := (h3.same s1).at ha2
      have hz2 := Nat.le_trans (flat_take_le W (img ims) (m + 1)) hz
      rw [flat_take ha, List.length_append] at hz2
      refine ⟨_, rfl, _, rfl, _, rfl, L, _, _, .ref p, rfl, rfl, SqL.of (s1 _ _ hL), atI_nat (ref_at hp), catA_any hf hpp (Nat.le_of_lt (fitsLt (by rw [n2v_len, n2v_len]; omega))) fun p2 H2 s2 h2 _ => ?_⟩
      refine ⟨p2, _, rfl, s1.trans s2, ?_⟩
      rw [h2, flat_take ha, n2v_app]
    · rintro σ H1 ⟨f, o3, rfl, s1, hf⟩
      rw [n2v_len, List.take_length] at hf
      exact ⟨_, rfl, q H1 f s1 hf⟩
end
end Mo

namespace Mo
open PySem PySem.Spec PyProof.Rows L2
section
variable {P : Program} {w : World} {K : PySem.W.Frag} {mg : Str → Option Value} {base : Heap}
theorem ints_dp {H : Hp} : ∀ ns : List Int, DpAll K H (ns.map V.int) (ns.map PyData.int)
  | [] => .nil
  | n :: ns => .cons (.int n) (ints_dp ns)
theorem mod_in {a b : Int} (h : 0 < b) : 0 ≤ a.fmod b ∧ a.fmod b < b := by
  rw [Int.fmod_eq_emod_of_nonneg _ (Int.le_of_lt h)]
  exact ⟨Int.emod_nonneg _ (by omega), Int.emod_lt_of_pos _ h⟩
theorem div_in {a b : Int} (h : 0 < b) (ha : 0 ≤ a) : 0 ≤ a.fdiv b := by
  rw [Int.fdiv_eq_ediv_of_nonneg _ (Int.le_of_lt h)]
  exact Int.ediv_nonneg ha (Int.le_of_lt h)
theorem nat_of {i : Int} (h : 0 ≤ i) : ∃ j : Nat, i = (j : Int) := ⟨i.toNat, by omega⟩
theorem ok_draw {k : Nat} (T : Txt K mg) : FnOk P w K mg base CX0 (k + 1) T.aLDraw T.dLDraw ["_law_pen_here", "_law_many"] spNDraw := by
  refine T.fLDraw.ok scLDraw (fun vs H Q E h => ?_) (fun cdv A outer s H vs Q E hr h => ?_)
  · obtain ⟨d, c, n, t, rfl, _⟩ := h
    rfl
  · obtain ⟨d, c, n, t, rfl, src, n0, n1, ht, q⟩ := h
    have hu := hu_of hr
    obtain ⟨ns, r, hd, hc, hl, r0⟩ := id src
    have ndc := src.ne
    have gC := DGet.k (k := Sum.inr "cells") hd
    have gT := DGet.k (k := Sum.inr "next") hd
    have gR := DGet.k (k := Sum.inr "rest") hd
    rw [nxt_cells] at gC
    rw [nxt_next] at gT
    rw [nxt_rest] at gR
    have nz : n ≠ 0 := by omega
    have na : n.natAbs < 1073741824 := by omega
    refine ⟨_, (pss_cons (ps_if (pt_cmpR op_gt (pe_dget hu (pv 0) pe_str (fun _ _ => rfl)) pe_int (nomark _)) (pss_cons (ps_set (i := 2) scLDraw.nd rfl (Or.inl rfl) (pe_op op_modN (pe_dget hu (pv 0) pe_str (fun _ _ => rfl)) (pv 1)))
      (pss_cons (ps_dput hu (pv 0) pe_str (pe_op op_fdivN (pe_dget hu (pv 0) pe_str (fun _ _ => rfl)) (pv 1)) rfl)
      (pss_one (ps_ret (pv 2))))) pss_nil)
      (pss_cons (ps_set (i := 3) scLDraw.nd rfl (Or.inl rfl) (pe_dget hu (pv 0) pe_str (fun _ _ => rfl)))
      (pss_cons (ps_dput hu (pv 0) pe_str (pe_op op_add (pv 3) pe_int) rfl)
      (pss_cons (ps_set (i := 4) scLDraw.nd rfl (Or.inl rfl) (pe_op op_add (pe_op op_mul pe_int (pv 3)) pe_int))
      (Evl.pss_cut (ps_if (pt_cmpR (Mo.op_neNil hr.units) (pe_dget hu (pv 0) pe_str (fun _ _ => rfl)) (pe_lst pa_nil) (nomark _)) (pss_one (ps_set (i := 4) scLDraw.nd rfl (Or.inl rfl) (pe_ix ix_list (pe_dget hu (pv 0) pe_str (fun _ _ => rfl)) (pe_op op_modN (pv 3) (pe_callB call_len_seq (by rfl) T.m_len PySem.boot_len (pa_cons (pe_dget hu (pv 0) pe_str (fun _ _ => rfl)) pa_nil))) (fun _ _ => rfl)))) pss_nil)
      (Evl.pss_cut (ps_if (PW.pt (pw_and (pt_cmpR op_lt (pv 3) (pe_callB call_len_seq (by rfl) T.m_len PySem.boot_len (pa_cons (pe_dget hu (pv 0) pe_str (fun _ _ => rfl)) pa_nil)) (nomark _)) (pw_and1 (pt_cmpR op_ge (pe_callB call_abs (by rfl) T.m_abs (by decide +kernel) (pa_cons (pv 4) pa_nil)) (pe_op op_pow pe_int pe_int) (nomark _))))) (pss_cons (ps_dput hu (pv 0) pe_str (pe_op op_fdivN (pe_op op_sub (pe_callB call_abs (by rfl) T.m_abs (by decide +kernel) (pa_cons (pv 4) pa_nil)) (pe_op op_pow pe_int pe_int)) (pv 1)) rfl)
      (pss_one (ps_ret (pe_op op_modN (pe_op op_sub (pe_callB call_abs (by rfl) T.m_abs (by decide +kernel) (pa_cons (pv 4) pa_nil)) (pe_op op_pow pe_int pe_int)) (pv 1))))) pss_nil)
      (pss_cons (ps_set (i := 5) scLDraw.nd rfl (Or.inl rfl) (pe_op op_modN (pe_op op_add (pe_op op_add (pe_op op_add (pe_op op_mul (pe_op op_modN (pv 4) pe_int) pe_int) (pe_op op_mul (pe_op op_mul pe_int (pv 3)) (pv 3))) (pe_op op_mul pe_int (pv 3))) pe_int) pe_int))
      (pss_cons (ps_set (i := 5) scLDraw.nd rfl (Or.inl rfl) (pe_op op_modN (pe_op op_add (pe_op op_add (pe_op op_add (pe_op op_mul (pv 5) (pv 5)) (pe_op op_mul pe_int (pv 5))) (pe_op op_mul pe_int (pv 3))) pe_int) pe_int))
      (pss_one (ps_ret (pe_op op_modN (pe_op op_fdivN (pe_op op_modN (pe_op op_mul (pv 5) (pe_op op_add (pv 5) pe_int)) pe_int) pe_int) (pv 1)))))))))))), ?_⟩
    refine ⟨_, rfl, d, _, rfl, gR, _, _, rfl, rfl, _, rfl, ite2 (fun e => ?_) (fun e => ?_)⟩
    · -- a digit of the rest
      refine ⟨_, rfl, d, _, rfl, gR, _, rfl, r, n, rfl, rfl, nz, ?_⟩
      refine ⟨_, rfl, d, _, rfl, gR, _, rfl, r, n, rfl, rfl, ⟨nz, na⟩, _, rfl, d, _, rfl, DPut.k (k := Sum.inr "rest") hd (by show 3 < sizeLine; decide), ?_⟩
      rw [nput_rest]
      exact ⟨_, rfl, q _ _ t But.set (nxt_set src (div_in n0 r0)) (Nat.le_succ _) (mod_in n0).1 (mod_in n0).2⟩
    · -- turn, turn + 1
      refine ⟨_, rfl, d, _, rfl, gT, ?_⟩
      refine ⟨_, rfl, t, 1, rfl, rfl, _, rfl, d, _, rfl, DPut.k (k := Sum.inr "next") hd (by show 3 < sizeLine; decide), ?_⟩
      rw [nput_next, show (t : Int) + 1 = ((t + 1 : Nat) : Int) by omega]
      have src1 : Nxt (upd H d (.dK (nxtD c ((t + 1 : Nat) : Int) r))) d c (t + 1) := nxt_set src r0
      have but1 : But d H (upd H d (.dK (nxtD c ((t + 1 : Nat) : Int) r))) := But.set
      generalize eH1 : upd H d (.dK (nxtD c ((t + 1 : Nat) : Int) r)) = H1 at *
      have hc1 : H1 c = some (.lst (ns.map V.int)) := but1 _ _ ndc.symm hc
      have hd1 : H1 d = some (.dK (nxtD c ((t + 1 : Nat) : Int) r)) := by rw [← eH1, upd_same]
      have gC1 := DGet.k (k := Sum.inr "cells") hd1
      rw [nxt_cells] at gC1
      -- cell
      refine ⟨_, rfl, 29, t, rfl, rfl, .inl ⟨by decide, by decide⟩, _, 7, rfl, rfl, ?_⟩
      -- if cells != []
      refine ⟨fun σ' H' => ∃ (v : Int) (o2 o5 : Option V), σ' = [some (.ref d), some (.int n), o2, some (.int t), some (.int v), o5] ∧ Same H1 H', ?_, ?_⟩
      · refine ⟨_, rfl, d, _, rfl, gC1, Nat.zero_le _, fun p np => ?_⟩
        have sm := same_new (o := .lst []) np
        refine ⟨c, p, _, rfl, rfl, SqL.of (sm _ _ hc1), SqL.of upd_same, _, rfl, ite2 (fun e => ?_) (fun e => ?_)⟩
        · have hne : ns ≠ [] := by
            rintro rfl
            exact absurd e (by decide)
          have gC2 := DGet.k (k := Sum.inr "cells") (sm _ _ hd1)
          rw [nxt_cells] at gC2
          have hlen : 0 < ns.length := List.length_pos_iff.mpr hne
          obtain ⟨j, hj⟩ := nat_of (mod_in (a := t) (b := ((ns.map V.int).length : Int)) (by rw [List.length_map]; omega)).1
          have hj2 : j < ns.length := by
            have h2 := (mod_in (a := t) (b := ((ns.map V.int).length : Int)) (by rw [List.length_map]; omega)).2
            rw [hj, List.length_map] at h2
            omega
          refine ⟨_, rfl, d, _, rfl, gC2, _, rfl, _, rfl, d, _, rfl, gC2, c, _, rfl, .inl (SqL.of (sm _ _ hc1)), t, _, rfl, rfl, (by rw [List.length_map]; omega), c, ns.map V.int, _, .int ns[j], rfl, rfl, SqL.of (sm _ _ hc1), ?_, ?_⟩
          · rw [hj]
            exact atI_nat (by rw [List.getElem?_map, List.getElem?_eq_getElem hj2]; rfl)
          · exact ⟨_, _, _, rfl, sm⟩
        · exact ⟨_, _, _, rfl, sm⟩
      · rintro σ' H2 ⟨v, o2, o5, rfl, sm⟩
        have hd2 := sm _ _ hd1
        have hc2 := sm _ _ hc1
        have src2 : Nxt H2 d c (t + 1) := src1.same sm
        have but2 : But d H H2 := but1.trans (But.same sm)
        have gC2 := DGet.k (k := Sum.inr "cells") hd2
        rw [nxt_cells] at gC2
        clear e hd hc gC gT gR hd1 hc1 gC1 src1 but1 eH1 sm src
        -- if turn < len(cells) and abs(cell) >= 10 ** 18
        refine ⟨fun σ' H' => σ' = [some (.ref d), some (.int n), o2, some (.int t), some (.int v), o5] ∧ H' = H2, ?_, ?_⟩
        · refine ⟨_, rfl, _, rfl, d, _, rfl, gC2, c, _, rfl, .inl (SqL.of hc2), _, _, rfl, rfl, _, rfl, ite2 (fun e1 => ?_) (fun e1 => ?_)⟩
          · refine ⟨_, rfl, _, rfl, 10, 18, rfl, rfl, ⟨by decide, by decide, by decide⟩, _, _, rfl, rfl, _, rfl, ite2 (fun e2 => ?_) (fun e2 => ⟨rfl, rfl⟩)⟩
            have ab : (0 : Int) ≤ (if v < 0 then -v else v) - 10 ^ 18 := by
              have h2 := of_decide_eq_true e2
              have h3 : (10 : Int) ^ (18 : Int).toNat = 10 ^ 18 := rfl
              omega
            refine ⟨_, rfl, _, rfl, 10, 18, rfl, rfl, ⟨by decide, by decide, by decide⟩, _, _, rfl, rfl, _, rfl, _, _, rfl, rfl, ⟨nz, na⟩, _, rfl, d, _, rfl, DPut.k (k := Sum.inr "rest") hd2 (by show 3 < sizeLine; decide), ?_⟩
            rw [nput_rest]
            refine ⟨_, rfl, _, rfl, 10, 18, rfl, rfl, ⟨by decide, by decide, by decide⟩, _, _, rfl, rfl, _, rfl, _, _, rfl, rfl, nz, ?_⟩
            exact q _ _ (t + 1) (but2.trans But.set) (nxt_set src2 (div_in n0 ab)) (Nat.le_refl _) (mod_in n0).1 (mod_in n0).2
          · exact ⟨rfl, rfl⟩
        · rintro σ' H' ⟨rfl, rfl⟩
          refine ⟨_, rfl, _, 2147483647, rfl, rfl, (by show (2147483647 : Int) ≠ 0; decide), _, 48271, rfl, rfl, .inr ⟨by decide, by decide⟩, ?_⟩
          refine ⟨_, rfl, 69621, t, rfl, rfl, .inl ⟨by decide, by decide⟩, _, rfl, _, t, rfl, rfl, .inr ⟨by omega, by omega⟩, _, _, rfl, rfl, ?_⟩
          refine ⟨_, rfl, 30011, t, rfl, rfl, .inl ⟨by decide, by decide⟩, _, _, rfl, rfl, _, 17, rfl, rfl, _, 2147483629, rfl, rfl, (by show (2147483629 : Int) ≠ 0; decide), ?_⟩
          have m1 := mod_in (a := v.fmod 2147483647 * 48271 + 69621 * (t : Int) * t + 30011 * t + 17) (b := 2147483629) (by decide)
          generalize em : (v.fmod 2147483647 * 48271 + 69621 * (t : Int) * t + 30011 * t + 17).fmod 2147483629 = m at m1
          refine ⟨_, rfl, _, rfl, m, m, congrArg V.int em, congrArg V.int em, .inl ⟨by omega, by omega⟩, _, rfl, 40692, m, rfl, congrArg V.int em, .inl ⟨by decide, by decide⟩, _, _, rfl, rfl, ?_⟩
          refine ⟨_, rfl, 5, t, rfl, rfl, .inl ⟨by decide, by decide⟩, _, _, rfl, rfl, _, 11, rfl, rfl, _, 2147483587, rfl, rfl, (by show (2147483587 : Int) ≠ 0; decide), ?_⟩
          have m2 := mod_in (a := m * m + 40692 * m + 5 * t + 11) (b := 2147483587) (by decide)
          generalize em' : (m * m + 40692 * m + 5 * (t : Int) + 11).fmod 2147483587 = m' at m2
          refine ⟨_, rfl, _, rfl, m', 16807, congrArg V.int em', rfl, m', _, congrArg V.int em', rfl, .inl ⟨by omega, by omega⟩, _, 2147483579, rfl, rfl, (by show (2147483579 : Int) ≠ 0; decide), _, 32, rfl, rfl, ⟨by decide, by decide⟩, _, rfl, _, n, rfl, rfl, nz, ?_⟩
          exact q _ _ (t + 1) but2 src2 (Nat.le_refl _) (mod_in n0).1 (mod_in n0).2
end
end Mo

namespace Mo
open PySem PySem.Spec PyProof.Rows L2
section
variable {P : Program} {w : World} {K : PySem.W.Frag} {mg : Str → Option Value} {base : Heap}
def spPen (K : PySem.W.Frag) : Sp := fun vs H Q _ => ∃ (a : Addr) (ns : List Int), vs = [.ref a] ∧ SqL K H a (ns.map V.int) ∧ ns.length ≤ 63 ∧ ∀ H' d c, Same H H' → H d = none → Nxt H' d c 0 → Q (.ref d) H'
theorem ok_pen {k : Nat} (T : Txt K mg) : FnOk P w K mg base CX0 (k + 1) T.aLPen T.dLPen ["_law_script"] (spPen K) := by
  refine T.fLPen.ok scLPen (fun vs H Q E h => ?_) (fun cdv A outer s H vs Q E hr h => ?_)
  · obtain ⟨a, ns, rfl, _⟩ := h
    rfl
  · obtain ⟨a, ns, rfl, hs, hn, q⟩ := h
    refine ⟨_, (pss_one (ps_ret (pe_disp (pps_cons pe_str (pe_callTy call_list_of (by rfl) T.m_list (by decide +kernel) (pa_cons (pe_slice sl_list (pv 0) po_none (po_some pe_int)) pa_nil)) (pps_cons pe_str pe_int (pps_cons pe_str pe_int pps_nil))) (by rfl) (by rfl) (fun z => by cases z) (by decide)))), ?_⟩
    intro d nd
    have s1 := same_new (o := .dK []) nd
    refine ⟨_, rfl, 63, rfl, a, _, rfl, s1.seq hs, fun p np => ?_⟩
    have s2 := same_new (o := .lst (cutV (ns.map V.int) none (some 63))) np
    refine ⟨p, _, rfl, .inl (SqL.of upd_same), fun c nc => ?_⟩
    have s3 := same_new (o := .lst (cutV (ns.map V.int) none (some 63))) nc
    have ec : cutV (ns.map V.int) none (some 63) = ns.map V.int := by
      unfold cutV
      rw [HT.sIx_none, show (some (63 : Int)) = some ((63 : Nat) : Int) from rfl, HT.sIx_nat, List.drop_zero, Nat.sub_zero, List.length_map]
      exact List.take_of_length_le (by rw [List.length_map]; omega)
    rw [ec] at nc s2 s3 ⊢
    have hd3 := s3 _ _ (s2 _ _ (upd_same (H := H) (a := d) (o := .dK [])))
    refine ⟨hd3, nxtD c 0 0, rfl, by show 3 ≤ 15; decide, ?_⟩
    rw [nxt_merge]
    have ncd : c ≠ d := (ne_of_none (s2 _ _ (upd_same (H := H) (a := d) (o := .dK []))) nc).symm
    refine q _ d c (Same.put ((s1.trans s2).trans s3) nd) nd ⟨ns, 0, upd_same, by rw [upd_ne ncd, upd_same], hn, Int.le_refl 0⟩
end
end Mo

namespace Mo
open PySem PySem.Spec PyProof.Rows L2
theorem pick4 : ∀ {j : Nat}, j < 4 → ∃ n : Nat, ([V.int 6, V.int 6, V.int 6, V.int 60] : List V)[j]? = some (.int (n : Int)) ∧ 1 ≤ n ∧ n ≤ 60
  | 0, _ => ⟨6, rfl, by decide, by decide⟩
  | 1, _ => ⟨6, rfl, by decide, by decide⟩
  | 2, _ => ⟨6, rfl, by decide, by decide⟩
  | 3, _ => ⟨60, rfl, by decide, by decide⟩
theorem pick8 : ∀ {j : Nat}, j < 8 → ∃ n : Nat, ([V.int 4, V.int 4, V.int 4, V.int 4, V.int 4, V.int 4, V.int 4, V.int 64] : List V)[j]? = some (.int (n : Int)) ∧ 1 ≤ n ∧ n ≤ 64
  | 0, _ => ⟨4, rfl, by decide, by decide⟩
  | 1, _ => ⟨4, rfl, by decide, by decide⟩
  | 2, _ => ⟨4, rfl, by decide, by decide⟩
  | 3, _ => ⟨4, rfl, by decide, by decide⟩
  | 4, _ => ⟨4, rfl, by decide, by decide⟩
  | 5, _ => ⟨4, rfl, by decide, by decide⟩
  | 6, _ => ⟨4, rfl, by decide, by decide⟩
  | 7, _ => ⟨64, rfl, by decide, by decide⟩
/-- images under way: of letters below m -/
def ImOk (m : Nat) (ims : List (List Nat)) : Prop := ∀ im ∈ ims, im ≠ [] ∧ im.length ≤ 64 ∧ ∀ x ∈ im, x < m
theorem ImOk.ims {ims : List (List Nat)} (h : ImOk ims.length ims) (n1 : 1 ≤ ims.length) (n2 : ims.length ≤ 400) : Ims ims := ⟨fun im m => (h im m).1, fun im m => (h im m).2.2, fun im m => (h im m).2.1, n1, n2⟩
section
variable {P : Program} {w : World} {K : PySem.W.Frag} {mg : Str → Option Value} {base : Heap}
/-- the list of the images, new -/
def spImages : Sp := fun vs H Q _ => ∃ (d c : Addr) (t : Nat), vs = [.ref d] ∧ Nxt H d c t ∧ t + 5000 < 1073741824 ∧
  ∀ H' L ps ims t', But d H H' → Nxt H' d c t' → t' ≤ t + 4500 → H L = none → H' L = some (.lst (ps.map V.ref)) → ImsAt H' ps ims → ImOk ims.length ims → 1 ≤ ims.length → ims.length ≤ 60 → Q (.ref L) H'
theorem ok_images {k : Nat} (T : Txt K mg) : FnOk P w K mg base CX0 (k + 2) T.aLImages T.dLImages ["_law_pen_here"] spImages := by
  have GLDraw : FnOk P w K mg base CX0 (k + 1) T.aLDraw T.dLDraw ["_law_pen_here", "_law_many"] spNDraw := ok_draw T
  refine T.fLImages.ok scLImages (fun vs H Q E h => ?_) (fun cdv A outer s H vs Q E hr h => ?_)
  · obtain ⟨d, c, t, rfl, _⟩ := h
    rfl
  · obtain ⟨d, c, t, rfl, nxt, ht, q⟩ := h
    refine ⟨_, (pss_cons (ps_set (i := 1) scLImages.nd rfl (Or.inr rfl) (pe_op op_add pe_int (pe_call GLDraw hr (by rfl) T.gLDraw T.fLDraw.kp T.bLDraw .nil pass0 (pa_cons (pv 0) (pa_cons (pe_ix ix_list (pe_lst (pa_cons pe_int (pa_cons pe_int (pa_cons pe_int (pa_cons pe_int pa_nil))))) (pe_call GLDraw hr (by rfl) T.gLDraw T.fLDraw.kp T.bLDraw .nil pass0 (pa_cons (pv 0) (pa_cons pe_int pa_nil))) (fun _ _ => rfl)) pa_nil)))))
      (pss_cons (ps_set (i := 2) scLImages.nd rfl (Or.inl rfl) (pe_lst pa_nil))
      (pss_cons (ps_for PassesOwn.never rfl (pi_range1 (by rfl) T.m_range (pa_cons (pv 1) pa_nil)) (pg_name (i := 3) scLImages.nd rfl (Or.inl rfl)) (pss_cons (ps_set (i := 4) scLImages.nd rfl (Or.inl rfl) (pe_op op_add pe_int (pe_call GLDraw hr (by rfl) T.gLDraw T.fLDraw.kp T.bLDraw .nil pass0 (pa_cons (pv 0) (pa_cons (pe_ix ix_list (pe_lst (pa_cons pe_int (pa_cons pe_int (pa_cons pe_int (pa_cons pe_int (pa_cons pe_int (pa_cons pe_int (pa_cons pe_int (pa_cons pe_int pa_nil))))))))) (pe_call GLDraw hr (by rfl) T.gLDraw T.fLDraw.kp T.bLDraw .nil pass0 (pa_cons (pv 0) (pa_cons pe_int pa_nil))) (fun _ _ => rfl)) pa_nil)))))
      (pss_one (ps_expr (pe_bm PySem.F.plainAttrs_list PySem.F.slot_list_append PySem.F.type_list_append mt_append (pv 2) (pa_cons (pe_callTy call_tuple_of (by rfl) T.m_tuple (by decide +kernel) (pa_cons (pe_lc (own := [("_law_j", 5)]) (g := gName 5) (tt := tYes) rfl scLImages.nd (pi_range1 (by rfl) T.m_range (pa_cons (pv 4) pa_nil)) (blkOk_by (N := ["_law_pen_here", "_law_many", "_law_found", "_law_k", "_law_size", "_law_j", "_law_at"]) (sc := defScope sLImages) (by decide +kernel)) (fun _ _ _ _ _ => pg_name (i := 5) scLImages.nd rfl (Or.inl rfl)) (fun _ _ _ _ _ => pts_nil) (fun _ _ _ _ _ => (pe_call GLDraw hr (by rfl) T.gLDraw T.fLDraw.kp T.bLDraw .nil pass0 (pa_cons (pv 0) (pa_cons (pv 1) pa_nil))))) pa_nil)) pa_nil))))))
      (pss_cons (ps_if (pt_cmpR op_eq (pe_call GLDraw hr (by rfl) T.gLDraw T.fLDraw.kp T.bLDraw .nil pass0 (pa_cons (pv 0) (pa_cons pe_int pa_nil))) pe_int (nomark _)) (pss_cons (ps_set (i := 6) scLImages.nd rfl (Or.inl rfl) (pe_call GLDraw hr (by rfl) T.gLDraw T.fLDraw.kp T.bLDraw .nil pass0 (pa_cons (pv 0) (pa_cons (pv 1) pa_nil))))
      (pss_one (ps_asg (pe_op op_catA (pe_tup (pa_cons (pv 6) pa_nil)) (pe_slice sl_tupA (pe_ix ix_list (pv 2) (pv 6) (fun _ _ => rfl)) po_none (po_some pe_int))) (pg_sub (pv 2) (pv 6) set_list)))) pss_nil)
      (pss_one (ps_ret (pv 2))))))), ?_⟩
    refine ⟨_, rfl, by show 4 ≤ sizeLine; decide, fun l nl => ?_⟩
    have s1 := same_new (o := .lst [V.int 6, V.int 6, V.int 6, V.int 60]) nl
    have nld := (nxt.new nl).1
    have hl1 : upd H l (.lst [V.int 6, V.int 6, V.int 6, V.int 60]) l = some (.lst [V.int 6, V.int 6, V.int 6, V.int 60]) := upd_same
    refine ⟨_, rfl, d, c, 4, t, rfl, nxt.same s1, by decide, by decide, by omega, fun H2 x t2 but2 nxt2 ht2 x0 x1 => ?_⟩
    obtain ⟨j, rfl⟩ := nat_of x0
    obtain ⟨n, hn, n1, n60⟩ := pick4 (j := j) (by omega)
    refine ⟨l, _, _, .int (n : Int), rfl, rfl, SqL.of (but2 _ _ nld hl1), atI_nat hn, d, c, n, t2, rfl, nxt2, by omega, by omega, by omega, fun H3 y t3 but3 nxt3 ht3 y0 y1 => ?_⟩
    obtain ⟨m', rfl⟩ := nat_of y0
    refine ⟨1, m', rfl, rfl, ?_⟩
    dsimp only
    rw [show (1 : Int) + (m' : Int) = ((m' + 1 : Nat) : Int) by omega]
    obtain ⟨m, hm⟩ : ∃ m, m = m' + 1 := ⟨_, rfl⟩
    rw [← hm]
    have m1 : 1 ≤ m := by omega
    have m60 : m ≤ 60 := by omega
    clear hm x0 x1 y0 y1 hn n1 n60
    have but03 : But d H H3 := ((But.same s1).trans but2).trans but3
    clear s1 but2 but3 nxt2 hl1 nl nld
    -- found
    refine ⟨Nat.zero_le _, fun L nL => ?_⟩
    have nLd := nxt3.new nL
    have nL0 : H L = none := but03.none nL nLd.1
    refine ⟨_, rfl, m, rfl, by omega, by omega, for_range (lo := 0) (n := ((m : Nat) : Int).toNat) (fun i σ H' => ∃ (ps : List Addr) (ims : List (List Nat)) (t' : Nat) (o3 o4 : Option V), σ = [some (.ref d), some (.int (m : Nat)), some (.ref L), o3, o4, none, none] ∧ But d H H' ∧ Nxt H' d c t' ∧ t' ≤ t3 + 66 * i ∧ H' L = some (.lst (ps.map V.ref)) ∧ ImsAt H' ps ims ∧ ImOk m ims ∧ ims.length = i) ?_ ?_ ?_⟩
    · exact ⟨[], [], t3, _, _, rfl, but03.trans (.same (same_new nL)), nxt3.same (same_new nL), by omega, upd_same, ⟨rfl, fun k p im e => by cases e⟩, fun im z => (List.not_mem_nil z).elim, rfl⟩
    · rintro i σ H4 hi ⟨ps, ims, t4, o3, o4, rfl, but4, nxt4, ht4, hL, tab, okm, hil⟩
      have hi2 : i < m := by
        have : i < ((m : Nat) : Int).toNat := hi
        omega
      refine ⟨_, rfl, by show 8 ≤ sizeLine; decide, fun l nl => ?_⟩
      have s1 := same_new (o := .lst [V.int 4, V.int 4, V.int 4, V.int 4, V.int 4, V.int 4, V.int 4, V.int 64]) nl
      have nld := (nxt4.new nl).1
      have hl1 : upd H4 l (.lst [V.int 4, V.int 4, V.int 4, V.int 4, V.int 4, V.int 4, V.int 4, V.int 64]) l = some (.lst [V.int 4, V.int 4, V.int 4, V.int 4, V.int 4, V.int 4, V.int 4, V.int 64]) := upd_same
      refine ⟨_, rfl, d, c, 8, t4, rfl, nxt4.same s1, by decide, by decide, by omega, fun H5 x t5 but5 nxt5 ht5 x0 x1 => ?_⟩
      obtain ⟨j, rfl⟩ := nat_of x0
      obtain ⟨n, hn, n1, n64⟩ := pick8 (j := j) (by omega)
      refine ⟨l, _, _, .int (n : Int), rfl, rfl, SqL.of (but5 _ _ nld hl1), atI_nat hn, d, c, n, t5, rfl, nxt5, by omega, by omega, by omega, fun H6 y t6 but6 nxt6 ht6 y0 y1 => ?_⟩
      obtain ⟨z', rfl⟩ := nat_of y0
      refine ⟨1, z', rfl, rfl, ?_⟩
      dsimp only
      rw [show (1 : Int) + (z' : Int) = ((z' + 1 : Nat) : Int) by omega]
      obtain ⟨z, hz⟩ : ∃ z, z = z' + 1 := ⟨_, rfl⟩
      rw [← hz]
      have z1 : 1 ≤ z := by omega
      have z64 : z ≤ 64 := by omega
      have b46 : But d H4 H6 := ((But.same s1).trans but5).trans but6
      obtain ⟨_, _, hd4, _⟩ := id nxt4
      have nLd4 : L ≠ d := nLd.1
      have hL6 := b46 _ _ nLd4 hL
      have tab6 : ImsAt H6 ps ims := tab.by fun p xs e => b46 _ _ (ne_dk hd4 e (fun _ z => nomatch z)) e
      have but6' := but4.trans b46
      clear hz x0 x1 y0 y1 hn n1 n64 s1 but5 but6 nxt5 hl1 nl nld hL tab nxt4 b46 but4 hd4
      refine ⟨_, rfl, .inl ⟨rfl, _, SqL.of hL6⟩, ?_⟩
      refine ⟨_, rfl, z, rfl, by omega, by omega, fun D nD => lc_range (lo := 0) (n := ((z : Nat) : Int).toNat) (fun k H' => ∃ (zs : List Nat) (t' : Nat), H' D = some (.lst ((nat2 zs).map V.int)) ∧ zs.length = k ∧ (∀ x ∈ zs, x < m) ∧ But d H6 H' ∧ Nxt H' d c t' ∧ t' ≤ t6 + k) ?_ ?_ ?_⟩
      · exact ⟨[], t6, upd_same, rfl, fun x z => (List.not_mem_nil z).elim, .same (same_new nD), nxt6.same (same_new nD), by omega⟩
      · rintro k' H7 hk ⟨zs, t7, hD, hzl, hzm, but7, nxt7, ht7⟩
        have hk2 : k' < z := by
          have : k' < ((z : Nat) : Int).toNat := hk
          omega
        have nDd := nxt6.new nD
        refine ⟨rfl, _, rfl, _, rfl, d, c, m, t7, rfl, nxt7, by omega, by omega, by omega, fun H8 y t8 but8 nxt8 ht8 y0 y1 => ?_⟩
        obtain ⟨u, rfl⟩ := nat_of y0
        refine ⟨_, but8 _ _ nDd.1 hD, fitsLt (by rw [n2v_len]; omega), zs ++ [u], t8, by rw [upd_same, n2v_snoc], by rw [List.length_append, hzl]; rfl, fun x hx => ?_, But.put (but7.trans but8) nD, nxt8.upd nDd.1 nDd.2, by omega⟩
        rcases List.mem_append.mp hx with h | h
        · exact hzm x h
        · rw [List.mem_singleton.mp h]
          omega
      · rintro H7 ⟨zs, t7, hD, hzl, hzm, but7, nxt7, ht7⟩
        have hzl : zs.length = z := hzl
        have ht7 : t7 ≤ t6 + z := ht7
        obtain ⟨_, _, hd6, _⟩ := id nxt6
        have hL7 := but7 _ _ nLd4 hL6
        have tab7 : ImsAt H7 ps ims := tab6.by fun p xs e => but7 _ _ (ne_dk hd6 e (fun _ z => nomatch z)) e
        refine ⟨D, _, rfl, .inl ⟨SqL.of hD, fun p np => ?_⟩⟩
        have s8 := same_new (o := .tup ((nat2 zs).map V.int)) np
        have hp : upd H7 p (.tup ((nat2 zs).map V.int)) p = some (.tup ((nat2 zs).map V.int)) := upd_same
        have hL8 := s8 _ _ hL7
        have tab8 := tab7.same s8
        have nxt8 := nxt7.same s8
        have but8 := (but6'.trans but7).trans (.same s8)
        generalize upd H7 p (.tup ((nat2 zs).map V.int)) = H8 at *
        refine ⟨L, _, _, rfl, rfl, hL8, fitsLt (by rw [List.length_map, tab8.len]; omega), ?_⟩
        have nLd8 : L ≠ d ∧ L ≠ c := nLd
        refine ⟨ps ++ [p], ims ++ [zs], t7, _, _, rfl, But.put but8 nL0, nxt8.upd nLd8.1 nLd8.2, by omega, by rw [upd_same, List.map_append]; rfl, ⟨by rw [List.length_append, List.length_append, tab8.len]; rfl, fun k' p' im e1 e2 => ?_⟩, fun im him => ?_, by rw [List.length_append, hil]; rfl⟩
        · have nn : ∀ {b : Addr} {xs : List V}, H8 b = some (.tup xs) → b ≠ L := fun h => ne_of h hL8 (fun z => nomatch z)
          by_cases hk : k' < ps.length
          · rw [List.getElem?_append_left hk] at e1
            rw [List.getElem?_append_left (by rw [← tab8.len]; exact hk)] at e2
            have h := tab8.el k' p' im e1 e2
            rw [upd_ne (nn h)]
            exact h
          · have hk2 : k' = ps.length := by
              have := (List.getElem?_eq_some_iff.mp e1).1
              rw [List.length_append] at this
              simp at this
              omega
            rw [hk2, List.getElem?_append_right (Nat.le_refl _), Nat.sub_self] at e1
            rw [hk2, tab8.len, List.getElem?_append_right (Nat.le_refl _), Nat.sub_self] at e2
            obtain rfl : p = p' := Option.some.inj e1
            obtain rfl : zs = im := Option.some.inj e2
            rw [upd_ne (nn hp)]
            exact hp
        · rcases List.mem_append.mp him with h | h
          · exact okm im h
          · rw [List.mem_singleton.mp h]
            exact ⟨List.length_pos_iff.mp (by omega), by omega, hzm⟩
    · rintro σ H4 ⟨ps, ims, t4, o3, o4, rfl, but4, nxt4, ht4, hL, tab, okm, hil⟩
      have hil : ims.length = m := hil
      have ht4 : t4 ≤ t3 + 66 * m := ht4
      have bound : 66 * m ≤ 66 * 60 := Nat.mul_le_mul_left _ m60
      refine ⟨_, rfl, d, c, 2, t4, rfl, nxt4, by decide, by decide, by omega, fun H5 x t5 but5 nxt5 ht5 x0 x1 => ?_⟩
      obtain ⟨_, _, hd4, _⟩ := id nxt4
      have hL5 := but5 _ _ nLd.1 hL
      have tab5 : ImsAt H5 ps ims := tab.by fun p xs e => but5 _ _ (ne_dk hd4 e (fun _ z => nomatch z)) e
      have but05 := but4.trans but5
      clear but5 but4 hL tab hd4 nxt4
      refine ⟨rfl, _, rfl, ite2 (fun _ => ?_) (fun _ => ?_)⟩
      · refine ⟨_, rfl, _, rfl, d, c, m, t5, rfl, nxt5, by omega, by omega, by omega, fun H6 y t6 but6 nxt6 ht6 y0 y1 => ?_⟩
        obtain ⟨a, rfl⟩ := nat_of y0
        have ha : a < m := by omega
        obtain ⟨_, _, hd5, _⟩ := id nxt5
        have hL6 := but6 _ _ nLd.1 hL5
        have tab6 : ImsAt H6 ps ims := tab5.by fun p xs e => but6 _ _ (ne_dk hd5 e (fun _ z => nomatch z)) e
        have but06 := but05.trans but6
        obtain ⟨p, hp, hpp⟩ := tab6.at (l := a) (by omega)
        have mem := img_mem (ims := ims) (l := a) (by omega)
        obtain ⟨i1, i2, i3⟩ := okm _ mem
        refine ⟨_, rfl, by show 1 ≤ sizeLine; decide, fun u nu => ?_⟩
        have s7 := same_new (o := .tup [V.int (a : Nat)]) nu
        have hu : upd H6 u (.tup [V.int (a : Nat)]) u = some (.tup [V.int (a : Nat)]) := upd_same
        have hL7 := s7 _ _ hL6
        have tab7 := tab6.same s7
        have nxt7 := nxt6.same s7
        have hp7 := s7 _ _ hpp
        have but07 := but06.trans (.same s7)
        generalize upd H6 u (.tup [V.int (a : Nat)]) = H7 at *
        refine ⟨_, rfl, _, rfl, L, _, _, .ref p, rfl, rfl, SqL.of hL7, atI_nat (ref_at hp), 63, rfl, slA_any hp7 fun p8 H8 s8 h8 _ => ?_⟩
        have ec : cutV ((nat2 (img ims a)).map V.int) none (some 63) = (nat2 ((img ims a).take 63)).map V.int := by
          rw [show (some (63 : Int)) = some ((63 : Nat) : Int) from rfl, cut_to]
          unfold nat2
          rw [List.map_take, List.map_take]
        rw [ec] at h8
        refine catA_any (s8 _ _ hu) h8 (fits5 (by rw [n2v_len, List.length_take]; show 1 + _ ≤ _; omega)) fun p9 H9 s9 h9 _ => ?_
        have s79 := s8.trans s9
        have hL9 := s79 _ _ hL7
        have tab9 := tab7.same s79
        have nxt9 := nxt7.same s79
        have but09 := but07.trans (.same s79)
        have h9 : H9 p9 = some (.tup ((nat2 (a :: (img ims a).take 63)).map V.int)) := h9
        refine ⟨_, rfl, _, rfl, L, _, _, a, rfl, rfl, hL9, ?_, ?_⟩
        · unfold ixN
          rw [List.length_map, tab9.len, hil]
          simp
          omega
        have nn : ∀ {b : Addr} {xs : List V}, H9 b = some (.tup xs) → b ≠ L := fun h => ne_of h hL9 (fun z => nomatch z)
        refine ⟨_, rfl, q _ L (ps.set a p9) (ims.set a (a :: (img ims a).take 63)) t6 (But.put but09 nL0) (nxt9.upd nLd.1 nLd.2) (by omega) nL0 (by rw [upd_same, List.map_set]) ⟨by rw [List.length_set, List.length_set, tab9.len], fun k' p' im e1 e2 => ?_⟩ (fun im him => ?_) (by rw [List.length_set]; omega) (by rw [List.length_set]; omega)⟩
        · by_cases hk : a = k'
          · subst hk
            rw [List.getElem?_set_self (by rw [tab9.len]; omega)] at e1
            rw [List.getElem?_set_self (by omega)] at e2
            obtain rfl : p9 = p' := Option.some.inj e1
            obtain rfl := Option.some.inj e2
            rw [upd_ne (nn h9)]
            exact h9
          · rw [List.getElem?_set_ne hk] at e1 e2
            have h := tab9.el k' p' im e1 e2
            rw [upd_ne (nn h)]
            exact h
        · rw [List.length_set, hil]
          rcases List.mem_or_eq_of_mem_set him with h | h
          · exact okm im h
          · subst h
            refine ⟨List.cons_ne_nil _ _, by rw [List.length_cons, List.length_take]; omega, fun x hx => ?_⟩
            rcases List.mem_cons.mp hx with h | h
            · omega
            · exact i3 x (List.mem_of_mem_take h)
      · exact ⟨_, rfl, q _ L ps ims t5 but05 nxt5 (by omega) nL0 hL5 tab5 (by rw [hil]; exact okm) (by omega) (by omega)⟩
end
end Mo

namespace Mo
open PySem PySem.Spec PyProof.Rows L2
section
variable {P : Program} {w : World} {K : PySem.W.Frag} {mg : Str → Option Value} {base : Heap}
theorem ok_pick {k : Nat} (T : Txt K mg) : FnOk P w K mg base CX0 (k + 2) T.aLPick T.dLPick ["_law_pen_here", "_law_choices"] (spNPick K) := by
  have GLDraw : FnOk P w K mg base CX0 (k + 1) T.aLDraw T.dLDraw ["_law_pen_here", "_law_many"] spNDraw := ok_draw T
  refine T.fLPick.ok scLPick (fun vs H Q E h => ?_) (fun cdv A outer s H vs Q E hr h => ?_)
  · obtain ⟨d, c, l, xs, t, rfl, _⟩ := h
    rfl
  · obtain ⟨d, c, l, xs, t, rfl, src, hl, nld, h0, h1, ht, q⟩ := h
    refine ⟨_, (pss_one (ps_ret (pe_ix ix_list (pv 1) (pe_call GLDraw hr (by rfl) T.gLDraw T.fLDraw.kp T.bLDraw .nil pass0 (pa_cons (pv 0) (pa_cons (pe_callB call_len_seq (by rfl) T.m_len PySem.boot_len (pa_cons (pv 1) pa_nil)) pa_nil))) (fun _ _ => rfl)))), ?_⟩
    refine ⟨_, rfl, _, rfl, _, rfl, l, xs, rfl, .inl hl, d, c, _, t, rfl, src, by omega, by omega, ht, fun H' k t' but src' ht' k0 k1 => ?_⟩
    obtain ⟨j, rfl⟩ := nat_of k0
    have hj : j < xs.length := by omega
    have hl' : SqL K H' l xs := by
      rcases hl with (e | ⟨o, e⟩) | e
      · exact .inl (.inl (but _ _ nld e))
      · exact .inl (.inr ⟨o, but _ _ nld e⟩)
      · exact .inr e
    exact ⟨l, xs, j, xs[j], rfl, rfl, hl', atI_nat (List.getElem?_eq_getElem hj), q H' _ t' but src' ht' (List.getElem_mem hj)⟩
end
end Mo

/-! ### the text of a great int; a list extended by a tuple; the end of a law that takes both -/
namespace Mo
open PySem PySem.Spec PyProof.Rows L2
theorem repr_big {prog : Program} {w : World} {A : Around} {E : Value → Shared → Prop} {s : Shared} {a : Int} {t : Tok} {Q : Value → Shared → Prop} (hh : A.handled = none) (hn : s.heap.NoDigits) (hlt : a.natAbs < 10 ^ 4300)
    (h : Q (.str (toString a) s.toks) { s with toks := s.toks + 1 }) : wpAny (model prog w) A (call (.builtin "repr") [.int a t]) Q E s := by
  refine Calls.call_function_entry PySem.F.kind_repr PySem.F.plain_repr PySem.F.entry_repr (PySem.F.args_repr1 _) ?_
  unfold Builtin.«repr»
  refine wpAny_bind (m := oneArg "repr" _) (wpAny_pure ?_)
  have hv : [Value.int a t].any Value.onHeap = false := rfl
  simp only [cRoomFor, hv, Bool.false_eq_true, if_false, pure_bind]
  refine wpAny_bind (wpAny_specialOf (name := Str.ofString "__repr__") (typeIs_int s a t) PySem.F.slot_int_repr.lookup ?_)
  refine wpAny_bind (m := callSpecialIfBound? (Value.int a t) (Str.ofString "__repr__")) (wpAny_callSpecialIfBound?_slot (name := Str.ofString "__repr__") (typeIs_int s a t) PySem.F.slot_int_repr (call_int_repr_or (by exact hh) hn (fun _ => ?_) fun z => absurd hlt (Nat.not_lt.mpr z)))
  refine wpAny_bind (wpAny_isInstance (T := "str") (b := true) rfl isSubtype_str_str ?_)
  exact wpAny_pure ⟨_, rfl, h⟩
def rReprBig : List V → Hp → VK → Prop := fun xs H Q => ∃ i, xs = [.int i] ∧ i.natAbs < 10 ^ 4300 ∧ Q (.str (toString i)) H
theorem cr_reprBig {X : Cx} (hn : X.base.NoDigits) (hc : X.calm = true) : CallR X (.builtin "repr") rReprBig := by
  intro pins s σ H xs us Q I r h
  obtain ⟨i, rfl, hz, q⟩ := h
  obtain ⟨u, rfl, t, rfl⟩ := vals1 r
  exact repr_big (I.ok.hd hc) (hn.keeps I.bk) hz ⟨.str _, H, I.tok _, ⟨_, rfl⟩, q⟩
theorem extend_tup (l : Addr) (items : Array Value) (n : Nat) (b : Addr) (items2 : Array Value) (n2 : Nat) (di : Option Addr) (sl : Array (Option Value)) (hs0 : ¬(!items.isEmpty && Builtin.List.listTooLong (items.size + items2.size)) = true) (hs1 : items.size ≤ sizeLine) (hs2 : items.size + items2.size ≤ sizeLine + 1) :
    Meets (Builtin.«list.extend» ⟨[.ref l, .ref b], []⟩) (fun _ R s => s.heap.get? l = some { cls := .type "list", dict := none, data := .seq items n, slots := #[] } ∧ s.heap.get? b = some { cls := .type "tuple", dict := di, data := .seq items2 n2, slots := sl } ∧ R (.ok (.ret Value.none)) { s with heap := s.heap.update l (Obj.mapSeq fun x => x ++ items2), toks := s.toks }) :=
  .of_wp fun prog w A R s h => by
    obtain ⟨hp, g, d, tk, os⟩ := s; obtain ⟨hl, hb, h⟩ := h; have f1 := AutoSeq1.idx_int; have f2 := AutoSeq1.sub_tuple_tuple; have f3 := AutoSeq1.sub_list_list; have f4 := AutoSeq1.sub_tuple_list; have f5 := AutoSeq1.sub_list_tuple;
    have hz' : (items ++ items2).size ≤ sizeLine + 1 := by rw [Array.size_append]; exact hs2
    wp_walk using (wpAny_updateSeq hl rfl (hz := hs1) (_hz' := hz')), AutoSeq1.wpAny_loadPart' hl, AutoSeq1.wpAny_loadPart' hb; exact ⟨_, rfl, h⟩
def rExtendT (K : PySem.W.Frag) : V → List V → Hp → VK → Prop := fun x vs H Q => ∃ l b xs zs, x = .ref l ∧ vs = [.ref b] ∧ H l = some (.lst xs) ∧ SqT K H b zs ∧ xs.length + zs.length ≤ sizeLine ∧ Q .non (upd H l (.lst (xs ++ zs)))
theorem mt_extendT {X : Cx} : MtM X "list.extend" (rExtendT X.K) := by
  intro pins s σ H x vs v us Q I rx rv h
  obtain ⟨l, b, xs, zs, rfl, rfl, hH, hB, hz, q⟩ := h
  cases rx
  obtain ⟨u, rfl, ru⟩ := rv.one
  cases ru
  obtain ⟨z, its, n, r, hl, e⟩ := I.lstM hH
  obtain ⟨its2, r2, pt, z2⟩ := I.tuple hB
  obtain ⟨⟨c2, di2, da2, sl2⟩, e2, hc2, n2, hd2⟩ := pt
  cases hc2
  cases hd2
  have hl2 := r2.length
  have hsz : its.toArray.size + its2.toArray.size ≤ sizeLine := by rw [List.size_toArray, List.size_toArray]; omega
  have hlong : ¬ (!its.toArray.isEmpty && Builtin.List.listTooLong (its.toArray.size + its2.toArray.size)) = true := by
    rw [notLongL hsz, Bool.and_false]
    exact Bool.false_ne_true
  refine call_meets PySem.F.slot_list_extend ⟨_, e, rfl⟩ PySem.F.entry_list_extend (PySem.F.args_list_extend_2 _ _)
    (extend_tup l its.toArray n b its2.toArray n2 di2 sl2 hlong (by rw [List.size_toArray]; omega) (by omega)) ⟨e, e2, ?_⟩
  refine ⟨.non, _, I.lset (its' := its ++ its2) hH e (by simp) (r.append r2) ?_, rfl, q⟩
  rw [List.length_append]
  omega
/-- lengths are not that great -/
theorem len_le {ims : List (List Nat)} (ok : Ims ims) : ∀ (s : Nat) {l : Nat}, l < ims.length → len ims s l ≤ 64 ^ s
  | 0, _, _ => Nat.le_refl _
  | s + 1, l, h => by
    rw [len_succ]
    have few := ok.few _ (img_mem h)
    have all : ∀ a ∈ img ims l, len ims s a ≤ 64 ^ s := fun a ha => len_le ok s (ok.lt _ (img_mem h) a ha)
    have sum : ∀ (im : List Nat), (∀ a ∈ im, len ims s a ≤ 64 ^ s) → (im.map (len ims s)).sum ≤ im.length * 64 ^ s := by
      intro im
      induction im with
      | nil => intro _; exact Nat.zero_le _
      | cons a r ih =>
        intro h
        rw [List.map_cons, List.sum_cons, List.length_cons, Nat.succ_mul]
        have h1 := h a List.mem_cons_self
        have h2 := ih fun b hb => h b (List.mem_cons_of_mem _ hb)
        omega
    have := sum _ all
    have t := Nat.mul_le_mul_right (64 ^ s) few
    rw [Nat.pow_succ]
    omega
theorem p64 : 64 ^ 400 < 10 ^ 4300 := by decide +kernel
theorem len_big {ims : List (List Nat)} (ok : Ims ims) {s l : Nat} (h : l < ims.length) (hs : s ≤ 400) : (((len ims s l : Nat) : Int)).natAbs < 10 ^ 4300 := by
  rw [Int.natAbs_natCast]
  exact Nat.lt_of_le_of_lt (len_le ok s h) (Nat.lt_of_le_of_lt (Nat.pow_le_pow_right (by decide) hs) p64)
def LawD (l : PySem.W.OpenLaw) (w : World) (K : PySem.W.Frag) (CX : CXT) (k n : Nat) (x : Str) (mg : Str → Option Value) (fa : Addr) (h : Heap) : Prop :=
  ∃ (fd : FuncData) (cs : List (Addr × Addr)) (sp : Sp), (∀ p ∈ cs, h.get? p.2 = some tab0) ∧ (∀ p ∈ cs, K.lookup p.2 = none) ∧ (∀ p ∈ cs, PySem.W.codeHdIn K p.1 p.2 = true) ∧ (∀ (s : Shared) (u : Value), BindsTo s fd ⟨[u], []⟩ [(x, u)]) ∧
    (∀ (H : Hp) (a : Addr) (ns : List Int), ns.length ≤ n → (∀ p ∈ cs, H p.2 = some (.tbl #[])) → SqL K H a (ns.map V.int) → sp [.ref a] H (fun v _ => v = .bl true) fun _ _ _ => False) ∧
    ∀ base : Heap, K.In base → base.Ns mainGlobals mg → (∀ p ∈ cs, LamX.TabB base mg p.1 p.2) → (∃ mm, base.Ns sysModules mm) ∧ base.NoDigits → FnG l.prog w K mg base CX k fa fd [x] sp
theorem walkD {l : PySem.W.OpenLaw} {n k : Nat} {q : Program} {loose : List Str} {XP : (Str → Option Value) → Heap → Prop} {YP : World → Heap → Prop} {d : DefRec} {K : Params → PySem.W.Frag} {CX : World → CXT} {x : Str}
    (hn : l.most = some n) (hn2 : n ≤ sizeLine) (hdf : d.params.defaults = []) (hr : Room k callerA) (hY : ∀ (w : World) (h : Heap), YP w h → (K w.params).In h) (hi : importsNone q = true)
    (F : ∀ (w : World) (mg : Str → Option Value) (fa : Addr) (h : Heap), (K w.params).In h → h.Ns mainGlobals mg → mg d.name = some (.ref fa) → Empties q (K w.params) mg h → LawD l w (K w.params) (CX w) k n x mg fa h)
    (hCX : ∀ (w : World) (H : Hp) (s : Shared) (e : Value) (s' : Shared), CX w [] H s (fun _ _ _ => False) e s' → False) :
    PySem.W.WalkO q loose XP YP l.row.toRowW d [] (fun f vs => PySem.call f vs) := by
  refine Att.attach_call hn hdf fun w s₀ s₁ mg mb fa o pm cd doc a vs ns G Y ho hd hcd hmg hobj hints hlen hg => ?_
  have KX := hY w _ Y
  have em : Empties q (K w.params) mg s₁.heap := fun n1 a1 c1 P1 o1 fd1 hrec g1 g2 g3 g4 g5 => by
    obtain ⟨dL, hm, en⟩ := List.any_eq_true.mp hrec
    have en2 : dL.name = n1 := beq_iff_eq.mp en
    obtain ⟨a2, o2, fd2, c2, P2, t1, t2, t3, t4, _, ⟨oc, vc, u1, _, u3, u4⟩, hP⟩ := G.T.tab dL hm
    cases (by rw [en2, g1] at t1; exact t1 : some (Value.ref a1) = some (Value.ref a2))
    have x1 := (KX _ _ g2).symm.trans t2
    cases x1
    cases g3.symm.trans t3
    cases g4.symm.trans t4
    obtain ⟨ob, us, _, _, _, _, _, _, _, y1, _, y2, y3, _⟩ := PySem.W.codeHd_of_K KX g5
    cases y1.symm.trans u1
    cases y2.symm.trans u3
    cases y3.symm.trans u4
    exact hP
  obtain ⟨fd, cs, sp, hT, nT, C, hb, hsp, hF⟩ := F w mg fa _ KX G.T.g hmg em
  obtain ⟨mm, hmm, _⟩ := (G.T.seer hi).mods
  obtain ⟨mc, hmc, hmn⟩ := G.T.nodigits
  exact callT KX G.T.g G.T.b G.T.builtins G.T.nolimit hg hT nT (fun p hp => PySem.W.codeHd_of_K KX (C p hp)) G.T.bmain hobj hints (Nat.le_trans hlen hn2) hr (fun base a b c d => hF base a b c ⟨⟨mm, d _ _ hmm⟩, mc, d _ _ hmc, hmn⟩) hb (fun H hH hS => hsp H a ns hlen hH hS) fun H e s' => hCX w H s₁ e s'
end Mo

/-! ### a rule set x, the list L of its images, a text w, the pen d: what stands at a point of a law -/
namespace Mo
open PySem PySem.Spec PyProof.Rows L2
structure Sit (C d c x L w : Addr) (ps : List Addr) (ims : List (List Nat)) (W : List Nat) (pd : Addr) (q : Str) (t : Nat) (H : Hp) : Prop where
  ra : RlsAt C H x ims
  hL : H L = some (.lst (ps.map V.ref))
  tab : ImsAt H ps ims
  hw : H w = some (.tup ((nat2 W).map V.int))
  nxt : Nxt H d c t
  tb : LamX.Tabs [(pd, q)] H
theorem Sit.same {C d c x L w : Addr} {ps : List Addr} {ims : List (List Nat)} {W : List Nat} {pd : Addr} {q : Str} {t : Nat} {H H' : Hp} (h : Sit C d c x L w ps ims W pd q t H) (s : Same H H') : Sit C d c x L w ps ims W pd q t H' :=
  ⟨h.ra.same s, s _ _ h.hL, h.tab.same s, s _ _ h.hw, h.nxt.same s, Tabs.same h.tb s⟩
theorem Sit.but {C d c x L w : Addr} {ps : List Addr} {ims : List (List Nat)} {W : List Nat} {pd : Addr} {q : Str} {t t' : Nat} {H H' : Hp} (h : Sit C d c x L w ps ims W pd q t H) (s : But d H H') (n : Nxt H' d c t') : Sit C d c x L w ps ims W pd q t' H' := by
  obtain ⟨kv, hkv⟩ := h.nxt.dict
  exact ⟨h.ra.kp hkv (.but s), s _ _ (ne_dk hkv h.hL (fun _ z => nomatch z)) h.hL, h.tab.kp hkv (.but s), s _ _ (ne_dk hkv h.hw (fun _ z => nomatch z)) h.hw, n, Tabs.but h.tb hkv s⟩
theorem Sit.ext {C d c x L w : Addr} {ps : List Addr} {ims : List (List Nat)} {W : List Nat} {pd : Addr} {q : Str} {t : Nat} {H H' : Hp} (h : Sit C d c x L w ps ims W pd q t H) (s : LamX.ExtN H H') (n : LamX.Tabs [(pd, q)] H') : Sit C d c x L w ps ims W pd q t H' := by
  obtain ⟨kv, hkv⟩ := h.nxt.dict
  exact ⟨h.ra.kp hkv (.tabs s), s _ _ h.hL (fun _ z => nomatch z), h.tab.kp hkv (.tabs s), s _ _ h.hw (fun _ z => nomatch z), h.nxt.tabs s, n⟩
/-- the same with another text -/
theorem Sit.text {C d c x L w : Addr} {ps : List Addr} {ims : List (List Nat)} {W : List Nat} {pd : Addr} {q : Str} {t : Nat} {H : Hp} (h : Sit C d c x L w ps ims W pd q t H) {w' : Addr} {W' : List Nat} (e : H w' = some (.tup ((nat2 W').map V.int))) : Sit C d c x L w' ps ims W' pd q t H :=
  ⟨h.ra, h.hL, h.tab, e, h.nxt, h.tb⟩
end Mo

namespace Mo
open PySem PySem.Spec PyProof.Rows L2
/-- a value that a rule set of n letters refuses as a text -/
structure Wr (d : Addr) (H : Hp) (n : Nat) (v : V) (e : PyData) : Prop where
  dx : Dx (fun x => x = d) H v e
  fit : Fit 40 60000 6 e
  no : textD e = false ∨ ∃ (p : Addr) (W : List Nat), v = .ref p ∧ H p = some (.tup ((nat2 W).map V.int)) ∧ e = .tuple ((nat2 W).map PyData.int) ∧ Okn W ∧ ∃ z ∈ W, n ≤ z
theorem Wr.bulk {d : Addr} {H : Hp} {n : Nat} {v : V} {e : PyData} (h : Wr d H n v e) : e.bulk ≤ 1000000 := Nat.le_trans h.fit.bulk (by decide)
theorem Wr.kp {d : Addr} {kvs : List (Key × V)} {H H' : Hp} {n : Nat} {v : V} {e : PyData} (h : Wr d H n v e) (hd : H d = some (.dK kvs)) (s : Kp d H H') : Wr d H' n v e := by
  refine ⟨h.dx.kp s, h.fit, ?_⟩
  rcases h.no with z | ⟨p, W, e1, e2, e3, e4, e5⟩
  · exact .inl z
  · exact .inr ⟨p, W, e1, s.tup (ne_dk hd e2 (fun _ z => nomatch z)) e2, e3, e4, e5⟩
theorem Wr.same {d : Addr} {H H' : Hp} {n : Nat} {v : V} {e : PyData} (h : Wr d H n v e) (s : Same H H') : Wr d H' n v e := by
  refine ⟨h.dx.same s, h.fit, ?_⟩
  rcases h.no with z | ⟨p, W, e1, e2, e3, e4, e5⟩
  · exact .inl z
  · exact .inr ⟨p, W, e1, s _ _ e2, e3, e4, e5⟩
theorem Wr.text {d p : Addr} {H : Hp} {n : Nat} {W : List Nat} (h : H p = some (.tup ((nat2 W).map V.int))) (hp : p ≠ d) (ok : Okn W) {z : Nat} (hz : z ∈ W) (hn : n ≤ z) : Wr d H n (.ref p) (.tuple ((nat2 W).map PyData.int)) :=
  ⟨.tup h hp (ints_dx (nat2 W)), (txt_fit ok).mono (by decide) (by decide) (by decide), .inr ⟨p, W, rfl, h, rfl, ok, z, hz, hn⟩⟩
theorem shown4096 : (PyData.int 4096).shown = Str.ofString "4096" := by decide +kernel
theorem rep_n2v (n k : Nat) : (List.replicate n [V.int ((k : Nat) : Int)]).flatten = (nat2 (List.replicate n k)).map V.int := by
  rw [rep_one]
  unfold nat2
  rw [List.map_replicate, List.map_replicate]
theorem flat_rep (f : Nat → List Nat) (k : Nat) : ∀ n : Nat, ((List.replicate n k).flatMap f).length = n * (f k).length
  | 0 => by simp
  | n + 1 => by
    rw [List.replicate_succ, List.flatMap_cons, List.length_append, flat_rep f k n, Nat.succ_mul]
    omega
theorem flat_le {ims : List (List Nat)} (ok : Ims ims) : ∀ {W : List Nat}, (∀ z ∈ W, z < ims.length) → (W.flatMap (img ims)).length ≤ W.length * 64
  | [], _ => Nat.le_refl _
  | a :: r, h => by
    rw [List.flatMap_cons, List.length_append, List.length_cons, Nat.succ_mul]
    have h1 := ok.few _ (img_mem (h a List.mem_cons_self))
    have h2 := flat_le ok (W := r) fun z hz => h z (List.mem_cons_of_mem _ hz)
    omega
theorem flat_lt {ims : List (List Nat)} (ok : Ims ims) {W : List Nat} (h : ∀ z ∈ W, z < ims.length) : ∀ z ∈ W.flatMap (img ims), z < ims.length := fun z hz => by
  obtain ⟨a, ha, hz⟩ := List.mem_flatMap.mp hz
  exact ok.lt _ (img_mem (h a ha)) z hz
section
variable {P : Program} {w : World} {K : PySem.W.Frag} {mg : Str → Option Value} {base : Heap}
def lamQ : Str := (envOfC "law" (defScope sLaw) 0 0 .none).qual ++ "<lambda>"
def spLaw (K : PySem.W.Frag) (pd : Addr) : Sp := fun vs H Q _ => ∃ (a : Addr) (ns : List Int), vs = [.ref a] ∧ SqL K H a (ns.map V.int) ∧ ns.length ≤ 63 ∧ H pd = some (.tbl #[]) ∧ ∀ H', Q (.bl true) H'
theorem ok_law {k : Nat} (T : Txt K mg) (TB : LamX.TabB base mg T.cdLaw T.pdLaw) (hbm : ∃ mm, base.Ns sysModules mm) : FnG P w K mg base CX0 (k + 8) T.aLaw T.dLaw ["_law_script"] (spLaw K T.pdLaw) := by
  have GLPen : FnOk P w K mg base CX0 (k + 7) T.aLPen T.dLPen ["_law_script"] (spPen K) := ok_pen T
  have GLDraw : FnOk P w K mg base CX0 (k + 7) T.aLDraw T.dLDraw ["_law_pen_here", "_law_many"] spNDraw := ok_draw T
  have GLPick : FnOk P w K mg base CX0 (k + 7) T.aLPick T.dLPick ["_law_pen_here", "_law_choices"] (spNPick K) := ok_pick T
  have GLImages : FnOk P w K mg base CX0 (k + 7) T.aLImages T.dLImages ["_law_pen_here"] spImages := ok_images T
  have GLReplaced : FnOk P w K mg base CX0 (k + 7) T.aLReplaced T.dLReplaced ["_law_images_here", "_law_text"] spRepl := ok_repl T
  have GRulesInit : FnOk P w K mg base CX0 (k + 6) T.aRulesInit T.dRulesInit ["self", "images"] (spRInit T.cRules) := ok_rInit T
  have GRulesApply : FnOk P w K mg base CX0 (k + 7) T.aRulesApply T.dRulesApply ["self", "text"] (spRApp T.cRules) := ok_rApp T
  have GRulesApplyX : FnOk P w K mg base (L2.CX P w) (k + 5) T.aRulesApply T.dRulesApply ["self", "text"] (spRAppX T.cRules T.cInvalidText T.cTooLarge) := ok_rAppX T
  refine okT T.fLaw T.kdLaw scLaw (fun vs H Q E h => ?_) (fun A outer s H vs Q E hr hgd h => ?_)
  · obtain ⟨a, ns, rfl, _⟩ := h
    rfl
  · obtain ⟨a, ns, rfl, hs, hn, htb, q⟩ := h
    refine ⟨_, (pss_cons (ps_set (i := 1) scLaw.nd rfl (Or.inr rfl) (pe_call GLPen hr (by rfl) T.gLPen T.fLPen.kp T.bLPen .nil pass0 (pa_cons (pv 0) pa_nil)))
      (pss_cons (ps_for PassesOwn.never rfl (pi_range1 (by rfl) T.m_range (pa_cons (pe_op op_add pe_int (pe_callB (call_min2 rfl) (by rfl) T.m_min (by decide +kernel) (pa_cons pe_int (pa_cons (pe_callB call_len_seq (by rfl) T.m_len PySem.boot_len (pa_cons (pv 0) pa_nil)) pa_nil)))) pa_nil)) (pg_name (i := 2) scLaw.nd rfl (Or.inl rfl)) (pss_cons (ps_set (i := 3) scLaw.nd rfl (Or.inr rfl) (pe_call GLImages hr (by rfl) T.gLImages T.fLImages.kp T.bLImages .nil pass0 (pa_cons (pv 1) pa_nil)))
      (pss_cons (ps_asg (pe_tup (pa_cons (pe_make T.kRules GRulesInit hr (by rfl) T.eRules T.bRulesInit .nil pass0 (pa_cons (pv 3) pa_nil)) (pa_cons (pe_callTy call_tuple_of (by rfl) T.m_tuple (by decide +kernel) (pa_cons (pe_lc (own := [("_law_k", 13)]) (g := gName 13) (tt := tYes) rfl scLaw.nd (pi_range1 (by rfl) T.m_range (pa_cons (pe_call GLDraw hr (by rfl) T.gLDraw T.fLDraw.kp T.bLDraw .nil pass0 (pa_cons (pv 1) (pa_cons pe_int pa_nil))) pa_nil)) (blkOk_by (N := ["_law_script", "_law_pen_here", "_law_turn", "_law_images_here", "_law_size", "_law_whole", "_law_at", "_law_beyond", "_law_odd", "_law_both", "_law_wrong", "_law_rules", "_law_text", "_law_k"]) (sc := defScope sLaw) (by decide +kernel)) (fun _ _ _ _ _ => pg_name (i := 13) scLaw.nd rfl (Or.inl rfl)) (fun _ _ _ _ _ => pts_nil) (fun _ _ _ _ _ => (pe_call GLDraw hr (by rfl) T.gLDraw T.fLDraw.kp T.bLDraw .nil pass0 (pa_cons (pv 1) (pa_cons (pe_callB (Mo.call_len_seqK (K := K) rfl) (by rfl) T.m_len PySem.boot_len (pa_cons (pv 3) pa_nil)) pa_nil))))) pa_nil)) pa_nil))) (pg_tup (by rfl) (pgs_cons (pg_name (i := 11) scLaw.nd rfl (Or.inr rfl)) (pgs_cons (pg_name (i := 12) scLaw.nd rfl (Or.inl rfl)) pgs_nil))))
      (pss_cons (ps_if (PW.pt (pw_or (pt_cmpR op_ne (pe_callB (Mo.cr_reprX hbm hgd hr.units) (by rfl) T.m_repr (by decide +kernel) (pa_cons (pe_meth (pv 11) T.clRules T.mRulesApply GRulesApply hr T.bRulesApply .nil pass0 (pa_cons (pv 12) pa_nil)) pa_nil)) (pe_callB (Mo.cr_reprX hbm hgd hr.units) (by rfl) T.m_repr (by decide +kernel) (pa_cons (pe_call GLReplaced hr (by rfl) T.gLReplaced T.fLReplaced.kp T.bLReplaced .nil pass0 (pa_cons (pv 3) (pa_cons (pv 12) pa_nil))) pa_nil)) (nomark _)) (pw_or1 (pt_cmpR (Mo.op_neNilT hr.units) (pe_meth (pv 11) T.clRules T.mRulesApply GRulesApply hr T.bRulesApply .nil pass0 (pa_cons (pe_tup pa_nil) pa_nil)) (pe_tup pa_nil) (nomark _))))) (pss_one (ps_ret pe_bl)) pss_nil)
      (pss_cons (ps_set (i := 4) scLaw.nd rfl (Or.inr rfl) (pe_call GLDraw hr (by rfl) T.gLDraw T.fLDraw.kp T.bLDraw .nil pass0 (pa_cons (pv 1) (pa_cons (pe_callB call_len_seq (by rfl) T.m_len PySem.boot_len (pa_cons (pv 3) pa_nil)) pa_nil))))
      (pss_cons (ps_set (i := 5) scLaw.nd rfl (Or.inr rfl) (pe_op op_fdivN pe_int (pe_callB call_len_seq (by rfl) T.m_len PySem.boot_len (pa_cons (pe_ix ix_list (pv 3) (pv 4) (fun _ _ => rfl)) pa_nil))))
      (pss_cons (ps_if (pt_cmpR op_ne (pe_callB call_len_seq (by rfl) T.m_len PySem.boot_len (pa_cons (pe_meth (pv 11) T.clRules T.mRulesApply GRulesApply hr T.bRulesApply .nil pass0 (pa_cons (pe_op Mo.op_repN (pe_tup (pa_cons (pv 4) pa_nil)) (pv 5)) pa_nil)) pa_nil)) (pe_op op_mul (pv 5) (pe_callB call_len_seq (by rfl) T.m_len PySem.boot_len (pa_cons (pe_ix ix_list (pv 3) (pv 4) (fun _ _ => rfl)) pa_nil))) (nomark _)) (pss_one (ps_ret pe_bl)) pss_nil)
      (Evl.pss_cut (ps_if (PW.pt (pw_and (pt_cmpR op_lt (pv 5) pe_int (nomark _)) (pw_and1 (pt_cmpR (Mo.op_neFl hr.units) (Mo.pe_lam (T := [(T.pdLaw, _)]) T.fLTold T.bLTold scLTold (by rfl) T.gLTold rfl (Or.inl rfl) (givesLTold T hbm hgd) TB rfl (List.mem_singleton.mpr rfl) (fun p hp _ => by rw [List.mem_singleton.mp hp]) hr (LamX.lamS_by (sc := defScope sLaw) (by decide +kernel)) rfl (fun _ _ _ _ _ => rfl) (fun A outer s' H' E fn cc hr hgu => (pe_meth (pv 11) T.clRules T.mRulesApply GRulesApplyX hr T.bRulesApply .nil (passes_call (takes_of rfl rfl rfl rfl) (fun _ _ _ _ h => h)) (pa_cons (pe_op (Mo.op_repNK (K := K) rfl) (pe_tup (pa_cons (pv 4) pa_nil)) (pe_op op_add (pv 5) pe_int)) pa_nil)))) (pe_tup (pa_cons pe_str (pa_cons pe_str (pa_cons pe_bl pa_nil)))) (nomark _))))) (pss_one (ps_ret pe_bl)) pss_nil)
      (pss_cons (ps_set (i := 6) scLaw.nd rfl (Or.inl rfl) (pe_call GLDraw hr (by rfl) T.gLDraw T.fLDraw.kp T.bLDraw .nil pass0 (pa_cons (pv 1) (pa_cons (pe_op op_add (pe_callB call_len_seq (by rfl) T.m_len PySem.boot_len (pa_cons (pv 12) pa_nil)) pe_int) pa_nil))))
      (pss_cons (ps_set (i := 7) scLaw.nd rfl (Or.inl rfl) (pe_op op_catA (pe_op op_catA (pe_slice sl_tupA (pv 12) po_none (po_some (pv 6))) (pe_tup (pa_cons (pe_op op_add (pe_callB call_len_seq (by rfl) T.m_len PySem.boot_len (pa_cons (pv 3) pa_nil)) (pe_call GLDraw hr (by rfl) T.gLDraw T.fLDraw.kp T.bLDraw .nil pass0 (pa_cons (pv 1) (pa_cons pe_int pa_nil)))) pa_nil))) (pe_slice sl_tupA (pv 12) (po_some (pv 6)) po_none)))
      (pss_cons (ps_set (i := 8) scLaw.nd rfl (Or.inl rfl) (pe_lst (pa_cons (pe_op Mo.op_repN (pe_tup (pa_cons (pe_callB call_len_seq (by rfl) T.m_len PySem.boot_len (pa_cons (pv 3) pa_nil)) pa_nil)) pe_int) (pa_cons (pe_callTy call_list_of (by rfl) T.m_list (by decide +kernel) (pa_cons (pv 12) pa_nil)) (pa_cons pe_non (pa_cons (pe_tup (pa_cons pe_bl pa_nil)) (pa_cons (pe_tup (pa_cons (pe_un un_neg pe_int) pa_nil)) (pa_cons pe_str (pa_cons pe_int (pa_cons (pe_op Mo.op_repN (pe_tup (pa_cons pe_int pa_nil)) pe_int) pa_nil))))))))))
      (pss_cons (ps_set (i := 9) scLaw.nd rfl (Or.inl rfl) (pe_call GLPick hr (by rfl) T.gLPick T.fLPick.kp T.bLPick .nil pass0 (pa_cons (pv 1) (pa_cons (pe_lst (pa_cons (pe_op op_catA (pe_op Mo.op_repN (pe_tup (pa_cons (pv 4) pa_nil)) pe_int) (pe_tup (pa_cons (pe_callB call_len_seq (by rfl) T.m_len PySem.boot_len (pa_cons (pv 3) pa_nil)) pa_nil))) (pa_cons (pe_op op_catA (pe_tup (pa_cons (pe_callB call_len_seq (by rfl) T.m_len PySem.boot_len (pa_cons (pv 3) pa_nil)) pa_nil)) (pe_op Mo.op_repN (pe_tup (pa_cons (pv 4) pa_nil)) pe_int)) pa_nil))) pa_nil))))
      (pss_cons (ps_set (i := 10) scLaw.nd rfl (Or.inr rfl) (pe_call GLPick hr (by rfl) T.gLPick T.fLPick.kp T.bLPick .nil pass0 (pa_cons (pv 1) (pa_cons (pe_lst (pa_cons (pv 7) (pa_cons (pe_call GLPick hr (by rfl) T.gLPick T.fLPick.kp T.bLPick .nil pass0 (pa_cons (pv 1) (pa_cons (pv 8) pa_nil))) (pa_cons (pv 9) pa_nil)))) pa_nil))))
      (pss_one (ps_if (pt_cmpR (Mo.op_neFl hr.units) (Mo.pe_lam (T := [(T.pdLaw, _)]) T.fLTold T.bLTold scLTold (by rfl) T.gLTold rfl (Or.inl rfl) (givesLTold T hbm hgd) TB rfl (List.mem_singleton.mpr rfl) (fun p hp _ => by rw [List.mem_singleton.mp hp]) hr (LamX.lamS_by (sc := defScope sLaw) (by decide +kernel)) rfl (fun _ _ _ _ _ => rfl) (fun A outer s' H' E fn cc hr hgu => (pe_meth (pv 11) T.clRules T.mRulesApply GRulesApplyX hr T.bRulesApply .nil (passes_call (takes_of rfl rfl rfl rfl) (fun _ _ _ _ h => h)) (pa_cons (pv 10) pa_nil)))) (pe_tup (pa_cons pe_str (pa_cons (pe_callB (Mo.cr_reprX hbm hgd hr.units) (by rfl) T.m_repr (by decide +kernel) (pa_cons (pv 10) pa_nil)) (pa_cons pe_bl pa_nil)))) (nomark _)) (pss_one (ps_ret pe_bl)) pss_nil)))))))))))))))
      (pss_one (ps_ret pe_bl)))), ?_⟩
    refine ⟨_, rfl, a, ns, rfl, hs, hn, fun H0 d c s0 nd nxt0 => ?_⟩
    refine ⟨_, rfl, a, _, rfl, .inl (s0.seq hs), 5, _, rfl, 4, _, rfl, rfl, _, rfl, ?_, ?_, for_range (lo := 0) (fun i σ H' => ∃ (t : Nat) (o2 o3 o4 o5 o6 o7 o8 o9 o10 o11 o12 : Option V), σ = [some (.ref a), some (.ref d), o2, o3, o4, o5, o6, o7, o8, o9, o10, o11, o12, none] ∧ Nxt H' d c t ∧ LamX.Tabs [(T.pdLaw, lamQ)] H' ∧ t ≤ 6000 * i) ?_ ?_ ?_⟩
    · split <;> omega
    · split <;> omega
    · exact ⟨0, _, _, _, _, _, _, _, _, _, _, _, rfl, nxt0, tabs_nil (s0 _ _ htb), Nat.le_refl _⟩
    · rintro i σ H1 hi ⟨t, o2, o3, o4, o5, o6, o7, o8, o9, o10, o11, o12, rfl, nxt1, tb1, ht⟩
      have hi2 : i < 13 := by
        revert hi
        split <;> omega
      clear hi
      -- the images
      refine ⟨_, rfl, d, c, t, rfl, nxt1, by omega, fun H2 L ps ims t2 but2 nxt2 ht2 nL hL tab2 okm g1 g2 => ?_⟩
      have ok : Ims ims := okm.ims g1 (by omega)
      obtain ⟨kv1, hkv1⟩ := nxt1.dict
      have tb2 := Tabs.but tb1 hkv1 but2
      clear okm nL nxt1 tb1 hkv1 but2
      -- the rule set
      refine ⟨_, rfl, fun x dx nx ndx nex => ?_⟩
      have sx : Same H2 (upd (upd H2 dx (.own x)) x (.ins T.cRules dx [])) := fun b o e => by
        rw [upd_ne (ne_of_none e nx), upd_ne (ne_of_none e ndx)]
        exact e
      refine ⟨x, dx, L, ps, ims, rfl, upd_same, sx _ _ hL, tab2.same sx, ok, fun H4 kp ra4 => ⟨rfl, ?_⟩⟩
      have s4 : Same H2 H4 := fun b o e => kp b o (ne_of_none e nx) (sx b o e)
      have hL4 := s4 _ _ hL
      have tab4 := tab2.same s4
      have nxt4 := nxt2.same s4
      have tb4 := Tabs.same tb2 s4
      have hlen : (ps.map V.ref).length = ims.length := by rw [List.length_map, tab4.len]
      clear sx kp nx ndx nex hL tab2 nxt2 tb2 s4
      -- a text
      obtain ⟨kv4, hkv4⟩ := nxt4.dict
      refine ⟨_, rfl, d, c, 61, t2, rfl, nxt4, by decide, by decide, by omega, fun H5 n t5 but5 nxt5 ht5 n0 n1 => ?_⟩
      obtain ⟨n, rfl⟩ := nat_of n0
      have hL5 := but5 _ _ (ne_dk hkv4 hL4 (fun _ z => nomatch z)) hL4
      obtain ⟨kv5, hkv5⟩ := nxt5.dict
      refine ⟨n, rfl, by omega, by omega, fun D nD => lc_range (lo := 0) (n := ((n : Nat) : Int).toNat) (fun k H' => ∃ (zs : List Nat) (t' : Nat), H' D = some (.lst ((nat2 zs).map V.int)) ∧ zs.length = k ∧ (∀ x ∈ zs, x < ims.length) ∧ But d H5 H' ∧ Nxt H' d c t' ∧ t' ≤ t5 + k) ?_ ?_ ?_⟩
      · exact ⟨[], t5, upd_same, rfl, fun x z => (List.not_mem_nil z).elim, .same (same_new nD), nxt5.same (same_new nD), by omega⟩
      · rintro k' H7 hk ⟨zs, t7, hD, hzl, hzm, but7, nxt7, ht7⟩
        have hk2 : k' < n := by
          have : k' < ((n : Nat) : Int).toNat := hk
          omega
        have nDd := nxt5.new nD
        have hL7 := but7 _ _ (ne_dk hkv5 hL5 (fun _ z => nomatch z)) hL5
        refine ⟨rfl, _, rfl, _, rfl, L, _, rfl, .inl (SqL.of hL7), d, c, _, t7, rfl, nxt7, by rw [hlen]; omega, by rw [hlen]; omega, by omega, fun H8 y t8 but8 nxt8 ht8 y0 y1 => ?_⟩
        obtain ⟨u, rfl⟩ := nat_of y0
        rw [hlen] at y1
        refine ⟨_, but8 _ _ nDd.1 hD, fitsLt (by rw [n2v_len]; omega), zs ++ [u], t8, by rw [upd_same, n2v_snoc], by rw [List.length_append, hzl]; rfl, fun x hx => ?_, But.put (but7.trans but8) nD, nxt8.upd nDd.1 nDd.2, by omega⟩
        rcases List.mem_append.mp hx with h | h
        · exact hzm x h
        · rw [List.mem_singleton.mp h]
          omega
      rintro H7 ⟨W, t7, hD, hzl, hW, but7, nxt7, ht7⟩
      have hzl : W.length = n := hzl
      have ht7 : t7 ≤ t5 + n := ht7
      have Wl : W.length ≤ 60 := by omega
      refine ⟨D, _, rfl, .inl ⟨SqL.of hD, fun wa np => ?_⟩⟩
      refine ⟨by show 2 ≤ sizeLine; decide, fun tp ntp => ?_⟩
      have s8 := same_new (o := .tup ((nat2 W).map V.int)) np
      have s9 := s8.trans (same_new (o := .tup [V.ref x, V.ref wa]) ntp)
      have hw9 := same_new (o := .tup [V.ref x, V.ref wa]) ntp wa (.tup ((nat2 W).map V.int)) upd_same
      refine ⟨tp, _, rfl, SqT.of upd_same, rfl, _, _, rfl, _, _, rfl, rfl, ?_⟩
      have k9 := ((Kp.but but5).trans (.but but7)).trans (.same s9)
      have sit9 : Sit T.cRules d c x L wa ps ims W T.pdLaw lamQ t7 _ := ⟨ra4.kp hkv4 k9, k9.lst (ne_dk hkv4 hL4 (fun _ z => nomatch z)) hL4, tab4.kp hkv4 k9, hw9, nxt7.same s9, Tabs.same (Tabs.but (Tabs.but tb4 hkv4 but5) hkv5 but7) s9⟩
      clear s8 s9 hw9 k9 ntp np hD hL5 hkv5 hkv4 but5 but7 nxt5 nxt7 nxt4 tb4 tab4 ra4 hL4 nD n0 n1
      generalize upd (upd H7 wa (.tup ((nat2 W).map V.int))) tp (.tup [V.ref x, V.ref wa]) = H9 at *
      have okW : Okn W := ⟨fun z hz => by have := hW z hz; omega, by omega⟩
      have Fl := flat_le ok hW
      have okF : Okn (W.flatMap (img ims)) := ⟨fun z hz => by have := flat_lt ok hW z hz; omega, by omega⟩
      obtain ⟨r1, r2, r3⟩ := (txt_fit okF).repr (by decide) (by decide) (by decide) (by decide)
      -- apply
      obtain ⟨dx0, _, _, hx9, _⟩ := id sit9.ra
      refine ⟨_, rfl, x, dx0, _, rfl, hx9, no_meth (by decide), _, rfl, x, wa, ims, W, rfl, sit9.ra, ok, sit9.hw, by omega, hW, by omega, fun H10 p10 s10 h10 => ⟨fun _ => False, .ref p10, _, rfl, txt_dx h10, r1, r2, r3, ?_⟩⟩
      have sit10 := sit9.same s10
      refine ⟨_, rfl, _, rfl, L, wa, ps, ims, W, rfl, sit10.hL, sit10.tab, sit10.hw, hW, by omega, fun H11 p11 s11 h11 => ⟨fun _ => False, .ref p11, _, rfl, txt_dx h11, r1, r2, r3, rfl, false, same_ne _, iteF ?_⟩⟩
      have sit11 := sit10.same s11
      obtain ⟨dx1, _, _, hx11, _⟩ := id sit11.ra
      refine ⟨_, rfl, x, dx1, _, rfl, hx11, no_meth (by decide), by show 0 ≤ sizeLine; decide, fun e0 ne0 => ?_⟩
      have s12 := same_new (o := .tup []) ne0
      refine ⟨x, e0, ims, [], rfl, sit11.ra.same s12, ok, upd_same, by decide, fun z hz => (List.not_mem_nil hz).elim, by show 0 ≤ 4096; decide, fun H13 p13 s13 h13 => ?_⟩
      refine ⟨by show 0 ≤ sizeLine; decide, fun e1 ne1 => ?_⟩
      have s14 := same_new (o := .tup []) ne1
      refine ⟨p13, e1, [], rfl, rfl, SqT.of (s14 _ _ h13), SqT.of upd_same, false, rfl, iteF ?_⟩
      have sit14 := ((sit11.same s12).same s13).same s14
      generalize upd H13 e1 (.tup []) = H14 at *
      clear sit9 sit10 sit11 s10 s11 s12 s13 s14 h10 h11 h13 hx9 hx11 ne0 ne1 r1 r2 r3
      -- one letter, many times
      refine ⟨_, rfl, _, rfl, L, _, rfl, .inl (SqL.of sit14.hL), d, c, _, t7, rfl, sit14.nxt, by rw [hlen]; omega, by rw [hlen]; omega, by omega, fun H15 y t15 but15 nxt15 ht15 y0 y1 => ?_⟩
      obtain ⟨sz, rfl⟩ := nat_of y0
      rw [hlen] at y1
      have hsz : sz < ims.length := by omega
      have sit15 := sit14.but but15 nxt15
      obtain ⟨pp, hp1, hpp⟩ := sit15.tab.at hsz
      have few := ok.few _ (img_mem hsz)
      have h0 := List.length_pos_iff.mpr (ok.ne _ (img_mem hsz))
      refine ⟨_, rfl, _, rfl, L, _, _, .ref pp, rfl, rfl, SqL.of sit15.hL, atI_nat (ref_at hp1), pp, _, rfl, .inr (SqT.of hpp), _, _, rfl, rfl, ?_, ?_⟩
      · rw [n2v_len]
        exact ⟨by omega, by omega⟩
      rw [n2v_len]
      dsimp only
      rw [Int.fdiv_eq_ediv_of_nonneg _ (by omega)]
      obtain ⟨wh, hwh⟩ : ∃ wh, wh = 4096 / (img ims sz).length := ⟨_, rfl⟩
      have ewh : (4096 : Int) / (((img ims sz).length : Nat) : Int) = ((wh : Nat) : Int) := by
        rw [hwh]
        first | exact (Int.natCast_ediv 4096 (img ims sz).length).symm | rfl
      rw [ewh]
      have wh1 : wh * (img ims sz).length ≤ 4096 := by
        rw [hwh]
        exact Nat.div_mul_le_self _ _
      have wh2 : 4096 < (wh + 1) * (img ims sz).length := by
        rw [hwh, Nat.mul_comm]
        exact Nat.lt_mul_div_succ 4096 h0
      have wh3 : 64 ≤ wh := by
        rw [hwh]
        exact (Nat.le_div_iff_mul_le h0).mpr (by omega)
      have wh4 : wh ≤ 4096 := by
        rw [hwh]
        exact Nat.div_le_self _ _
      clear hwh ewh
      obtain ⟨dx2, _, _, hx15, _⟩ := id sit15.ra
      refine ⟨_, rfl, x, dx2, _, rfl, hx15, no_meth (by decide), _, rfl, by show 1 ≤ sizeLine; decide, fun e2 ne2 => ?_⟩
      refine ⟨_, rfl, e2, wh, _, rfl, rfl, SqT.of upd_same, List.cons_ne_nil _ _, by omega, by omega, by show 1 ≤ 10; decide, fun p16 np16 => ?_⟩
      have s16 := (same_new (o := .tup [V.int (sz : Nat)]) ne2).trans (same_new (o := .tup (List.replicate wh [V.int (sz : Nat)]).flatten) np16)
      refine ⟨x, p16, ims, List.replicate wh sz, rfl, sit15.ra.same s16, ok, by rw [upd_same, rep_n2v], by rw [List.length_replicate]; omega, fun z hz => by rw [(List.mem_replicate.mp hz).2]; exact hsz, by rw [flat_rep]; exact wh1, fun H17 p17 s17 h17 => ?_⟩
      have s57 := s16.trans s17
      have sit17 := sit15.same s57
      refine ⟨p17, _, rfl, .inr (SqT.of h17), _, rfl, _, rfl, _, rfl, L, _, _, .ref pp, rfl, rfl, SqL.of sit17.hL, atI_nat (ref_at hp1), pp, _, rfl, .inr (SqT.of (s57 _ _ hpp)), _, _, rfl, rfl, ?_, rfl, false, ?_, iteF ?_⟩
      · rw [n2v_len]
        exact .inl ⟨by omega, by omega⟩
      · rw [n2v_len, n2v_len, flat_rep]
        have e : (((wh * (img ims sz).length : Nat)) : Int) = (wh : Int) * ((img ims sz).length : Int) := Int.natCast_mul _ _
        rw [e]
        exact same_ne _
      clear sit14 sit15 but15 nxt15 hx15 ne2 np16 s16 s17 s57 h17 y0 y1 hpp
      refine ⟨fun σ' H' => ∃ (o6 o7 o8 o9 o10 : Option V), σ' = [some (.ref a), some (.ref d), some (.int (0 + (i : Int))), some (.ref L), some (.int (sz : Nat)), some (.int (wh : Nat)), o6, o7, o8, o9, o10, some (.ref x), some (.ref wa), none] ∧ Sit T.cRules d c x L wa ps ims W T.pdLaw lamQ t15 H', ?_, ?_⟩
      · refine ⟨_, rfl, _, _, rfl, rfl, _, rfl, ite2 (fun e => ?_) (fun _ => iteF ⟨_, _, _, _, _, rfl, sit17⟩)⟩
        have ltw : wh < 4096 := by
          have := of_decide_eq_true e
          omega
        refine ⟨sit17.tb, fun H18 ex18 tb18 => .inr ⟨fun E Q1 hE => ?_, fun H19 p19 s19 h19 => ?_⟩⟩
        · have sitE := sit17.ext ex18 tb18
          obtain ⟨dxE, _, _, hxE, _⟩ := id sitE.ra
          refine ⟨_, rfl, x, dxE, _, rfl, hxE, no_meth (by decide), _, rfl, by show 1 ≤ sizeLine; decide, fun e2 ne2 => ?_⟩
          refine ⟨_, rfl, _, 1, rfl, rfl, e2, wh + 1, _, rfl, rfl, SqT.of upd_same, List.cons_ne_nil _ _, by omega, by omega, by show 1 ≤ 10; decide, fun p20 np20 => ?_⟩
          have s20 := (same_new (o := .tup [V.int (sz : Nat)]) ne2).trans (same_new (o := .tup (List.replicate (wh + 1) [V.int (sz : Nat)]).flatten) np20)
          have okR : Okn (List.replicate (wh + 1) sz) := ok_rep (by omega) (by omega)
          have h20 : upd (upd H18 e2 (.tup [V.int (sz : Nat)])) p20 (.tup (List.replicate (wh + 1) [V.int (sz : Nat)]).flatten) p20 = some (.tup ((nat2 (List.replicate (wh + 1) sz)).map V.int)) := by rw [upd_same, rep_n2v]
          exact ⟨x, ims, .ref p20, fun _ => False, _, rfl, sitE.ra.same s20, txt_dx h20, txt_bulk okR, .inr ⟨p20, _, rfl, h20, txt_text okR, okR.2, .inr ⟨fun z hz => by rw [(List.mem_replicate.mp hz).2]; exact hsz, by rw [flat_rep]; exact wh2, hE.same s20⟩⟩⟩
        refine ⟨by show 3 ≤ sizeLine; decide, fun p20 np20 => ?_⟩
        have s20 := same_new (o := .tup [.str (Str.ofString "large"), .str (Str.ofString "4096"), .bl true]) np20
        rw [shown4096] at h19
        refine neFl_self (s20 _ _ h19) upd_same rfl ⟨false, rfl, iteF ?_⟩
        exact ⟨_, _, _, _, _, rfl, ((sit17.ext ex18 tb18).same s19).same s20⟩
      rintro σ' H20 ⟨o6', o7', o8', o9', o10', rfl, sit20⟩
      clear sit17
      -- a letter beyond
      refine ⟨_, rfl, _, rfl, wa, _, rfl, .inr (SqT.of sit20.hw), _, 1, rfl, rfl, d, c, _, t15, rfl, sit20.nxt, by rw [n2v_len]; omega, by rw [n2v_len]; omega, by omega, fun H21 y t21 but21 nxt21 ht21 y0 y1 => ?_⟩
      obtain ⟨at', rfl⟩ := nat_of y0
      have sit21 := sit20.but but21 nxt21
      refine ⟨_, rfl, _, rfl, _, rfl, slA_any sit21.hw fun p22 H22 s22 h22 _ => ?_⟩
      have sit22 := sit21.same s22
      refine ⟨_, rfl, L, _, rfl, .inl (SqL.of sit22.hL), _, rfl, d, c, 9, t21, rfl, sit22.nxt, by decide, by decide, by omega, fun H23 z t23 but23 nxt23 ht23 z0 z1 => ⟨_, _, rfl, rfl, by show 1 ≤ sizeLine; decide, fun e24 ne24 => ?_⟩⟩
      obtain ⟨zz, rfl⟩ := nat_of z0
      obtain ⟨kv22, hkv22⟩ := sit22.nxt.dict
      have h23 := but23 _ _ (ne_dk hkv22 h22 (fun _ z => nomatch z)) h22
      have sit23 := sit22.but but23 nxt23
      rw [hlen]
      have eB : V.int (((ims.length : Nat) : Int) + ((zz : Nat) : Int)) = V.int (((ims.length + zz : Nat)) : Int) := congrArg V.int (by omega)
      show rCatA _ (V.ref p22) (V.ref e24) (upd H23 e24 (HO.tup [V.int (((ims.length : Nat) : Int) + ((zz : Nat) : Int))])) _
      rw [eB]
      have s24 := same_new (o := .tup [V.int ((ims.length + zz : Nat) : Int)]) ne24
      have h24 : upd H23 e24 (.tup [V.int ((ims.length + zz : Nat) : Int)]) e24 = some (.tup ((nat2 [ims.length + zz]).map V.int)) := upd_same
      have ct : cutV ((nat2 W).map V.int) none (some ((at' : Nat) : Int)) = (nat2 (W.take at')).map V.int := by
        rw [cut_to]
        unfold nat2
        rw [List.map_take, List.map_take]
      have cf : cutV ((nat2 W).map V.int) (some ((at' : Nat) : Int)) none = (nat2 (W.drop at')).map V.int := by
        rw [cut_from]
        unfold nat2
        rw [List.map_drop, List.map_drop]
      rw [ct] at h23
      have tl : (W.take at').length ≤ 60 := by rw [List.length_take]; omega
      have dl : (W.drop at').length ≤ 60 := by rw [List.length_drop]; omega
      refine catA_any (s24 _ _ h23) h24 (Nat.le_of_lt (fitsLt (by rw [n2v_len, n2v_len]; show (W.take at').length + 1 ≤ 100000; omega))) fun p25 H25 s25 h25 _ => ?_
      have sit25 := (sit23.same s24).same s25
      refine ⟨_, rfl, _, rfl, ((at' : Nat) : Int), rfl, ?_⟩
      unfold tNoPart
      refine slA_any sit25.hw fun p26 H26 s26 h26 _ => ?_
      rw [cf] at h26
      rw [← n2v_app] at h25
      refine catA_any (s26 _ _ h25) h26 (Nat.le_of_lt (fitsLt (by rw [n2v_len, n2v_len, List.length_append]; show (W.take at').length + 1 + (W.drop at').length ≤ 100000; omega))) fun p27 H27 s27 h27 _ => ?_
      have sit27 := (sit25.same s26).same s27
      rw [← n2v_app] at h27
      obtain ⟨kv27, hkv27⟩ := sit27.nxt.dict
      have okB : Okn (W.take at' ++ [ims.length + zz] ++ W.drop at') := by
        refine ⟨fun z hz => ?_, ?_⟩
        · rcases List.mem_append.mp hz with h | h
          · rcases List.mem_append.mp h with h | h
            · exact okW.1 z (List.mem_of_mem_take h)
            · rw [List.mem_singleton.mp h]
              omega
          · exact okW.1 z (List.mem_of_mem_drop h)
        · rw [List.length_append, List.length_append]
          show (W.take at').length + 1 + (W.drop at').length ≤ 4096
          omega
      have be27 : Wr d H27 ims.length (.ref p27) _ := Wr.text h27 (ne_dk hkv27 h27 (fun _ z => nomatch z)) okB (z := ims.length + zz) (by simp) (by omega)
      clear sit20 sit21 sit22 sit23 sit25 h22 h23 h24 h25 h26 h27 ct cf s22 s24 s25 s26 s27 but21 but23 nxt21 nxt23 ne24 hkv22 hkv27 eB y0 y1 z0 z1 okB
      -- odd values
      refine ⟨_, rfl, L, _, rfl, .inl (SqL.of sit27.hL), by show 1 ≤ sizeLine; decide, fun e1 ne1 => ?_⟩
      rw [hlen]
      refine ⟨e1, 4096, _, rfl, rfl, SqT.of upd_same, List.cons_ne_nil _ _, by decide, by decide, by show 1 ≤ 10; decide, fun p1 np1 => ?_⟩
      have s28 := (same_new (o := .tup [V.int ((ims.length : Nat) : Int)]) ne1).trans (same_new (o := .tup (List.replicate 4096 [V.int ((ims.length : Nat) : Int)]).flatten) np1)
      have h28 : upd (upd H27 e1 (.tup [V.int ((ims.length : Nat) : Int)])) p1 (.tup (List.replicate 4096 [V.int ((ims.length : Nat) : Int)]).flatten) p1 = some (.tup ((nat2 (List.replicate 4096 ims.length)).map V.int)) := by rw [upd_same, rep_n2v]
      generalize upd (upd H27 e1 (.tup [V.int ((ims.length : Nat) : Int)])) p1 (.tup (List.replicate 4096 [V.int ((ims.length : Nat) : Int)]).flatten) = H28 at *
      have sit28 := sit27.same s28
      have be28 := be27.same s28
      clear sit27 be27 s28 ne1 np1
      refine ⟨_, rfl, wa, _, rfl, .inr (SqT.of sit28.hw), fun p2 np2 => ?_⟩
      have s29 := same_new (o := .lst ((nat2 W).map V.int)) np2
      have h29 : upd H28 p2 (.lst ((nat2 W).map V.int)) p2 = some (.lst ((nat2 W).map V.int)) := upd_same
      generalize upd H28 p2 (.lst ((nat2 W).map V.int)) = H29 at *
      have sit29 := sit28.same s29
      have be29 := be28.same s29
      have h28 := s29 _ _ h28
      clear sit28 be28 s29 np2
      refine ⟨by show 1 ≤ sizeLine; decide, fun p3 np3 => ⟨_, rfl, by show 1 ≤ sizeLine; decide, fun p4 np4 => ?_⟩⟩
      have s31 := (same_new (o := .tup [V.bl true]) np3).trans (same_new (o := .tup [V.int (-1)]) np4)
      have h30 := same_new (o := .tup [V.int (-1)]) np4 p3 (.tup [V.bl true]) upd_same
      have h31 : upd (upd H29 p3 (.tup [V.bl true])) p4 (.tup [V.int (-1)]) p4 = some (.tup [V.int (-1)]) := upd_same
      generalize upd (upd H29 p3 (.tup [V.bl true])) p4 (.tup [V.int (-1)]) = H31 at *
      have sit31 := sit29.same s31
      have be31 := be29.same s31
      have h28 := s31 _ _ h28
      have h29 := s31 _ _ h29
      clear sit29 be29 s31 np3 np4
      refine ⟨by show 1 ≤ sizeLine; decide, fun e5 ne5 => ?_⟩
      refine ⟨e5, 4097, _, rfl, rfl, SqT.of upd_same, List.cons_ne_nil _ _, by decide, by decide, by show 1 ≤ 10; decide, fun p5 np5 => ?_⟩
      have s32 := (same_new (o := .tup [V.int 0]) ne5).trans (same_new (o := .tup (List.replicate 4097 [V.int 0]).flatten) np5)
      have h32 : upd (upd H31 e5 (.tup [V.int 0])) p5 (.tup (List.replicate 4097 [V.int 0]).flatten) p5 = some (.tup ((nat2 (List.replicate 4097 0)).map V.int)) := by
        rw [upd_same]
        exact congrArg (fun z => some (HO.tup z)) (rep_n2v 4097 0)
      generalize upd (upd H31 e5 (.tup [V.int 0])) p5 (.tup (List.replicate 4097 [V.int 0]).flatten) = H32 at *
      have sit32 := sit31.same s32
      have be32 := be31.same s32
      have h28 := s32 _ _ h28
      have h29 := s32 _ _ h29
      have h30 := s32 _ _ h30
      have h31 := s32 _ _ h31
      clear sit31 be31 s32 ne5 np5
      refine ⟨by show 8 ≤ sizeLine; decide, fun od nod => ?_⟩
      obtain ⟨xs, hxs⟩ : ∃ xs : List V, xs = [V.ref p1, V.ref p2, V.non, V.ref p3, V.ref p4, V.str (Str.ofString "0"), V.int 0, V.ref p5] := ⟨_, rfl⟩
      have s33 := same_new (o := .lst xs) nod
      rw [← hxs]
      have h33 : upd H32 od (.lst xs) od = some (.lst xs) := upd_same
      obtain ⟨kv32, hkv32⟩ := sit32.nxt.dict
      have odd32 : ∀ v ∈ xs, ∃ e, Wr d H32 ims.length v e := fun v hv => by
        rw [hxs] at hv
        simp only [List.mem_cons, List.not_mem_nil, or_false] at hv
        rcases hv with rfl | rfl | rfl | rfl | rfl | rfl | rfl | rfl
        · exact ⟨_, Wr.text h28 (ne_dk hkv32 h28 (fun _ z => nomatch z)) (ok_rep (by decide) (by omega)) (z := ims.length) (List.mem_replicate.mpr ⟨by decide, rfl⟩) (Nat.le_refl _)⟩
        · exact ⟨_, .lst h29 (ne_dk hkv32 h29 (fun _ z => nomatch z)) (ints_dx (nat2 W)), ((txt_fit okW).of_tup.lst).mono (by decide) (by decide) (by decide), .inl (notTup rfl)⟩
        · exact ⟨_, .non, odd_non.fit.mono (by decide) (by decide) (by decide), .inl (notTup rfl)⟩
        · exact ⟨_, .tup h30 (ne_dk hkv32 h30 (fun _ z => nomatch z)) (.cons (.bl true) .nil), (FitAll.tup (odd_bl true).fit.one).mono (by decide) (by decide) (by decide), .inl (by decide)⟩
        · exact ⟨_, .tup h31 (ne_dk hkv32 h31 (fun _ z => nomatch z)) (.cons (.int (-1)) .nil), (odd_tup1 (i := -1) (by decide)).fit.mono (by decide) (by decide) (by decide), .inl (by decide)⟩
        · exact ⟨_, .str _, (odd_str (by decide) (by decide)).fit.mono (by decide) (by decide) (by decide), .inl (notTup rfl)⟩
        · exact ⟨_, .int 0, fitI (by decide) (by decide), .inl (notTup rfl)⟩
        · refine ⟨_, .tup h32 (ne_dk hkv32 h32 (fun _ z => nomatch z)) (ints_dx (nat2 (List.replicate 4097 0))), (FitAll.tup ((ints_fitAll (B := 20) fun n hn => ?_).mono (Nat.le_refl _) (by rw [nat2_len, List.length_replicate]; exact (by decide : 2 * 4097 ≤ 10000)) (Nat.le_refl _))).mono (by decide) (by decide) (by decide), .inl ?_⟩
          · obtain ⟨m, hm, rfl⟩ := List.mem_map.mp hn
            rw [(List.mem_replicate.mp hm).2]
            decide
          · have zt : ∀ ds : List PyData, textD (.tuple ds) = (decide (ds.length ≤ 4096) && ds.all letterD) := fun _ => rfl
            rw [zt, decide_eq_false (by rw [List.length_map, nat2_len, List.length_replicate]; decide)]
            rfl
      generalize upd H32 od (.lst xs) = H33 at *
      have odd33 : ∀ v ∈ xs, ∃ e, Wr d H33 ims.length v e := fun v hv => by
        obtain ⟨e, z⟩ := odd32 v hv
        exact ⟨e, z.same s33⟩
      have xl : xs.length = 8 := by rw [hxs]; rfl
      have sit33 := sit32.same s33
      have be33 := be32.same s33
      clear sit32 be32 odd32 s33 h28 h29 h30 h31 h32 hxs hkv32 nod
      -- texts of one letter beyond
      refine ⟨_, rfl, _, rfl, by show 1 ≤ sizeLine; decide, fun e1 ne1 => ?_⟩
      refine ⟨e1, 4095, _, rfl, rfl, SqT.of upd_same, List.cons_ne_nil _ _, by decide, by decide, by show 1 ≤ 10; decide, fun q1 nq1 => ?_⟩
      have s34 := (same_new (o := .tup [V.int ((sz : Nat) : Int)]) ne1).trans (same_new (o := .tup (List.replicate 4095 [V.int ((sz : Nat) : Int)]).flatten) nq1)
      have h34 : upd (upd H33 e1 (.tup [V.int ((sz : Nat) : Int)])) q1 (.tup (List.replicate 4095 [V.int ((sz : Nat) : Int)]).flatten) q1 = some (.tup ((nat2 (List.replicate 4095 sz)).map V.int)) := by rw [upd_same, rep_n2v]
      generalize upd (upd H33 e1 (.tup [V.int ((sz : Nat) : Int)])) q1 (.tup (List.replicate 4095 [V.int ((sz : Nat) : Int)]).flatten) = H34 at *
      have sit34 := sit33.same s34
      refine ⟨_, rfl, L, _, rfl, .inl (SqL.of sit34.hL), by show 1 ≤ sizeLine; decide, fun e2 ne2 => ?_⟩
      rw [hlen]
      have s35 := same_new (o := .tup [V.int ((ims.length : Nat) : Int)]) ne2
      have h35 : upd H34 e2 (.tup [V.int ((ims.length : Nat) : Int)]) e2 = some (.tup ((nat2 [ims.length]).map V.int)) := upd_same
      generalize upd H34 e2 (.tup [V.int ((ims.length : Nat) : Int)]) = H35 at *
      refine catA_any (s35 _ _ h34) h35 (Nat.le_of_lt (fitsLt (by rw [n2v_len, n2v_len, List.length_replicate]; show 4095 + 1 ≤ 100000; decide))) fun q3 H36 s36 h36 _ => ?_
      rw [← n2v_app] at h36
      have sit36 := (sit34.same s35).same s36
      refine ⟨_, rfl, L, _, rfl, .inl (SqL.of sit36.hL), by show 1 ≤ sizeLine; decide, fun e4 ne4 => ?_⟩
      rw [hlen]
      have s37 := same_new (o := .tup [V.int ((ims.length : Nat) : Int)]) ne4
      have h37 : upd H36 e4 (.tup [V.int ((ims.length : Nat) : Int)]) e4 = some (.tup ((nat2 [ims.length]).map V.int)) := upd_same
      generalize upd H36 e4 (.tup [V.int ((ims.length : Nat) : Int)]) = H37 at *
      refine ⟨_, rfl, by show 1 ≤ sizeLine; decide, fun e5 ne5 => ?_⟩
      refine ⟨e5, 4095, _, rfl, rfl, SqT.of upd_same, List.cons_ne_nil _ _, by decide, by decide, by show 1 ≤ 10; decide, fun q5 nq5 => ?_⟩
      have s38 := (same_new (o := .tup [V.int ((sz : Nat) : Int)]) ne5).trans (same_new (o := .tup (List.replicate 4095 [V.int ((sz : Nat) : Int)]).flatten) nq5)
      have h38 : upd (upd H37 e5 (.tup [V.int ((sz : Nat) : Int)])) q5 (.tup (List.replicate 4095 [V.int ((sz : Nat) : Int)]).flatten) q5 = some (.tup ((nat2 (List.replicate 4095 sz)).map V.int)) := by rw [upd_same, rep_n2v]
      generalize upd (upd H37 e5 (.tup [V.int ((sz : Nat) : Int)])) q5 (.tup (List.replicate 4095 [V.int ((sz : Nat) : Int)]).flatten) = H38 at *
      refine catA_any (s38 _ _ h37) h38 (Nat.le_of_lt (fitsLt (by rw [n2v_len, n2v_len, List.length_replicate]; show 1 + 4095 ≤ 100000; decide))) fun q6 H39 s39 h39 _ => ?_
      rw [← n2v_app] at h39
      have s69 := (s37.trans s38).trans s39
      refine ⟨by show 2 ≤ sizeLine; decide, fun bl nbl => ?_⟩
      have s40 := same_new (o := .lst [V.ref q3, V.ref q6]) nbl
      have sit40 := (sit36.same s69).same s40
      have s30 := ((((s34.trans s35).trans s36).trans s69).trans s40)
      obtain ⟨kv40, hkv40⟩ := sit40.nxt.dict
      have okQ : ∀ (A B : List Nat), (A = List.replicate 4095 sz ∧ B = [ims.length]) ∨ (A = [ims.length] ∧ B = List.replicate 4095 sz) → Okn (A ++ B) ∧ ims.length ∈ A ++ B := fun A B h => by
        have rep : ∀ z ∈ List.replicate 4095 sz, z ≤ 999999 := fun z hz => by
          rw [(List.mem_replicate.mp hz).2]
          omega
        have one : ∀ z ∈ [ims.length], z ≤ 999999 := fun z hz => by
          rw [List.mem_singleton.mp hz]
          omega
        rcases h with ⟨rfl, rfl⟩ | ⟨rfl, rfl⟩
        · refine ⟨⟨fun z hz => (List.mem_append.mp hz).elim (rep z) (one z), ?_⟩, List.mem_append_right _ (List.mem_singleton.mpr rfl)⟩
          rw [List.length_append, List.length_replicate]
          show 4095 + 1 ≤ 4096
          decide
        · refine ⟨⟨fun z hz => (List.mem_append.mp hz).elim (one z) (rep z), ?_⟩, List.mem_append_left _ (List.mem_singleton.mpr rfl)⟩
          rw [List.length_append, List.length_replicate]
          show 1 + 4095 ≤ 4096
          decide
      have h36 := s40 _ _ (s69 _ _ h36)
      have h39 := s40 _ _ h39
      obtain ⟨okA, inA⟩ := okQ _ _ (.inl ⟨rfl, rfl⟩)
      obtain ⟨okC, inC⟩ := okQ _ _ (.inr ⟨rfl, rfl⟩)
      have bo40 : ∀ v ∈ [V.ref q3, V.ref q6], ∃ e, Wr d _ ims.length v e := fun v hv => by
        simp only [List.mem_cons, List.not_mem_nil, or_false] at hv
        rcases hv with rfl | rfl
        · exact ⟨_, Wr.text h36 (ne_dk hkv40 h36 (fun _ z => nomatch z)) okA inA (Nat.le_refl _)⟩
        · exact ⟨_, Wr.text h39 (ne_dk hkv40 h39 (fun _ z => nomatch z)) okC inC (Nat.le_refl _)⟩
      have hbl : upd H39 bl (.lst [V.ref q3, V.ref q6]) bl = some (.lst [V.ref q3, V.ref q6]) := upd_same
      generalize upd H39 bl (.lst [V.ref q3, V.ref q6]) = H40 at *
      refine ⟨d, c, bl, _, _, rfl, sit40.nxt, SqL.of hbl, ne_dk hkv40 hbl (fun _ z => nomatch z), by show 0 < 2; decide, by show 2 < _; decide, by omega, fun H41 bo t41 but41 nxt41 ht41 hv41 => ?_⟩
      obtain ⟨eo, wo41⟩ : ∃ e, Wr d H41 ims.length bo e := by
        obtain ⟨e, z⟩ := bo40 bo hv41
        exact ⟨e, z.kp hkv40 (.but but41)⟩
      have be41 := (be33.same s30).kp hkv40 (.but but41)
      have sit41 := sit40.but but41 nxt41
      have hod41 := but41 _ _ (ne_dk hkv40 (s30 _ _ h33) (fun _ z => nomatch z)) (s30 _ _ h33)
      have odd41 : ∀ v ∈ xs, ∃ e, Wr d H41 ims.length v e := fun v hv => by
        obtain ⟨e, z⟩ := odd33 v hv
        exact ⟨e, (z.same s30).kp hkv40 (.but but41)⟩
      obtain ⟨kv41, hkv41⟩ := sit41.nxt.dict
      clear bo40 hv41 okA okC inA inC okQ h36 h39 s69 s40 s30 s34 s35 s36 s37 s38 s39 h34 h35 h37 h38 sit33 sit34 sit36 sit40 be33 odd33 h33 hbl hkv40 but41 nxt41 nbl ne1 nq1 ne2 ne4 ne5 nq5
      -- the wrong text
      refine ⟨_, rfl, _, rfl, _, rfl, _, rfl, d, c, od, xs, t41, rfl, sit41.nxt, SqL.of hod41, ne_dk hkv41 hod41 (fun _ z => nomatch z), by omega, by omega, by omega, fun H42 v t42 but42 nxt42 ht42 hv => ?_⟩
      obtain ⟨ev, wv42⟩ : ∃ e, Wr d H42 ims.length v e := by
        obtain ⟨e, z⟩ := odd41 v hv
        exact ⟨e, z.kp hkv41 (.but but42)⟩
      have be42 := be41.kp hkv41 (.but but42)
      have wo42 := wo41.kp hkv41 (.but but42)
      have sit42 := sit41.but but42 nxt42
      obtain ⟨kv42, hkv42⟩ := sit42.nxt.dict
      refine ⟨_, rfl, by show 3 ≤ sizeLine; decide, fun ll nl => ?_⟩
      have s43 := same_new (o := .lst [V.ref p27, v, bo]) nl
      have sit43 := sit42.same s43
      have hl43 : upd H42 ll (.lst [V.ref p27, v, bo]) ll = some (.lst [V.ref p27, v, bo]) := upd_same
      have nld := (sit42.nxt.new nl).1
      generalize upd H42 ll (.lst [V.ref p27, v, bo]) = H43 at *
      obtain ⟨kv43, hkv43⟩ := sit43.nxt.dict
      refine ⟨d, c, ll, _, t42, rfl, sit43.nxt, SqL.of hl43, nld, by show 0 < 3; decide, by show 3 < _; decide, by omega, fun H44 wr t44 but44 nxt44 ht44 hv44 => ?_⟩
      have sit44 := sit43.but but44 nxt44
      obtain ⟨ew, rw44⟩ : ∃ e, Wr d H44 ims.length wr e := by
        simp only [List.mem_cons, List.not_mem_nil, or_false] at hv44
        rcases hv44 with e | e | e
        · subst e; exact ⟨_, (be42.same s43).kp hkv43 (.but but44)⟩
        · subst e; exact ⟨_, (wv42.same s43).kp hkv43 (.but but44)⟩
        · subst e; exact ⟨_, (wo42.same s43).kp hkv43 (.but but44)⟩
      obtain ⟨kv44, hkv44⟩ := sit44.nxt.dict
      clear hv44 be41 be42 wo41 wo42 wv42 odd41 hod41 sit41 sit42 sit43 s43 hl43 nld but42 but44 nxt42 nxt44 hkv41 hkv42 hkv43 nl hv
      refine ⟨sit44.tb, fun H45 ex45 tb45 => .inl ⟨fun x => x = d, wr, ew, (rw44.kp hkv44 (.tabs ex45)).dx, rw44.fit, fun E Q1 hE => ?_, fun H46 p46 s46 h46 => ?_⟩⟩
      · have sitE := sit44.ext ex45 tb45
        have wE := rw44.kp hkv44 (.tabs ex45)
        obtain ⟨dxE, _, _, hxE, _⟩ := id sitE.ra
        refine ⟨_, rfl, x, dxE, _, rfl, hxE, no_meth (by decide), _, rfl, x, ims, wr, fun x => x = d, ew, rfl, sitE.ra, wE.dx, wE.bulk, ?_⟩
        rcases wE.no with z | ⟨p, W', e1, e2, e3, e4, z, hz, hn⟩
        · exact .inl ⟨z, hE⟩
        · exact .inr ⟨p, W', e1, e2, by rw [e3]; exact txt_text e4, e4.2, .inl ⟨⟨z, hz, hn⟩, hE⟩⟩
      have k46 := (Kp.tabs (d := d) ex45).trans (.same s46)
      obtain ⟨g1, g2, g3⟩ := rw44.fit.repr (by decide) (by decide) (by decide) (by decide)
      refine ⟨_, rfl, _, wr, ew, rfl, (rw44.kp hkv44 k46).dx, g1, g2, g3, by show 3 ≤ sizeLine; decide, fun p47 np47 => ?_⟩
      have s47 := same_new (o := .tup [.str (Str.ofString "text"), .str ew.shown, .bl true]) np47
      refine neFl_self (s47 _ _ h46) upd_same rfl ⟨false, rfl, iteF ?_⟩
      have sit47 := ((sit44.ext ex45 tb45).same s46).same s47
      exact ⟨t44, _, _, _, _, _, _, _, _, _, _, _, rfl, sit47.nxt, sit47.tb, by omega⟩
    · rintro σ H1 ⟨t, o2, o3, o4, o5, o6, o7, o8, o9, o10, o11, o12, rfl, nxt1, tb1, ht⟩
      exact q H1
end
end Mo

namespace Mo
open PySem PySem.Spec PyProof.Rows L2
theorem txt_mk {K : PySem.W.Frag} {h : Heap} {mg : Str → Option Value} {fa : Addr} (X : K.In h) (G : h.Ns mainGlobals mg) (hfa : mg "law" = some (.ref fa))
    {cInvalidText : Addr} (eInvalidText : PySem.W.nsIn K mainGlobals "InvalidText" = some (some (.ref cInvalidText)))
    {cInvalidCount : Addr} (eInvalidCount : PySem.W.nsIn K mainGlobals "InvalidCount" = some (some (.ref cInvalidCount)))
    {cInvalidRules : Addr} (eInvalidRules : PySem.W.nsIn K mainGlobals "InvalidRules" = some (some (.ref cInvalidRules)))
    {cTooLarge : Addr} (eTooLarge : PySem.W.nsIn K mainGlobals "TooLarge" = some (some (.ref cTooLarge)))
    {cRules : Addr} (eRules : PySem.W.nsIn K mainGlobals "Rules" = some (some (.ref cRules)))
    {nmInvalidText qInvalidText : Str} {NInvalidText : Addr} {bsInvalidText : List Value} {snInvalidText : List Str} {subInvalidText : List Value} {abInvalidText : Bool} {colInvalidText : Option Bool} {ddInvalidText : Option Addr} {u0InvalidText u1InvalidText u2InvalidText u3InvalidText u5InvalidText : Option Value}
    (xLInvalidText : K.lookup cInvalidText = some (excClassObj nmInvalidText qInvalidText cInvalidText NInvalidText bsInvalidText [.type "ValueError", .type "Exception", .type "BaseException", .type "object"] true snInvalidText subInvalidText abInvalidText colInvalidText ddInvalidText u0InvalidText u1InvalidText u2InvalidText u3InvalidText u5InvalidText "ValueError.__new__"))
    (saInvalidText : PySem.W.findIn K (.ref cInvalidText) "__setattr__" = some (some (.builtin "object.__setattr__")))
    (gaInvalidText : PySem.W.findIn K (.ref cInvalidText) "__getattribute__" = some (some (.builtin "BaseException.__getattribute__")))
    (ggInvalidText : PySem.W.findIn K (.ref cInvalidText) "__getattr__" = some none)
    (nbInvalidText : PySem.W.findIn K (.ref cInvalidText) "value" = some none)
    (exInvalidText : PySem.W.subIn K (.ref cInvalidText) (.type "BaseException") = some true)
    (tyInvalidText : PySem.W.typeIn K (.ref cInvalidText) = some (.type "type"))
    (hdInvalidText : PySem.W.hasDictIn K cInvalidText = true)
    (kCInvalidText : PySem.W.keepIn K (.ref cInvalidText) = true)
    (sCInvalidText : PySem.W.subIn K (.ref cInvalidText) (.ref cInvalidText) = some true)
    (caInvalidText : PySem.W.findIn K (.ref cInvalidText) "__class__" = some (some (.builtin "object.__class__")))
    (cnInvalidText : PySem.W.specialIn K (.builtin "object.__class__") "__get__" = some (some (.builtin "getset_descriptor.__get__")))
    (ctInvalidText : PySem.W.takesIn K (.builtin "object.__class__") = some true)
    (cmInvalidText : PySem.W.mroIn K cInvalidText (.type "object") = some true)
    {iInvalidText : Addr} (iCInvalidText : PySem.W.findIn K (.ref cInvalidText) "__init__" = some (some (.ref iInvalidText))) (tIInvalidText : PySem.W.typeIn K (.ref iInvalidText) = some (.type "function"))
    {iodInvalidText ianInvalidText : Option Addr} {islInvalidText : Array (Option Value)} {iocInvalidText ikVInvalidText idcInvalidText ipmInvalidText icdInvalidText ictInvalidText : Value} (iLInvalidText : K.lookup iInvalidText = some ⟨iocInvalidText, iodInvalidText, .func (PySem.W.fnOf "__init__" "InvalidText.__init__" (defArgs sInitInvalidText) (defBody sInitInvalidText) (defScope sInitInvalidText) .none ikVInvalidText idcInvalidText ipmInvalidText ianInvalidText icdInvalidText ictInvalidText), islInvalidText⟩) (iDInvalidText : PySem.W.codeIn K icdInvalidText "InvalidText.__init__" = true) (iKInvalidText : PySem.W.keepIn K (.ref iInvalidText) = true)
    {nmTooLarge qTooLarge : Str} {NTooLarge : Addr} {bsTooLarge : List Value} {snTooLarge : List Str} {subTooLarge : List Value} {abTooLarge : Bool} {colTooLarge : Option Bool} {ddTooLarge : Option Addr} {u0TooLarge u1TooLarge u2TooLarge u3TooLarge u5TooLarge : Option Value}
    (xLTooLarge : K.lookup cTooLarge = some (excClassObj nmTooLarge qTooLarge cTooLarge NTooLarge bsTooLarge [.type "OverflowError", .type "ArithmeticError", .type "Exception", .type "BaseException", .type "object"] true snTooLarge subTooLarge abTooLarge colTooLarge ddTooLarge u0TooLarge u1TooLarge u2TooLarge u3TooLarge u5TooLarge "OverflowError.__new__"))
    (saTooLarge : PySem.W.findIn K (.ref cTooLarge) "__setattr__" = some (some (.builtin "object.__setattr__")))
    (gaTooLarge : PySem.W.findIn K (.ref cTooLarge) "__getattribute__" = some (some (.builtin "BaseException.__getattribute__")))
    (ggTooLarge : PySem.W.findIn K (.ref cTooLarge) "__getattr__" = some none)
    (nbTooLarge : PySem.W.findIn K (.ref cTooLarge) "limit" = some none)
    (exTooLarge : PySem.W.subIn K (.ref cTooLarge) (.type "BaseException") = some true)
    (tyTooLarge : PySem.W.typeIn K (.ref cTooLarge) = some (.type "type"))
    (hdTooLarge : PySem.W.hasDictIn K cTooLarge = true)
    (kCTooLarge : PySem.W.keepIn K (.ref cTooLarge) = true)
    (sCTooLarge : PySem.W.subIn K (.ref cTooLarge) (.ref cTooLarge) = some true)
    (caTooLarge : PySem.W.findIn K (.ref cTooLarge) "__class__" = some (some (.builtin "object.__class__")))
    (cnTooLarge : PySem.W.specialIn K (.builtin "object.__class__") "__get__" = some (some (.builtin "getset_descriptor.__get__")))
    (ctTooLarge : PySem.W.takesIn K (.builtin "object.__class__") = some true)
    (cmTooLarge : PySem.W.mroIn K cTooLarge (.type "object") = some true)
    {iTooLarge : Addr} (iCTooLarge : PySem.W.findIn K (.ref cTooLarge) "__init__" = some (some (.ref iTooLarge))) (tITooLarge : PySem.W.typeIn K (.ref iTooLarge) = some (.type "function"))
    {iodTooLarge ianTooLarge : Option Addr} {islTooLarge : Array (Option Value)} {iocTooLarge ikVTooLarge idcTooLarge ipmTooLarge icdTooLarge ictTooLarge : Value} (iLTooLarge : K.lookup iTooLarge = some ⟨iocTooLarge, iodTooLarge, .func (PySem.W.fnOf "__init__" "TooLarge.__init__" (defArgs sInitTooLarge) (defBody sInitTooLarge) (defScope sInitTooLarge) .none ikVTooLarge idcTooLarge ipmTooLarge ianTooLarge icdTooLarge ictTooLarge), islTooLarge⟩) (iDTooLarge : PySem.W.codeIn K icdTooLarge "TooLarge.__init__" = true) (iKTooLarge : PySem.W.keepIn K (.ref iTooLarge) = true)
    (suInvalidTextInvalidRules : PySem.W.subIn K (.ref cInvalidText) (.ref cInvalidRules) = some false)
    (exInvalidRules : PySem.W.subIn K (.ref cInvalidRules) (.type "BaseException") = some true)
    (hdInvalidRules : PySem.W.hasDictIn K cInvalidRules = true)
    (tyInvalidRules : PySem.W.typeIn K (.ref cInvalidRules) = some (.type "type"))
    (suTooLargeInvalidRules : PySem.W.subIn K (.ref cTooLarge) (.ref cInvalidRules) = some false)
    (suTooLargeInvalidText : PySem.W.subIn K (.ref cTooLarge) (.ref cInvalidText) = some false)
    (suTooLargeInvalidCount : PySem.W.subIn K (.ref cTooLarge) (.ref cInvalidCount) = some false)
    (exInvalidCount : PySem.W.subIn K (.ref cInvalidCount) (.type "BaseException") = some true)
    (hdInvalidCount : PySem.W.hasDictIn K cInvalidCount = true)
    (tyInvalidCount : PySem.W.typeIn K (.ref cInvalidCount) = some (.type "type"))
    (suInvalidTextValueError : PySem.W.subIn K (.ref cInvalidText) (.type "ValueError") = some true)
    (suInvalidTextInvalidCount : PySem.W.subIn K (.ref cInvalidText) (.ref cInvalidCount) = some false)
    (icInvalidCount : PySem.W.isClsIn K cInvalidCount = true)
    (itInvalidCount : PySem.W.typeIn K (.ref cInvalidCount) = some (.type "type"))
    (suTooLargeOverflowError : PySem.W.subIn K (.ref cTooLarge) (.type "OverflowError") = some true)
    {od0 an0 : Option Addr} {sl0 : Array (Option Value)} {oc0 kV0 dc0 pm0 cd0 ct0 : Value} {f0 : Addr}
    (a0 : PySem.W.nsIn K mainGlobals "_wall" = some (some (.ref f0))) (l0 : K.lookup f0 = some ⟨oc0, od0, .func (PySem.W.fnOf "_wall" "_wall" (defArgs sWall) (defBody sWall) (defScope sWall) .none kV0 dc0 pm0 an0 cd0 ct0), sl0⟩) (c0 : PySem.W.codeIn K cd0 "_wall" = true) (k0 : PySem.W.keepIn K (.ref f0) = true)
    {od1 an1 : Option Addr} {sl1 : Array (Option Value)} {oc1 kV1 dc1 pm1 cd1 ct1 : Value} {f1 : Addr}
    (a1 : PySem.W.nsIn K mainGlobals "is_plain_integer" = some (some (.ref f1))) (l1 : K.lookup f1 = some ⟨oc1, od1, .func (PySem.W.fnOf "is_plain_integer" "is_plain_integer" (defArgs sIsPlainInteger) (defBody sIsPlainInteger) (defScope sIsPlainInteger) .none kV1 dc1 pm1 an1 cd1 ct1), sl1⟩) (c1 : PySem.W.codeIn K cd1 "is_plain_integer" = true) (k1 : PySem.W.keepIn K (.ref f1) = true)
    {od2 an2 : Option Addr} {sl2 : Array (Option Value)} {oc2 kV2 dc2 pm2 cd2 ct2 : Value} {f2 : Addr}
    (a2 : PySem.W.nsIn K mainGlobals "is_letter" = some (some (.ref f2))) (l2 : K.lookup f2 = some ⟨oc2, od2, .func (PySem.W.fnOf "is_letter" "is_letter" (defArgs sIsLetter) (defBody sIsLetter) (defScope sIsLetter) .none kV2 dc2 pm2 an2 cd2 ct2), sl2⟩) (c2 : PySem.W.codeIn K cd2 "is_letter" = true) (k2 : PySem.W.keepIn K (.ref f2) = true)
    {od3 an3 : Option Addr} {sl3 : Array (Option Value)} {oc3 kV3 dc3 pm3 cd3 ct3 : Value} {f3 : Addr}
    (a3 : PySem.W.nsIn K mainGlobals "is_text" = some (some (.ref f3))) (l3 : K.lookup f3 = some ⟨oc3, od3, .func (PySem.W.fnOf "is_text" "is_text" (defArgs sIsText) (defBody sIsText) (defScope sIsText) .none kV3 dc3 pm3 an3 cd3 ct3), sl3⟩) (c3 : PySem.W.codeIn K cd3 "is_text" = true) (k3 : PySem.W.keepIn K (.ref f3) = true)
    {od4 an4 : Option Addr} {sl4 : Array (Option Value)} {oc4 kV4 dc4 pm4 cd4 ct4 : Value} {f4 : Addr}
    (a4 : PySem.W.nsIn K mainGlobals "check_text" = some (some (.ref f4))) (l4 : K.lookup f4 = some ⟨oc4, od4, .func (PySem.W.fnOf "check_text" "check_text" (defArgs sCheckText) (defBody sCheckText) (defScope sCheckText) .none kV4 dc4 pm4 an4 cd4 ct4), sl4⟩) (c4 : PySem.W.codeIn K cd4 "check_text" = true) (k4 : PySem.W.keepIn K (.ref f4) = true)
    {od5 an5 : Option Addr} {sl5 : Array (Option Value)} {oc5 kV5 dc5 pm5 cd5 ct5 : Value} {f5 : Addr}
    (a5 : PySem.W.nsIn K mainGlobals "is_image" = some (some (.ref f5))) (l5 : K.lookup f5 = some ⟨oc5, od5, .func (PySem.W.fnOf "is_image" "is_image" (defArgs sIsImage) (defBody sIsImage) (defScope sIsImage) .none kV5 dc5 pm5 an5 cd5 ct5), sl5⟩) (c5 : PySem.W.codeIn K cd5 "is_image" = true) (k5 : PySem.W.keepIn K (.ref f5) = true)
    {od6 an6 : Option Addr} {sl6 : Array (Option Value)} {oc6 kV6 dc6 pm6 cd6 ct6 : Value} {f6 : Addr}
    (a6 : PySem.W.nsIn K mainGlobals "are_images" = some (some (.ref f6))) (l6 : K.lookup f6 = some ⟨oc6, od6, .func (PySem.W.fnOf "are_images" "are_images" (defArgs sAreImages) (defBody sAreImages) (defScope sAreImages) .none kV6 dc6 pm6 an6 cd6 ct6), sl6⟩) (c6 : PySem.W.codeIn K cd6 "are_images" = true) (k6 : PySem.W.keepIn K (.ref f6) = true)
    {od7 an7 : Option Addr} {sl7 : Array (Option Value)} {oc7 kV7 dc7 pm7 cd7 ct7 : Value} {f7 : Addr}
    (a7 : PySem.W.nsIn K mainGlobals "_law_pen" = some (some (.ref f7))) (l7 : K.lookup f7 = some ⟨oc7, od7, .func (PySem.W.fnOf "_law_pen" "_law_pen" (defArgs sLPen) (defBody sLPen) (defScope sLPen) .none kV7 dc7 pm7 an7 cd7 ct7), sl7⟩) (c7 : PySem.W.codeIn K cd7 "_law_pen" = true) (k7 : PySem.W.keepIn K (.ref f7) = true)
    {od8 an8 : Option Addr} {sl8 : Array (Option Value)} {oc8 kV8 dc8 pm8 cd8 ct8 : Value} {f8 : Addr}
    (a8 : PySem.W.nsIn K mainGlobals "_law_draw" = some (some (.ref f8))) (l8 : K.lookup f8 = some ⟨oc8, od8, .func (PySem.W.fnOf "_law_draw" "_law_draw" (defArgs sLDraw) (defBody sLDraw) (defScope sLDraw) .none kV8 dc8 pm8 an8 cd8 ct8), sl8⟩) (c8 : PySem.W.codeIn K cd8 "_law_draw" = true) (k8 : PySem.W.keepIn K (.ref f8) = true)
    {od9 an9 : Option Addr} {sl9 : Array (Option Value)} {oc9 kV9 dc9 pm9 cd9 ct9 : Value} {f9 : Addr}
    (a9 : PySem.W.nsIn K mainGlobals "_law_pick" = some (some (.ref f9))) (l9 : K.lookup f9 = some ⟨oc9, od9, .func (PySem.W.fnOf "_law_pick" "_law_pick" (defArgs sLPick) (defBody sLPick) (defScope sLPick) .none kV9 dc9 pm9 an9 cd9 ct9), sl9⟩) (c9 : PySem.W.codeIn K cd9 "_law_pick" = true) (k9 : PySem.W.keepIn K (.ref f9) = true)
    {od10 an10 : Option Addr} {sl10 : Array (Option Value)} {oc10 kV10 dc10 pm10 cd10 ct10 : Value} {f10 : Addr}
    (a10 : PySem.W.nsIn K mainGlobals "_law_told" = some (some (.ref f10))) (l10 : K.lookup f10 = some ⟨oc10, od10, .func (PySem.W.fnOf "_law_told" "_law_told" (defArgs sLTold) (defBody sLTold) (defScope sLTold) .none kV10 dc10 pm10 an10 cd10 ct10), sl10⟩) (c10 : PySem.W.codeIn K cd10 "_law_told" = true) (k10 : PySem.W.keepIn K (.ref f10) = true)
    {od11 an11 : Option Addr} {sl11 : Array (Option Value)} {oc11 kV11 dc11 pm11 cd11 ct11 : Value} {f11 : Addr}
    (a11 : PySem.W.nsIn K mainGlobals "_law_images" = some (some (.ref f11))) (l11 : K.lookup f11 = some ⟨oc11, od11, .func (PySem.W.fnOf "_law_images" "_law_images" (defArgs sLImages) (defBody sLImages) (defScope sLImages) .none kV11 dc11 pm11 an11 cd11 ct11), sl11⟩) (c11 : PySem.W.codeIn K cd11 "_law_images" = true) (k11 : PySem.W.keepIn K (.ref f11) = true)
    {od12 an12 : Option Addr} {sl12 : Array (Option Value)} {oc12 kV12 dc12 pm12 cd12 ct12 : Value} {f12 : Addr}
    (a12 : PySem.W.nsIn K mainGlobals "_law_replaced" = some (some (.ref f12))) (l12 : K.lookup f12 = some ⟨oc12, od12, .func (PySem.W.fnOf "_law_replaced" "_law_replaced" (defArgs sLReplaced) (defBody sLReplaced) (defScope sLReplaced) .none kV12 dc12 pm12 an12 cd12 ct12), sl12⟩) (c12 : PySem.W.codeIn K cd12 "_law_replaced" = true) (k12 : PySem.W.keepIn K (.ref f12) = true)
    {cdLaw pdLaw : Addr}
    {od13 an13 : Option Addr} {sl13 : Array (Option Value)} {oc13 kV13 dc13 pm13 ct13 : Value} {f13 : Addr}
    (a13 : PySem.W.nsIn K mainGlobals "law" = some (some (.ref f13))) (l13 : K.lookup f13 = some ⟨oc13, od13, .func (PySem.W.fnOf "law" "law" (defArgs sLaw) (defBody sLaw) (defScope sLaw) .none kV13 dc13 pm13 an13 (.ref cdLaw) ct13), sl13⟩) (c13 : PySem.W.codeIn K (.ref cdLaw) "law" = true) (k13 : PySem.W.keepIn K (.ref f13) = true)
    {ecLaw : Value} {dcLaw : Option Addr} {vcLaw : Array Value} {scLaw : Array (Option Value)} (lcLaw : K.lookup cdLaw = some ⟨ecLaw, dcLaw, .fields vcLaw, scLaw⟩) (lpLaw : vcLaw[11]? = some (.ref pdLaw)) (hdLaw : ∀ K' : PySem.W.Frag, K'.lookup cdLaw = some ⟨ecLaw, dcLaw, .fields vcLaw, scLaw⟩ → PySem.W.codeHdIn K' cdLaw pdLaw = true) (npLaw : K.lookup pdLaw = none)
    {od14 an14 : Option Addr} {sl14 : Array (Option Value)} {oc14 kV14 dc14 pm14 cd14 ct14 : Value} {f14 : Addr}
    (a14 : PySem.W.findIn K (.ref cRules) "__init__" = some (some (.ref f14))) (i14 : PySem.W.isFn K (.ref f14) = true) (l14 : K.lookup f14 = some ⟨oc14, od14, .func (PySem.W.fnOf "__init__" "Rules.__init__" (defArgs sRulesInit) (defBody sRulesInit) (defScope sRulesInit) .none kV14 dc14 pm14 an14 cd14 ct14), sl14⟩) (c14 : PySem.W.codeIn K cd14 "Rules.__init__" = true) (k14 : PySem.W.keepIn K (.ref f14) = true)
    {od15 an15 : Option Addr} {sl15 : Array (Option Value)} {oc15 kV15 dc15 pm15 cd15 ct15 : Value} {f15 : Addr}
    (a15 : PySem.W.findIn K (.ref cRules) "apply" = some (some (.ref f15))) (i15 : PySem.W.isFn K (.ref f15) = true) (l15 : K.lookup f15 = some ⟨oc15, od15, .func (PySem.W.fnOf "apply" "Rules.apply" (defArgs sRulesApply) (defBody sRulesApply) (defScope sRulesApply) .none kV15 dc15 pm15 an15 cd15 ct15), sl15⟩) (c15 : PySem.W.codeIn K cd15 "Rules.apply" = true) (k15 : PySem.W.keepIn K (.ref f15) = true)
    (pgRules : PySem.W.plainGet K cRules Str.empty = true) (hdRules : PySem.W.hasDictIn K cRules = true) (poRules : PySem.W.plainOver K cRules = true) (saRules : PySem.W.findIn K (.ref cRules) "__setattr__" = some (some (.builtin "object.__setattr__"))) (mkRules : PySem.W.makesIn K cRules = true) (kcRules : PySem.W.keepIn K (.ref cRules) = true)
    (nfRules_table : PySem.W.findIn K (.ref cRules) "table" = some none)
    {t_LONGEST_TEXT : Tok} (z_LONGEST_TEXT : PySem.W.nsIn K mainGlobals "LONGEST_TEXT" = some (some (.int 4096 t_LONGEST_TEXT)))
    {t_GREATEST_LETTER : Tok} (z_GREATEST_LETTER : PySem.W.nsIn K mainGlobals "GREATEST_LETTER" = some (some (.int 999999 t_GREATEST_LETTER)))
    {t_MOST_IMAGES : Tok} (z_MOST_IMAGES : PySem.W.nsIn K mainGlobals "MOST_IMAGES" = some (some (.int 400 t_MOST_IMAGES)))
    {t_LONGEST_IMAGE : Tok} (z_LONGEST_IMAGE : PySem.W.nsIn K mainGlobals "LONGEST_IMAGE" = some (some (.int 64 t_LONGEST_IMAGE)))
    (z_isinstance : PySem.W.nsIn K mainGlobals "isinstance" = some none)
    (z_bool : PySem.W.nsIn K mainGlobals "bool" = some none)
    (z_int : PySem.W.nsIn K mainGlobals "int" = some none)
    (z_all : PySem.W.nsIn K mainGlobals "all" = some none)
    (z_len : PySem.W.nsIn K mainGlobals "len" = some none)
    (z_tuple : PySem.W.nsIn K mainGlobals "tuple" = some none)
    (z_max : PySem.W.nsIn K mainGlobals "max" = some none)
    (z_list : PySem.W.nsIn K mainGlobals "list" = some none)
    (z_abs : PySem.W.nsIn K mainGlobals "abs" = some none)
    (z_OverflowError : PySem.W.nsIn K mainGlobals "OverflowError" = some none)
    (z_repr : PySem.W.nsIn K mainGlobals "repr" = some none)
    (z_ValueError : PySem.W.nsIn K mainGlobals "ValueError" = some none)
    (z_range : PySem.W.nsIn K mainGlobals "range" = some none)
    (z_min : PySem.W.nsIn K mainGlobals "min" = some none)
    (z_sum : PySem.W.nsIn K mainGlobals "sum" = some none) :
    ∃ T : Txt K mg, T.aLaw = fa ∧ ∀ (s : Shared) (v : Value), BindsTo s T.dLaw ⟨[v], []⟩ [("_law_script", v)] := by
  have e := hfa.symm.trans (PySem.W.mg_of X G a13)
  cases e
  have F0 := fun_mk (st := sWall) l0 c0 k0
  have F1 := fun_mk (st := sIsPlainInteger) l1 c1 k1
  have F2 := fun_mk (st := sIsLetter) l2 c2 k2
  have F3 := fun_mk (st := sIsText) l3 c3 k3
  have F4 := fun_mk (st := sCheckText) l4 c4 k4
  have F5 := fun_mk (st := sIsImage) l5 c5 k5
  have F6 := fun_mk (st := sAreImages) l6 c6 k6
  have F7 := fun_mk (st := sLPen) l7 c7 k7
  have F8 := fun_mk (st := sLDraw) l8 c8 k8
  have F9 := fun_mk (st := sLPick) l9 c9 k9
  have F10 := fun_mk (st := sLTold) l10 c10 k10
  have F11 := fun_mk (st := sLImages) l11 c11 k11
  have F12 := fun_mk (st := sLReplaced) l12 c12 k12
  have F13 := fun_mk (st := sLaw) l13 c13 k13
  have F14 := fun_mk (st := sRulesInit) l14 c14 k14
  have F15 := fun_mk (st := sRulesApply) l15 c15 k15
  have FIInvalidText := fun_mk (st := sInitInvalidText) iLInvalidText iDInvalidText iKInvalidText
  have FITooLarge := fun_mk (st := sInitTooLarge) iLTooLarge iDTooLarge iKTooLarge
  exact ⟨⟨_, PySem.W.mg_of X G eInvalidText, _, PySem.W.mg_of X G eInvalidCount, _, PySem.W.mg_of X G eInvalidRules, _, PySem.W.mg_of X G eTooLarge, _, PySem.W.mg_of X G eRules, _, _, FIInvalidText, FIInvalidText.binds (ps := ["self", "value"]) fun _ _ _ _ _ _ us hl => match us, hl with | [_, _], _ => rfl, ⟨⟨⟨_, _, _, _, _, _, _, _, _, _, _, _, _, _, _, xLInvalidText, by decide +kernel⟩, saInvalidText, exInvalidText, tyInvalidText, kCInvalidText⟩, ⟨gaInvalidText, ggInvalidText, exInvalidText, hdInvalidText⟩, ⟨gaInvalidText, ggInvalidText, exInvalidText, hdInvalidText, caInvalidText, cnInvalidText, ctInvalidText, cmInvalidText⟩, nbInvalidText, PySem.W.exm_ref exInvalidText hdInvalidText tyInvalidText sCInvalidText, iCInvalidText, tIInvalidText⟩, _, _, FITooLarge, FITooLarge.binds (ps := ["self", "limit"]) fun _ _ _ _ _ _ us hl => match us, hl with | [_, _], _ => rfl, ⟨⟨⟨_, _, _, _, _, _, _, _, _, _, _, _, _, _, _, xLTooLarge, by decide +kernel⟩, PySem.F.excBase_OverflowError, by decide +kernel, fun self => by kernel_rfl, saTooLarge, exTooLarge, tyTooLarge, kCTooLarge⟩, ⟨gaTooLarge, ggTooLarge, exTooLarge, hdTooLarge⟩, ⟨gaTooLarge, ggTooLarge, exTooLarge, hdTooLarge, caTooLarge, cnTooLarge, ctTooLarge, cmTooLarge⟩, nbTooLarge, PySem.W.exm_ref exTooLarge hdTooLarge tyTooLarge sCTooLarge, iCTooLarge, tITooLarge⟩, PySem.W.exm_ref exInvalidRules hdInvalidRules tyInvalidRules suInvalidTextInvalidRules, PySem.W.exm_ref exInvalidRules hdInvalidRules tyInvalidRules suTooLargeInvalidRules, PySem.W.exm_ref exInvalidText hdInvalidText tyInvalidText suTooLargeInvalidText, PySem.W.exm_ref exInvalidCount hdInvalidCount tyInvalidCount suTooLargeInvalidCount, kit1_type suInvalidTextValueError (by decide +kernel), kit1_ref suInvalidTextInvalidCount sCInvalidText icInvalidCount itInvalidCount, kit1_type suTooLargeOverflowError (by decide +kernel), _, _, F0, F0.binds (ps := ["k"]) fun _ _ _ _ _ _ us hl => match us, hl with | [_], _ => rfl, PySem.W.mg_of X G a0, _, _, F1, F1.binds (ps := ["value"]) fun _ _ _ _ _ _ us hl => match us, hl with | [_], _ => rfl, PySem.W.mg_of X G a1, _, _, F2, F2.binds (ps := ["value"]) fun _ _ _ _ _ _ us hl => match us, hl with | [_], _ => rfl, PySem.W.mg_of X G a2, _, _, F3, F3.binds (ps := ["value"]) fun _ _ _ _ _ _ us hl => match us, hl with | [_], _ => rfl, PySem.W.mg_of X G a3, _, _, F4, F4.binds (ps := ["value"]) fun _ _ _ _ _ _ us hl => match us, hl with | [_], _ => rfl, PySem.W.mg_of X G a4, _, _, F5, F5.binds (ps := ["value", "size"]) fun _ _ _ _ _ _ us hl => match us, hl with | [_, _], _ => rfl, PySem.W.mg_of X G a5, _, _, F6, F6.binds (ps := ["value"]) fun _ _ _ _ _ _ us hl => match us, hl with | [_], _ => rfl, PySem.W.mg_of X G a6, _, _, F7, F7.binds (ps := ["_law_script"]) fun _ _ _ _ _ _ us hl => match us, hl with | [_], _ => rfl, PySem.W.mg_of X G a7, _, _, F8, F8.binds (ps := ["_law_pen_here", "_law_many"]) fun _ _ _ _ _ _ us hl => match us, hl with | [_, _], _ => rfl, PySem.W.mg_of X G a8, _, _, F9, F9.binds (ps := ["_law_pen_here", "_law_choices"]) fun _ _ _ _ _ _ us hl => match us, hl with | [_, _], _ => rfl, PySem.W.mg_of X G a9, _, _, F10, F10.binds (ps := ["_law_call"]) fun _ _ _ _ _ _ us hl => match us, hl with | [_], _ => rfl, PySem.W.mg_of X G a10, _, _, F11, F11.binds (ps := ["_law_pen_here"]) fun _ _ _ _ _ _ us hl => match us, hl with | [_], _ => rfl, PySem.W.mg_of X G a11, _, _, F12, F12.binds (ps := ["_law_images_here", "_law_text"]) fun _ _ _ _ _ _ us hl => match us, hl with | [_, _], _ => rfl, PySem.W.mg_of X G a12, _, _, F13, F13.binds (ps := ["_law_script"]) fun _ _ _ _ _ _ us hl => match us, hl with | [_], _ => rfl, PySem.W.mg_of X G a13, _, _, F14, F14.binds (ps := ["self", "images"]) fun _ _ _ _ _ _ us hl => match us, hl with | [_, _], _ => rfl, ⟨a14, i14, k14⟩, _, _, F15, F15.binds (ps := ["self", "text"]) fun _ _ _ _ _ _ us hl => match us, hl with | [_, _], _ => rfl, ⟨a15, i15, k15⟩, ⟨pgRules, hdRules, poRules, saRules⟩, ⟨mkRules, a14, i14, kcRules⟩, nfRules_table, _, _, rfl, hdLaw K lcLaw, npLaw, _, PySem.W.mg_of X G z_LONGEST_TEXT, _, PySem.W.mg_of X G z_GREATEST_LETTER, _, PySem.W.mg_of X G z_MOST_IMAGES, _, PySem.W.mg_of X G z_LONGEST_IMAGE, PySem.W.mg_none_of X G z_isinstance, PySem.W.mg_none_of X G z_bool, PySem.W.mg_none_of X G z_int, PySem.W.mg_none_of X G z_all, PySem.W.mg_none_of X G z_len, PySem.W.mg_none_of X G z_tuple, PySem.W.mg_none_of X G z_max, PySem.W.mg_none_of X G z_list, PySem.W.mg_none_of X G z_abs, PySem.W.mg_none_of X G z_OverflowError, PySem.W.mg_none_of X G z_repr, PySem.W.mg_none_of X G z_ValueError, PySem.W.mg_none_of X G z_range, PySem.W.mg_none_of X G z_min, PySem.W.mg_none_of X G z_sum⟩, rfl, fun s v => .of_eq rfl⟩
theorem all_mk {l : PySem.W.OpenLaw} {q : Program} {w : World} {K : PySem.W.Frag} {mg : Str → Option Value} {fa : Addr} {h : Heap} (hT : ∃ T : Txt K mg, T.aLaw = fa ∧ ∀ (s : Shared) (v : Value), BindsTo s T.dLaw ⟨[v], []⟩ [("_law_script", v)]) (em : Empties q K mg h) (rLaw : ((recsOf q).any fun e => e.name == "law") = true) :
    LawT l w K CX0 8 63 "_law_script" mg fa h := by
  obtain ⟨T, rfl, hb⟩ := hT
  have tLaw : h.get? T.pdLaw = some tab0 := by
    obtain ⟨oc, od, kV, doc, pm, an, cdv, ct, osl, e, lk, hcd⟩ := T.fLaw.ex
    exact em _ _ _ _ _ _ rLaw T.gLaw lk rfl (by first | exact T.kdLaw | (rw [← e]; exact T.kdLaw)) T.hdLaw
  refine ⟨T.dLaw, [(T.cdLaw, T.pdLaw)], spLaw K T.pdLaw, ?_, ?_, ?_, hb, ?_, ?_⟩
  · intro p hp
    simp only [List.mem_cons, List.not_mem_nil, or_false] at hp
    rcases hp with rfl
    · exact tLaw
  · intro p hp
    simp only [List.mem_cons, List.not_mem_nil, or_false] at hp
    rcases hp with rfl
    · exact T.npLaw
  · intro p hp
    simp only [List.mem_cons, List.not_mem_nil, or_false] at hp
    rcases hp with rfl
    · exact T.hdLaw
  · intro H a ns hl hH hS
    exact ⟨a, ns, rfl, hS, hl, hH (T.cdLaw, T.pdLaw) (by simp), fun _ => rfl⟩
  · intro base _ _ TB hbm
    exact ok_law (k := 0) T (TB (T.cdLaw, T.pdLaw) (by simp)) hbm
end Mo
open PySem PySem.W PyProof.Rows
set_option maxHeartbeats 0 in
theorem PySem.Challenge.cw_mustoccur_k64_letters_replaced_holds : PySem.Challenge.rw_mustoccur_k64_letters_replaced.Holds := by
  w_on; o_law; k_head; (case hw => w_witness2)
  k_fill
  refine Mo.walkT (l := PySem.Challenge.rw_mustoccur_k64_letters_replaced) (n := 63) (k := 8) (x := "_law_script") (CX := fun _ => L2.CX0) rfl (by decide) rfl ⟨rfl, by decide, by decide⟩ (fun w h Y => PySem.W.km_in_of Y) (by decide +kernel) ?F (fun _ _ _ _ _ h => h)
  case F =>
    intro w mg fa h KX G hmg em
    refine Mo.all_mk ?_ em (by decide +kernel)
    refine' Mo.txt_mk KX G hmg ?eInvalidText ?eInvalidCount ?eInvalidRules ?eTooLarge ?eRules ?xLInvalidText ?saInvalidText ?gaInvalidText ?ggInvalidText ?nbInvalidText ?exInvalidText ?tyInvalidText ?hdInvalidText ?kCInvalidText ?sCInvalidText ?caInvalidText ?cnInvalidText ?ctInvalidText ?cmInvalidText ?iCInvalidText ?tIInvalidText ?iLInvalidText ?iDInvalidText ?iKInvalidText ?xLTooLarge ?saTooLarge ?gaTooLarge ?ggTooLarge ?nbTooLarge ?exTooLarge ?tyTooLarge ?hdTooLarge ?kCTooLarge ?sCTooLarge ?caTooLarge ?cnTooLarge ?ctTooLarge ?cmTooLarge ?iCTooLarge ?tITooLarge ?iLTooLarge ?iDTooLarge ?iKTooLarge ?suInvalidTextInvalidRules ?exInvalidRules ?hdInvalidRules ?tyInvalidRules ?suTooLargeInvalidRules ?suTooLargeInvalidText ?suTooLargeInvalidCount ?exInvalidCount ?hdInvalidCount ?tyInvalidCount ?suInvalidTextValueError ?suInvalidTextInvalidCount ?icInvalidCount ?itInvalidCount ?suTooLargeOverflowError ?a0 ?l0 ?c0 ?k0 ?a1 ?l1 ?c1 ?k1 ?a2 ?l2 ?c2 ?k2 ?a3 ?l3 ?c3 ?k3 ?a4 ?l4 ?c4 ?k4 ?a5 ?l5 ?c5 ?k5 ?a6 ?l6 ?c6 ?k6 ?a7 ?l7 ?c7 ?k7 ?a8 ?l8 ?c8 ?k8 ?a9 ?l9 ?c9 ?k9 ?a10 ?l10 ?c10 ?k10 ?a11 ?l11 ?c11 ?k11 ?a12 ?l12 ?c12 ?k12 ?a13 ?l13 ?c13 ?k13 ?lcLaw ?lpLaw ?hdLaw ?npLaw ?a14 ?i14 ?l14 ?c14 ?k14 ?a15 ?i15 ?l15 ?c15 ?k15 ?pgRules ?hdRules ?poRules ?saRules ?mkRules ?kcRules ?nfRules_table ?z_LONGEST_TEXT ?z_GREATEST_LETTER ?z_MOST_IMAGES ?z_LONGEST_IMAGE ?z_isinstance ?z_bool ?z_int ?z_all ?z_len ?z_tuple ?z_max ?z_list ?z_abs ?z_OverflowError ?z_repr ?z_ValueError ?z_range ?z_min ?z_sum
    (case eInvalidText => k_is); (case eInvalidCount => k_is); (case eInvalidRules => k_is); (case eTooLarge => k_is); (case eRules => k_is); (case xLInvalidText => k_is); (case saInvalidText => k_is); (case gaInvalidText => k_is); (case ggInvalidText => k_is); (case nbInvalidText => k_is); (case exInvalidText => k_is); (case tyInvalidText => k_is); (case hdInvalidText => k_is); (case kCInvalidText => k_is); (case sCInvalidText => k_is); (case caInvalidText => k_is); (case cnInvalidText => k_is); (case ctInvalidText => k_is); (case cmInvalidText => k_is); (case iCInvalidText => k_is); (case tIInvalidText => k_is); (case iLInvalidText => k_is); (case iDInvalidText => k_is); (case iKInvalidText => k_is); (case xLTooLarge => k_is); (case saTooLarge => k_is); (case gaTooLarge => k_is); (case ggTooLarge => k_is); (case nbTooLarge => k_is); (case exTooLarge => k_is); (case tyTooLarge => k_is); (case hdTooLarge => k_is); (case kCTooLarge => k_is); (case sCTooLarge => k_is); (case caTooLarge => k_is); (case cnTooLarge => k_is); (case ctTooLarge => k_is); (case cmTooLarge => k_is); (case iCTooLarge => k_is); (case tITooLarge => k_is); (case iLTooLarge => k_is); (case iDTooLarge => k_is); (case iKTooLarge => k_is); (case suInvalidTextInvalidRules => k_is); (case exInvalidRules => k_is); (case hdInvalidRules => k_is); (case tyInvalidRules => k_is); (case suTooLargeInvalidRules => k_is); (case suTooLargeInvalidText => k_is); (case suTooLargeInvalidCount => k_is); (case exInvalidCount => k_is); (case hdInvalidCount => k_is); (case tyInvalidCount => k_is); (case suInvalidTextValueError => k_is); (case suInvalidTextInvalidCount => k_is); (case icInvalidCount => k_is); (case itInvalidCount => k_is); (case suTooLargeOverflowError => k_is); (case a0 => k_is); (case l0 => k_is); (case c0 => k_is); (case k0 => k_is); (case a1 => k_is); (case l1 => k_is); (case c1 => k_is); (case k1 => k_is); (case a2 => k_is); (case l2 => k_is); (case c2 => k_is); (case k2 => k_is); (case a3 => k_is); (case l3 => k_is); (case c3 => k_is); (case k3 => k_is); (case a4 => k_is); (case l4 => k_is); (case c4 => k_is); (case k4 => k_is); (case a5 => k_is); (case l5 => k_is); (case c5 => k_is); (case k5 => k_is); (case a6 => k_is); (case l6 => k_is); (case c6 => k_is); (case k6 => k_is); (case a7 => k_is); (case l7 => k_is); (case c7 => k_is); (case k7 => k_is); (case a8 => k_is); (case l8 => k_is); (case c8 => k_is); (case k8 => k_is); (case a9 => k_is); (case l9 => k_is); (case c9 => k_is); (case k9 => k_is); (case a10 => k_is); (case l10 => k_is); (case c10 => k_is); (case k10 => k_is); (case a11 => k_is); (case l11 => k_is); (case c11 => k_is); (case k11 => k_is); (case a12 => k_is); (case l12 => k_is); (case c12 => k_is); (case k12 => k_is); (case a13 => k_is); (case l13 => k_is); (case c13 => k_is); (case k13 => k_is); (case lcLaw => k_is); (case lpLaw => rfl); (case hdLaw => (intro K' h; unfold PySem.W.codeHdIn; rw [h]; rfl)); (case npLaw => rfl); (case a14 => k_is); (case i14 => k_is); (case l14 => k_is); (case c14 => k_is); (case k14 => k_is); (case a15 => k_is); (case i15 => k_is); (case l15 => k_is); (case c15 => k_is); (case k15 => k_is); (case pgRules => k_is); (case hdRules => k_is); (case poRules => k_is); (case saRules => k_is); (case mkRules => k_is); (case kcRules => k_is); (case nfRules_table => k_is); (case z_LONGEST_TEXT => k_is); (case z_GREATEST_LETTER => k_is); (case z_MOST_IMAGES => k_is); (case z_LONGEST_IMAGE => k_is); (case z_isinstance => k_is); (case z_bool => k_is); (case z_int => k_is); (case z_all => k_is); (case z_len => k_is); (case z_tuple => k_is); (case z_max => k_is); (case z_list => k_is); (case z_abs => k_is); (case z_OverflowError => k_is); (case z_repr => k_is); (case z_ValueError => k_is); (case z_range => k_is); (case z_min => k_is); (case z_sum => k_is)
