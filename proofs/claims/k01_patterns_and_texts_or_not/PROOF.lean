import PyProof.Rows.All
import Wide.All
import OpenK.AllK
import Wide.FinOn
import HandS.ForMost
import HandS.SetKeys
import HandS.Walk
import HandS.Style
import HandS.SetFor
import HandS.IsInst
import HandS.Wide
import PyProof.Draws
import PyProof.EnumMake
import HandS.Replace
import HandS.Exc
import HandS.WordsExc
import HandS.ExcInit
import HandS.ExcField
import HandS.ExcIs
import HandS.TryOnly
import HandS.CallSlots
import HandS.ExcOwn
import PyProof.ReprRoads
import HandS.Ends
import HandS.TupAny
import HandS.TupMul
import PyProof.TupleOfStr
import PyProof.NeKinds
import PyProof.EqAt
import PyProof.ReprBulk
import PyProof.Rows.StrBin
import PyProof.Rows.ReprOcc
import PyProof.ReprLen
import HandS.Evl
import KE.KEqSeq
import PySem.Challenge.RW_mustoccur_k01_patterns_and_texts_or_not
set_option Elab.async false
set_option linter.all false
set_option maxRecDepth 100000
set_option maxHeartbeats 8000000
/-! Rules that the laws of this program want and the layer lacks: repr and reversal of a text, enumerate of a text, the set of a text's signs and its size. -/
namespace Mo
open PySem PySem.Spec PyProof.Rows L2
/-! ### signs met, in the order of first occurrence -/
def metStep (acc : List Nat) (c : Nat) : List Nat := if c ∈ acc then acc else acc ++ [c]
def met (cs : List Nat) : List Nat := cs.foldl metStep []
theorem met_snoc (cs : List Nat) (c : Nat) : met (cs ++ [c]) = metStep (met cs) c := by
  unfold met
  rw [List.foldl_append]
  rfl
theorem mem_metStep {acc : List Nat} {c d : Nat} : d ∈ metStep acc c ↔ d ∈ acc ∨ d = c := by
  unfold metStep
  by_cases h : c ∈ acc
  · rw [if_pos h]
    constructor
    · exact Or.inl
    · rintro (q | q)
      · exact q
      · rw [q]; exact h
  · rw [if_neg h, List.mem_append, List.mem_singleton]
theorem mem_fold : ∀ (cs acc : List Nat) (d : Nat), d ∈ cs.foldl metStep acc ↔ d ∈ acc ∨ d ∈ cs
  | [], acc, d => by simp
  | c :: cs, acc, d => by
    rw [List.foldl_cons, mem_fold cs (metStep acc c) d, mem_metStep, List.mem_cons, or_assoc]
theorem mem_met {cs : List Nat} {d : Nat} : d ∈ met cs ↔ d ∈ cs := by
  unfold met
  rw [mem_fold]
  simp
theorem metStep_length (acc : List Nat) (c : Nat) : (metStep acc c).length = if c ∈ acc then acc.length else acc.length + 1 := by
  unfold metStep
  split <;> simp
theorem metStep_nodup {acc : List Nat} (h : acc.Nodup) (c : Nat) : (metStep acc c).Nodup := by
  unfold metStep
  by_cases q : c ∈ acc
  · rw [if_pos q]; exact h
  · rw [if_neg q]
    exact List.nodup_append.mpr ⟨h, by simp, by rintro a ha b hb rfl; exact q (by rw [← List.mem_singleton.mp hb]; exact ha)⟩
theorem fold_nodup : ∀ (cs acc : List Nat), acc.Nodup → (cs.foldl metStep acc).Nodup
  | [], _, h => h
  | c :: cs, _, h => fold_nodup cs _ (metStep_nodup h c)
theorem met_nodup (cs : List Nat) : (met cs).Nodup := fold_nodup cs [] List.nodup_nil
theorem met_length_le : ∀ cs : List Nat, (met cs).length ≤ cs.length := fun cs => by
  have key : ∀ (cs acc : List Nat), (cs.foldl metStep acc).length ≤ acc.length + cs.length := by
    intro cs
    induction cs with
    | nil => intro acc; simp
    | cons c cs ih =>
      intro acc
      rw [List.foldl_cons]
      have h1 := ih (metStep acc c)
      have h2 := metStep_length acc c
      rw [List.length_cons]
      split at h2 <;> omega
  have h := key cs []
  simpa [met] using h
/-- the keys that are signs of cs -/
def inS (cs : List Nat) (k : Key) : Bool := cs.any fun c => decide (k = Sum.inr (⟨#[c]⟩ : Str))
theorem sign_inj {c d : Nat} (h : (⟨#[c]⟩ : Str) = ⟨#[d]⟩) : c = d := by
  injection h with h
  simpa using h
theorem inS_sign (cs : List Nat) (c : Nat) : inS cs (Sum.inr ⟨#[c]⟩) = decide (c ∈ cs) := by
  unfold inS
  by_cases h : c ∈ cs
  · rw [decide_eq_true h]
    exact List.any_eq_true.mpr ⟨c, h, decide_eq_true rfl⟩
  · rw [decide_eq_false h]
    cases q : cs.any fun d => decide ((Sum.inr ⟨#[c]⟩ : Key) = Sum.inr ⟨#[d]⟩) with
    | false => rfl
    | true =>
      obtain ⟨d, hd, e⟩ := List.any_eq_true.mp q
      exact absurd (by rw [sign_inj (Sum.inr.inj (of_decide_eq_true e))]; exact hd) h
section
variable {P : Program} {w : World} {A : Around} {E : Value → Shared → Prop} {s : Shared}
theorem signs_loop {I : Addr} {fp wr : List Addr} {G : Array GenState → Array GenState → Prop} {n : Nat} {Pv : Nat → Value → Prop} {St : Nat → Shared → Prop} {R : Result → Shared → Prop}
    (W : WalksS P w A.in1 I fp wr G n Pv St) (D : Addr) (hD : D ∉ fp) (cs : List Nat) (hn : n = cs.length) (hb : cs.length + 1 < scanBound)
    (hval : ∀ i v, Pv i v → ∃ c t, cs[i]? = some c ∧ v = .str ⟨#[c]⟩ t) :
    ∀ (k i : Nat) (s : Shared), n - i = k → i ≤ n → St i s → s.heap.SetOf (mixKind P w) D (inS (cs.take i)) (met (cs.take i)).length →
      (∀ s', Moved (D :: wr) G s s' → s'.heap.SetOf (mixKind P w) D (inS cs) (met cs).length → R (.ok (.ret .none)) s') →
      codeAny (model P w) A (.builtin "set.update.loop" ⟨[.ref D, .ref I], []⟩) R s := by
  have hDw : D ∉ wr := fun h => hD (W.sub _ h)
  have up : ∀ b ∈ wr, b ∈ D :: wr := fun b q => List.mem_cons_of_mem _ q
  intro k
  induction k with
  | zero =>
    intro i s hk hi hst hS hR
    obtain rfl : i = n := by omega
    refine codeAny_builtin PyProof.Rows.F.entry_set_update_loop (by
      rw [Around.under_plainId PyProof.Rows.F.plain_set_update_loop _]
      show wpAny _ A.in1 (pyNext (.ref I) >>= _) _ _ s
      refine wpAny_bind (W.done s _ _ hst fun s' hm => wpAny_pure (hR s' (hm.mono up) ?_))
      rw [List.take_of_length_le (by omega)] at hS
      obtain ⟨o, es, ep, t, ho, rest⟩ := hS
      exact ⟨o, es, ep, t, hm.heap D _ hDw ho, rest⟩)
  | succ k ih =>
    intro i s hk hi hst hS hR
    have hlt : i < n := by omega
    refine codeAny_builtin PyProof.Rows.F.entry_set_update_loop (by
      rw [Around.under_plainId PyProof.Rows.F.plain_set_update_loop _]
      show wpAny _ A.in1 (pyNext (.ref I) >>= _) _ _ s
      refine wpAny_bind (W.item i s _ _ hlt hst fun v s' hP hst' hm => ?_)
      obtain ⟨c, t, hc, rfl⟩ := hval i v hP
      have hS' : s'.heap.SetOf (mixKind P w) D (inS (cs.take i)) (met (cs.take i)).length := by
        obtain ⟨o, es, ep, tb, ho, rest⟩ := hS
        exact ⟨o, es, ep, tb, hm.heap D _ hDw ho, rest⟩
      show wpAny _ A.in1 (holding [Value.str ⟨#[c]⟩ t] (setAdd D (.str ⟨#[c]⟩ t)) >>= _) _ _ s'
      refine wpAny_bind (wpAny_holding (by
        unfold setAdd
        refine wpAny_holding (wpAny_bind ((mixKind P w).pyHash (k := Sum.inr ⟨#[c]⟩) (mixKind_str _ _ _ _) ?_))
        have room : (met (cs.take i)).length + 1 < scanBound := by
          have h1 := met_length_le (cs.take i)
          rw [List.length_take] at h1
          omega
        refine wpAny_setAddHashed_of (knd := mixKind P w) (s := { s' with toks := s'.toks + 1 }) (mixKind_str _ _ _ _) rfl hS' room fun h' hsb hS2 => ?_
        have e3 : cs.take (i + 1) = cs.take i ++ [c] := by
          rw [List.take_add_one, hc]
          rfl
        have hS3 : h'.SetOf (mixKind P w) D (inS (cs.take (i + 1))) (met (cs.take (i + 1))).length := by
          have f1 : (fun k' => inS (cs.take i) k' || decide (k' = Sum.inr (⟨#[c]⟩ : Str))) = inS (cs.take (i + 1)) := by
            funext k'
            rw [e3]
            unfold inS
            rw [List.any_append]
            simp
          have f2 : (if inS (cs.take i) (Sum.inr ⟨#[c]⟩) = true then (met (cs.take i)).length else (met (cs.take i)).length + 1) = (met (cs.take (i + 1))).length := by
            rw [e3, met_snoc, metStep_length, inS_sign]
            by_cases q : c ∈ cs.take i
            · rw [if_pos (decide_eq_true q), if_pos (mem_met.mpr q)]
            · rw [if_neg (by rw [decide_eq_false q]; exact Bool.false_ne_true), if_neg (fun z => q (mem_met.mp z))]
          rw [← f1, ← f2]
          exact hS2
        refine wpAny_pure ⟨plainId_quiet PyProof.Rows.F.plain_set_update_loop _, ih (i + 1) _ (by omega) hlt (W.frame _ s' _ _ hst' (Nat.le_succ _) fun b q o e => ?_) hS3 fun s2 hm2 hS4 => ?_⟩
        · rw [hsb.2 b (fun z : b = D => hD (by rw [← z]; exact q))]
          exact e
        · refine hR s2 (Moved.trans W.gtrans ((hm.mono up).then_heap (Nat.le_succ _) fun b o q e => ?_) hm2) hS4
          rw [hsb.2 b (fun z : b = D => q (by rw [z]; exact List.mem_cons_self))]
          exact e)))

set_option maxHeartbeats 8000000 in
/-- set(a text) -/
theorem call_set_signs {z : Str} {t : Tok} {Q : Value → Shared → Prop} (hh : A.handled = none) (hb : z.cps.size + 1 < scanBound)
    (h : ∀ (h' : Heap) (tk : Nat), h'.SetOf (mixKind P w) s.heap.objs.size (inS z.cps.toList) (met z.cps.toList).length → (∀ b o, s.heap.get? b = some o → h'.get? b = some o) → Q (.ref s.heap.objs.size) { s with heap := h', toks := tk }) :
    wpAny (model P w) A (call (.type "set") [.str z t]) Q E s := by
  obtain ⟨c, tl, hmro⟩ := PySem.F.called_set.mro
  have hmade := PySem.F.called_set.made; have hsub := PySem.F.called_set.sub
  refine wpAny_call (codeAny_of_tree (by
    show wpAny _ _ (callAny (.type "set") _) _ _ _
    refine wpAny_pure ⟨Code.quiet_builtin _ (by decide +kernel), codeAny_builtin PySem.F.entry_type_call ?_⟩
    rw [Around.under_plain (weight_type_call_type "set" [.str z t] []) rfl]
    have h1 := PySem.F.called_set.notType; have h2 := PySem.F.called_set.canCreate
    have hct := PySem.F.typeCall_set_1 (.str z t)
    repeat (any_goals (first | assumption | wp_step))
    refine codeAny_mono (code_set_new_1 (.str z t) (E := E) (Q₁ := fun obj s₁ => ∃ led : Bool, obj = .ref s.heap.objs.size ∧ s₁ = { s with heap := s.heap.push { cls := .type "set", dict := none, data := .set #[] 0 (.fresh 0 0 led) } }) fun led => ⟨led, rfl, rfl⟩) fun r s₁ hr => ?_
    cases r with
    | error e => exact hr
    | ok fl =>
      cases fl with
      | ret obj =>
        obtain ⟨led, rfl, rfl⟩ := hr
        generalize hNew : ({ cls := .type "set", dict := none, data := .set #[] 0 (.fresh 0 0 led) } : Obj) = nw
        have hfr : ∀ (h : Heap) (a : Addr), h.get? a = some nw → h.SetOf (mixKind P w) a (inS []) (met []).length := by
          intro h a e
          rw [← hNew] at e
          exact ⟨_, #[], 0, _, e, ⟨rfl, rfl, rfl⟩, rfl, (fun e he => by simp at he), (fun k => by simp [inS]), (by decide), (by rfl), rfl⟩
        have hcls : nw.cls = .type "set" := by rw [← hNew]
        have hnf : nw.isFreed = false := by rw [← hNew]; rfl
        have hS : (s.heap.push nw).get? s.heap.objs.size = some nw := Heap.get?_push_size _ hnf
        have hT : Shared.TypeIs { s with heap := s.heap.push nw } (.ref s.heap.objs.size) "set" := ⟨_, hS, hcls⟩
        have hli := PySem.F.called_set.init.lookup; have hbi := PySem.F.called_set.init.bind (.ref s.heap.objs.size)
        repeat (any_goals (first | assumption | wp_step))
        refine codeAny_mono (codeAny_call_builtin (R := wants (fun r s₂ => r = .none ∧ ∃ h' tk, s₂ = { s with heap := h', toks := tk } ∧ h'.SetOf (mixKind P w) s.heap.objs.size (inS z.cps.toList) (met z.cps.toList).length ∧
          (∀ b o, s.heap.get? b = some o → h'.get? b = some o)) E) PySem.F.called_set.init.plain PySem.F.entry_set_init (check_set_init_1 hT ?_)) fun r₂ s₂ hr₂ => ?_
        · subst hNew
          have n1 : isSubtype (.type "str") (.type "set") = pure false := by rw [isSubtype_type]; kernel_rfl
          have n2 : isSubtype (.type "str") (.type "frozenset") = pure false := by rw [isSubtype_type]; kernel_rfl
          have n3 : (Value.type "str" == Value.type "dict") = false := by decide
          unfold Builtin.«set.__init__» noKeywords Builtin.Frozenset.updateFrom
          generalize hPI : pyIter = PI
          wp_walk
          subst hPI
          have hh3 : A.in1.in1.in1.handled = none := by simp [hh]
          generalize hNew : ({ cls := .type "set", data := .set #[] 0 (.fresh 0 0 led) } : Obj) = nw at *
          have hz1 : (s.heap.push nw).objs.size = s.heap.objs.size + 1 := Heap.size_push ..
          have fin : ∀ (ty : String) (wk : Walks P w A.in1.in1.in1 (s.heap.push nw).objs.size [(s.heap.push nw).objs.size] [(s.heap.push nw).objs.size] z.cps.size (SignAt z) (fun i h => h.IsStrIter (s.heap.push nw).objs.size ty z t i))
              (Rk : Result → Shared → Prop), (∀ h' tk, h'.SetOf (mixKind P w) s.heap.objs.size (inS z.cps.toList) (met z.cps.toList).length → (∀ b o, s.heap.get? b = some o → h'.get? b = some o) → Rk (.ok (.ret .none)) { s with heap := h', toks := tk }) →
              codeAny (model P w) A.in1.in1 (.builtin "set.update.loop" ⟨[.ref s.heap.objs.size, .ref (s.heap.push nw).objs.size], []⟩) Rk
                { s with heap := (s.heap.push nw).push { cls := .type ty, data := .fields #[.str z t, .int 0 0] } } := by
            intro ty wk Rk hR
            refine signs_loop (wk.toS) s.heap.objs.size (by rw [hz1]; simp) z.cps.toList (by simp) (by simpa using hb) (fun i v hv => ?_) (z.cps.size - 0) 0 _ (by omega) (Nat.zero_le _) ⟨_, Heap.get?_push_size _ rfl, rfl, rfl⟩ ?_ ?_
            · obtain ⟨c, u, hc, rfl⟩ := hv
              exact ⟨c, u, by rw [Array.getElem?_toList]; exact hc, rfl⟩
            · exact hfr _ _ (Heap.get?_push_of_some _ hS)
            · intro s' hm hS'
              obtain ⟨h', g', d', tk', os'⟩ := s'
              obtain rfl : g' = s.gens := hm.gens
              obtain rfl : d' = s.drawn := hm.drawn
              obtain rfl : os' = s.os := hm.os
              refine hR h' tk' hS' fun b o e => ?_
              have hb0 : b < s.heap.objs.size := Heap.lt_size e
              have n1 : b ∉ s.heap.objs.size :: [(s.heap.push nw).objs.size] := by
                rw [hz1]
                intro q
                rcases List.mem_cons.mp q with q | q
                · exact Nat.ne_of_lt hb0 q
                · exact Nat.ne_of_lt (Nat.lt_succ_of_lt hb0) (List.mem_singleton.mp q)
              exact hm.heap b o n1 (Heap.get?_push_of_some _ (Heap.get?_push_of_some _ e))
          cases ha : z.cps.all (· < 128)
          · refine wpAny_pyIter_wide ha (wpAny_bind (wpAny_runValue (fin _ (Walks.strWide hh3 _ z t) _ fun h' tk hS2 hk2 => wpAny_pure ?_)))
            exact wpAny_pure ⟨rfl, h', tk, rfl, hS2, hk2⟩
          · refine wpAny_pyIter_ascii ha (wpAny_bind (wpAny_runValue (fin _ (Walks.strAscii hh3 _ z t) _ fun h' tk hS2 hk2 => wpAny_pure ?_)))
            exact wpAny_pure ⟨rfl, h', tk, rfl, hS2, hk2⟩
        · cases r₂ with
          | error e => exact hr₂
          | ok fl₂ =>
            cases fl₂ with
            | ret r =>
              obtain ⟨rfl, h', tk, rfl, hS', hk'⟩ := hr₂
              repeat (any_goals (first | assumption | wp_step))
              exact h _ _ hS' hk'
            | _ => exact hr₂.elim
      | _ => exact hr.elim))
end
end Mo

namespace Mo
open PySem PySem.Spec PyProof.Rows L2
/-! ### the rules over the layer -/
section
variable {X : Cx}
def rSetS (P : Program) (w : World) : List V → Hp → VK → Prop := fun xs H Q => ∃ z : Str, xs = [.str z] ∧ z.cps.size ≤ 4000 ∧ ∀ p, H p = none → Q (.ref p) (upd H p (SetK P w p (inS z.cps.toList) (met z.cps.toList).length))
/-- set(z), z a text -/
theorem cr_setS (hc : X.calm = true) : CallR X (.type "set") (rSetS X.prog X.w) := by
  intro pins s σ H xs us Q I r h
  obtain ⟨z, rfl, hz, q⟩ := h
  obtain ⟨u, rfl, t, rfl⟩ := vals1 r
  refine call_set_signs (I.ok.hd hc) (by unfold scanBound; omega) fun h' tk hS hk => ?_
  exact ⟨.ref _, _, I.laid (t' := tk) hk (Nat.le_refl _) (setK_new hS), rfl, q _ (I.hok.fresh (Nat.le_refl _))⟩
def rLenK (P : Program) (w : World) : List V → Hp → VK → Prop := fun xs H Q => ∃ a S n, xs = [V.ref a] ∧ H a = some (SetK P w a S n) ∧ (n : Int) < 2 ^ 62 ∧ Q (.int (n : Nat)) H
/-- len(a set) -/
theorem cr_lenK : CallR X (.builtin "len") (rLenK X.prog X.w) := by
  intro pins s σ H xs us Q I r h
  obtain ⟨a, S, n, rfl, ha, hn, q⟩ := h
  obtain ⟨u, rfl, ru⟩ := vals1 r
  cases ru
  obtain ⟨o, es, ep, t, ho, hex, hd, _, _, _, hf, hes⟩ := setK_get I ha
  refine call_len_set ho hex hd hf (by rw [hes]; omega) ⟨.int (n : Nat), H, I.tok _, ⟨_, by rw [hes]⟩, q⟩
/-- repr(z), z a text -/
theorem cr_reprS : CallR X (.builtin "repr") (fun xs H Q => ∃ z : Str, xs = [.str z] ∧ (reprText z).length ≤ sizeLine ∧ Q (.str (reprText z)) H) := by
  intro pins s σ H xs us Q I r h
  obtain ⟨z, rfl, hz, q⟩ := h
  obtain ⟨u, rfl, t, rfl⟩ := vals1 r
  exact PySem.P.repr_of_str ⟨.str _, H, I.tok _, ⟨_, rfl⟩, q⟩ hz
/-! rules within a comprehension's block: the written part named, so that the reading is the same in every block -/
def rLenSq (K : PySem.W.Frag) : List V → Hp → VK → Prop := fun xs H Q => ∃ p ys, xs = [.ref p] ∧ (SqL K H p ys ∨ SqT K H p ys) ∧ Q (.int ys.length) H
theorem call_len_seqK {K : PySem.W.Frag} (h : X.K = K) : CallR X (.builtin "len") (rLenSq K) := by
  subst h
  exact call_len_seq
theorem ix_listK {K : PySem.W.Frag} (h : X.K = K) : IxR X (rIxL K) := by
  subst h
  exact ix_list
theorem op_notIn_seqK {K : PySem.W.Frag} (h : X.K = K) : OpR X (compareOp .NotIn) (rIn K true) := by
  subst h
  exact op_notIn_seq
theorem op_in_seqK {K : PySem.W.Frag} (h : X.K = K) : OpR X (compareOp .In) (rIn K false) := by
  subst h
  exact op_in_seq
theorem pg_tupK {K : PySem.W.Frag} {es : List Expr} {t : TGs} {k n : Nat} {pos : Pos} (h : X.K = K) (hc : X.calm = true) (hs : PGs X es t)
    (hn : (assignEach es X.env).length = n := by rfl) (hst : (assignEach es X.env).findIdx? (·.1) = none := by rfl) : PG X (.Tuple es k pos) (gTup K n t) := by
  subst h
  exact pg_tup hc hs hn hst
/-- z[::-1], z a text -/
def revS (z : Str) : Str := ⟨z.cps.toList.reverse.toArray⟩
def tRevS (te : TE) : TE := fun σ H Q => te σ H fun x H1 => ∃ z, x = .str z ∧ z.length ≤ sizeLine ∧ Q (.str (revS z)) H1
theorem back_idx (n : Nat) : Builtin.Str.strSliceIndices none none (-1) n = (List.range n).reverse := by
  show sliceRange ((n : Int) - 1) (-1) (-1) = _
  rw [PySem.W.krv_sliceRange, PySem.W.krv_range]
theorem back_pick (z : Str) : ((Builtin.Str.strSliceIndices none none (-1) z.length).filterMap (z.cps[·]?)).toArray = z.cps.toList.reverse.toArray := by
  rw [back_idx, List.filterMap_reverse]
  show ((List.range z.cps.size).filterMap (z.cps[·]?)).reverse.toArray = _
  rw [PySem.W.krv_all]
theorem pe_revS {e : Expr} {te : TE} {k : Nat} {p1 p2 p3 pos : Pos} (he : PE X e te) : PE X (.Subscript e (.Slice none none (some (.UnaryOp .USub (.Constant (.int 1) k p1) p2)) p3) pos) (tRevS te) := by
  refine ⟨fun pins s σ H Q I h => ?_⟩
  refine Subscript_ (thn (he.run pins s σ H _ I h) fun v s1 ⟨x, H1, I1, r1, z, ez, hz, q⟩ => ?_)
  subst ez
  obtain ⟨t, rfl⟩ := r1
  have hst : PO X (some (.UnaryOp .USub (.Constant (.int 1) k p1) p2)) (tPart (tUn (rU fun i => .int (-i)) (tC (.int 1)))) := po_some (pe_un un_neg pe_int)
  refine wpAny_Slice (thn (po_none.run pins s1 σ H1 (fun o H2 => o = none ∧ H2 = H1) I1 ⟨rfl, rfl⟩) fun vl s2 ⟨l, H2, I2, pl, el, e2⟩ => ?_)
  subst el e2
  refine thn (po_none.run pins s2 σ H2 (fun o H3 => o = none ∧ H3 = H2) I2 ⟨rfl, rfl⟩) fun vu s3 ⟨u, H3, I3, pu, eu, e3⟩ => ?_
  subst eu e3
  refine thn (hst.run pins s3 σ H3 (fun o H4 => o = some (-1) ∧ H4 = H3) I3 ⟨1, rfl, -1, rfl, rfl, rfl⟩) fun vs s4 ⟨o, H4, I4, ps, eo, e4⟩ => ?_
  subst eo e4
  have I5 : Inv X pins σ H4 { s4 with heap := s4.heap.push { cls := .type "slice", data := .fields #[vl, vu, vs] } } := I4.kept (t' := s4.toks) fun b ob q => Heap.get?_push_of_some _ q
  obtain ⟨l, rfl, el⟩ := IsPart.raw pl
  obtain ⟨u, rfl, eu⟩ := IsPart.raw pu
  obtain ⟨sp, rfl, es⟩ := IsPart.raw ps
  show wpAny (model X.prog X.w) X.A (subscriptTail e (.Slice none none (some (.UnaryOp .USub (.Constant (.int 1) k p1) p2)) p3) (.str z t) (.ref s4.heap.objs.size)) (EP X pins σ Q) X.xe { s4 with heap := s4.heap.push { cls := .type "slice", data := .fields #[partValue l, partValue u, partValue sp] } }
  refine tail_any (ops := [.str z t, .ref s4.heap.objs.size]) (typeIs_str _ _ _) (F.slot_str_getitem.lookup) ?_ (by with_unfolding_all rfl)
  refine wpAny_getItem_str_slice (l := l) (u := u) (st := sp) ⟨_, Heap.get?_push_size _ rfl, rfl, rfl⟩ (by rw [es]; rfl) ?_
  unfold sliceMade slicePicked
  rw [el, eu, es]
  show Made.post (Made.str ⟨((Builtin.Str.strSliceIndices none none (-1) z.length).filterMap (z.cps[·]?)).toArray⟩) (EP X pins σ Q) _
  rw [back_pick]
  refine ⟨?_, .str (revS z), H4, I5.tok _, ⟨_, rfl⟩, q⟩
  show (z.cps.toList.reverse.toArray).size ≤ sizeLine
  rw [List.size_toArray, List.length_reverse, Array.length_toList]
  exact hz
/-! ### enumerate(z), z a text -/
def IteS (z : Str) : It := ⟨fun i _ => i < z.cps.size, fun i H v H' => ∃ T c, v = .ref T ∧ H T = none ∧ z.cps[i]? = some c ∧ H' = upd H T (.tup [.int (i : Nat), .str ⟨#[c]⟩]), fun i _ => z.cps.size ≤ i⟩
theorem strIter_kind (z : Str) : strIterType z = "str_ascii_iterator" ∨ strIterType z = "str_iterator" := by
  unfold strIterType
  split
  · exact .inl rfl
  · exact .inr rfl
theorem draws_str {P : Program} {w : World} {A : Around} (hh : A.handled = none) (it : Addr) (z : Str) (t : Tok) :
    Draws P w A it [it] z.cps.size (fun i v => ∃ c u, z.cps[i]? = some c ∧ v = .str ⟨#[c]⟩ u) (fun i h => h.IsStrIter it (strIterType z) z t i) := by
  rcases strIter_kind z with e | e
  · rw [e]; exact Draws.strAscii hh it z t
  · rw [e]; exact Draws.strWide hh it z t
theorem turn_enumS {P : Program} {w : World} {K : PySem.W.Frag} {elts : List Expr} {kk : Nat} {tpos : Pos} (z : Str) (t : Tok) (e it : Addr) :
    Turn P w K (.Tuple elts kk tpos) (IteS z) [e, it] e (fun i h => (∃ old, IsEnum h e it ((i : Nat) : Int) old) ∧ h.IsStrIter it (strIterType z) z t i ∧ e ≠ it ∧ i ≤ z.cps.size) where
  mem := by simp
  obj := fun i h st b hb => by
    obtain ⟨⟨old, he⟩, ⟨o, ho, hc, hd⟩, _⟩ := st
    rcases (by simpa using hb : b = e ∨ b = it) with q | q
    · rw [q]; exact ⟨_, he, fun v q => nomatch q⟩
    · rw [q]; exact ⟨o, ho, fun v q => by rw [hd] at q; cases q⟩
  keep := fun i h h' st k => let ⟨⟨old, he⟩, ⟨o, ho, r⟩, hne⟩ := st; ⟨⟨old, k e (by simp) _ he⟩, ⟨o, k it (by simp) o ho, r⟩, hne⟩
  item := by
    intro X hP hw hK hc i pins s σ H E I hf st hg
    subst hP hw hK
    obtain ⟨⟨old, he⟩, hit, hne, hle⟩ := st
    have hi : i < z.cps.size := hg
    have hel : e < s.heap.objs.size := Heap.lt_size he
    have hil : it < s.heap.objs.size := by obtain ⟨_, q, _⟩ := hit; exact Heap.lt_size q
    have hh : X.A.in1.handled = none := by simpa using I.ok.hd hc
    refine wpAny_pyNext_enum_itemD (draws_str hh it z t) he hit hi hne (by simpa using hne) fun x h' tk hP ho hit' hT hsz hk => ?_
    obtain ⟨c, u, hcx, rfl⟩ := hP
    refine ⟨_, rfl, wpAny_letOwnedTupleGo_enum (s := { s with heap := h', toks := tk + 1 }) ho fun h2 he' sb => ?_⟩
    have hT2 := (sb.2 _ (Nat.ne_of_gt hel)).trans hT
    have new : ObjOk X.prog X.w (upd H s.heap.objs.size (.tup [.int (i : Nat), .str ⟨#[c]⟩])) h2 s.heap.objs.size (.tup [.int (i : Nat), .str ⟨#[c]⟩]) :=
      ⟨by show 2 ≤ sizeLine; decide, [.int i tk, .str ⟨#[c]⟩ u], .cons ⟨_, rfl⟩ (.cons ⟨_, rfl⟩ .nil), ⟨_, hT2, rfl, _, rfl⟩⟩
    have I1 : Inv X pins σ (upd H s.heap.objs.size (.tup [.int (i : Nat), .str ⟨#[c]⟩])) { s with heap := h2, toks := tk + 1 } :=
      I.turnedNew (ch := [e, it]) (fun b ob hb q => (sb.2 b (fun z => hb (by simp [z]))).trans (hk b ob (fun z => hb (by simp [z])) (fun z => hb (by simp [z])) q)) hf (Nat.le_refl _) new
    obtain ⟨oi, hoi, r⟩ := hit'
    refine ⟨.ref s.heap.objs.size, _, I1, rfl, ⟨_, c, rfl, I.hok.fresh (Nat.le_refl _), hcx, rfl⟩, ⟨⟨.str ⟨#[c]⟩ u, ?_⟩, ⟨oi, (sb.2 it (Ne.symm hne)).trans hoi, r⟩, hne, hi⟩, fun b hb => ?_⟩
    · have e1 : ((i + 1 : Nat) : Int) = (i : Int) + 1 := by omega
      rw [e1]; exact he'
    · have hb' : b < s.heap.objs.size := by
        rcases (by simpa using hb : b = e ∨ b = it) with q | q
        · rw [q]; exact hel
        · rw [q]; exact hil
      rw [upd_ne (Nat.ne_of_lt hb')]
      exact (hf b hb).1
  done := by
    intro X hP hw hK hc i pins s σ H E I hf st hg
    subst hP hw hK
    obtain ⟨⟨old, he⟩, hit, hne, hle⟩ := st
    have hi : i = z.cps.size := Nat.le_antisymm hle hg
    subst hi
    obtain ⟨f0, f1, f2, f3, f4, f5⟩ := hf it (by simp)
    have hh : X.A.in1.handled = none := by simpa using I.ok.hd hc
    exact wpAny_pyNext_enum_endD (draws_str hh it z t) he hit fun h' eb => ⟨rfl, I.turned (t' := s.toks) (fun b o hb q => eb b o hb q) f0 f1 f3 f4 f5⟩
  self := fun A i s Q E st h => let ⟨⟨_, he⟩, _⟩ := st; wpAny_pyIter_enum he h
def iEnumS (ta : TA) : TI := fun σ H R => ta σ H fun vs H1 => ∃ z : Str, vs = [.str z] ∧ R (IteS z) H1
theorem pi_enumS {e : Expr} {ta : TA} {p pos tpos : Pos} {elts : List Expr} {kk : Nat} (hg : Gl X "enumerate") (hm : X.mg "enumerate" = none) (ha : PA X [e] ta) (hs : starEach [e] X.env = [(false, eval e X.env)] := by rfl) :
    PI X (.Tuple elts kk tpos) (.Call (.Name "enumerate" p) [e] [] pos) (iEnumS ta) := by
  refine ⟨fun pins s σ H R I h => ?_⟩
  refine Call_ (ld_blt I hg hm boot_enumerate (PyProof.Rows.callWith_type1 (thn (ha.run pos pins s σ H _ I h) fun us s1 ⟨vs, H1, I1, r1, q1⟩ => ?_) hs rfl))
  obtain ⟨z, rfl, q⟩ := q1
  obtain ⟨u, rfl, t, rfl⟩ := vals1 r1
  refine call_enumerate_str fun h' he hit hsz hk => wpAny_pyIter_enum he ?_
  have I2 : Inv X pins σ H1 { s1 with heap := h' } := I1.kept (t' := s1.toks) hk
  refine ⟨s1.heap.objs.size + 1, [s1.heap.objs.size + 1, s1.heap.objs.size], _, _, H1, rfl, I2, turn_enumS z t (s1.heap.objs.size + 1) s1.heap.objs.size, ⟨⟨.none, he⟩, hit, Nat.succ_ne_self _, Nat.zero_le _⟩, fun b hb => ?_, q⟩
  have hle : s1.heap.objs.size ≤ b := by
    rcases (by simpa using hb : b = s1.heap.objs.size + 1 ∨ b = s1.heap.objs.size) with q | q
    · rw [q]; exact Nat.le_add_right _ _
    · rw [q]; exact Nat.le_refl _
  exact I1.fpOk hle (I1.hok.fresh hle)
theorem walk_enumS {z : Str} : Walk (IteS z) z.cps.size (fun _ => True) (YPair (fun i => some (.int (i : Nat))) (fun i => z.cps[i]?.map fun c => .str ⟨#[c]⟩)) :=
  ⟨fun _ _ hi _ => hi, fun _ _ => Nat.le_refl _, fun i H v H' _ _ ⟨T, c, h1, h2, h3, h4⟩ => ⟨T, .int (i : Nat), .str ⟨#[c]⟩, h1, h2, h4, rfl, by show Option.map _ z.cps[i]? = _; rw [h3]; rfl⟩⟩
end
end Mo

namespace Mo
open PySem PySem.Spec PyProof.Rows L2
/-! ### texts as lists of codes -/
def tx (cs : List Nat) : Str := ⟨cs.toArray⟩
abbrev sg (c : Nat) : V := .str ⟨#[c]⟩
theorem tx_eta (z : Str) : tx z.cps.toList = z := rfl
theorem tx_list (cs : List Nat) : (tx cs).cps.toList = cs := rfl
theorem tx_len (cs : List Nat) : (tx cs).length = cs.length := by show cs.toArray.size = _; simp
theorem tx_size (cs : List Nat) : (tx cs).cps.size = cs.length := by show cs.toArray.size = _; simp
theorem tx_inj {a b : List Nat} (h : tx a = tx b) : a = b := by
  have q := congrArg (fun z : Str => z.cps.toList) h
  exact q
theorem tx_app (a b : List Nat) : tx a ++ tx b = tx (a ++ b) := by
  show (⟨a.toArray ++ b.toArray⟩ : Str) = ⟨(a ++ b).toArray⟩
  simp
theorem tx_app1 (a : List Nat) (c : Nat) : tx a ++ (⟨#[c]⟩ : Str) = tx (a ++ [c]) := tx_app a [c]
theorem tx_get {cs : List Nat} {i : Nat} : (tx cs).cps[i]? = cs[i]? := by
  show cs.toArray[i]? = cs[i]?
  simp
theorem fits5 {n : Nat} (h : n ≤ 100000) : n ≤ sizeLine := Nat.le_trans h (by decide)
theorem fitsLt {n : Nat} (h : n ≤ 100000) : n < sizeLine := Nat.lt_of_le_of_lt h (by decide)
/-- small letters alone -/
def Low (cs : List Nat) : Prop := ∀ c ∈ cs, 97 ≤ c ∧ c ≤ 122
theorem tx_nil : Str.ofString "" = tx [] := by decide +kernel
theorem join_signs : ∀ cs : List Nat, Txt.join (Str.ofString "") (cs.map fun c => (⟨#[c]⟩ : Str)) = tx cs := by
  have key : ∀ cs : List Nat, Str.join (tx []) (cs.map fun c => (⟨#[c]⟩ : Str)) = tx cs := by
    intro cs
    induction cs with
    | nil => rfl
    | cons c r ih =>
      cases r with
      | nil => rfl
      | cons e r =>
        show (⟨#[c]⟩ : Str) ++ tx [] ++ Str.join (tx []) ((e :: r).map fun c => (⟨#[c]⟩ : Str)) = tx (c :: e :: r)
        rw [ih]
        show tx [c] ++ tx [] ++ tx (e :: r) = _
        rw [tx_app, tx_app]
        rfl
  intro cs
  show Builtin.Str.glued _ _ = _
  rw [StrLaws.glued_eq_join, tx_nil]
  exact key cs
/-! ### the pen -/
def penD (c : Addr) (t r : Int) : List (Key × V) := [(.inr "cells", .ref c), (.inr "turn", .int t), (.inr "rest", .int r)]
theorem k_ct : ¬ ((Sum.inr "cells" : Key) = (Sum.inr "turn" : Key)) := by decide +kernel
theorem k_cr : ¬ ((Sum.inr "cells" : Key) = (Sum.inr "rest" : Key)) := by decide +kernel
theorem k_tr : ¬ ((Sum.inr "turn" : Key) = (Sum.inr "rest" : Key)) := by decide +kernel
theorem pen_cells (c : Addr) (t r : Int) : valV (penD c t r) (Sum.inr "cells") = some (.ref c) := valV_pos rfl
theorem pen_turn (c : Addr) (t r : Int) : valV (penD c t r) (Sum.inr "turn") = some (.int t) := by
  unfold penD
  rw [valV_neg k_ct, valV_pos rfl]
theorem pen_rest (c : Addr) (t r : Int) : valV (penD c t r) (Sum.inr "rest") = some (.int r) := by
  unfold penD
  rw [valV_neg k_cr, valV_neg k_tr, valV_pos rfl]
theorem put_turn (c : Addr) (t r u : Int) : putK (penD c t r) (Sum.inr "turn") (.int u) = penD c u r := by
  unfold putK penD
  have k1 := k_ct
  have k2 : ¬ ((Sum.inr "rest" : Key) = (Sum.inr "turn" : Key)) := fun e => k_tr e.symm
  simp only [List.any_cons, List.map_cons, List.map_nil, k1, k2, if_false, if_true, decide_true, decide_false, Bool.true_or, Bool.or_true, Bool.false_or]
theorem put_rest (c : Addr) (t r u : Int) : putK (penD c t r) (Sum.inr "rest") (.int u) = penD c t u := by
  unfold putK penD
  have k1 := k_cr
  have k2 := k_tr
  simp only [List.any_cons, List.map_cons, List.map_nil, k1, k2, if_false, if_true, decide_true, decide_false, Bool.true_or, Bool.or_true, Bool.false_or]
theorem pen_merge (c : Addr) (t r : Int) : mergeK [] (penD c t r) = penD c t r := by
  have k1 := k_ct
  have k2 := k_cr
  have k3 := k_tr
  simp only [mergeK, penD, putK, List.foldl_cons, List.foldl_nil, List.any_nil, List.any_cons, List.nil_append, List.cons_append, k1, k2, k3, decide_false, Bool.or_false, Bool.false_eq_true, if_false]
/-- the pen at d, its cells at c, t draws done -/
def Pen (H : Hp) (d c : Addr) (t : Nat) : Prop := ∃ (ns : List Int) (r : Int), H d = some (.dK (penD c t r)) ∧ H c = some (.lst (ns.map V.int)) ∧ ns.length ≤ 63 ∧ 0 ≤ r
theorem Pen.ne {H : Hp} {d c : Addr} {t : Nat} (h : Pen H d c t) : d ≠ c := by
  obtain ⟨ns, r, h1, h2, _⟩ := h
  exact ne_of h1 h2 (by intro z; cases z)
/-- all but d is as it was -/
def But (d : Addr) (H H' : Hp) : Prop := ∀ b o, b ≠ d → H b = some o → H' b = some o
theorem But.refl (d : Addr) (H : Hp) : But d H H := fun _ _ _ h => h
theorem But.trans {d : Addr} {H H1 H2 : Hp} (a : But d H H1) (b : But d H1 H2) : But d H H2 := fun c o n h => b c o n (a c o n h)
theorem But.same {d : Addr} {H H1 : Hp} (a : Same H H1) : But d H H1 := fun c o _ h => a c o h
theorem But.none {d : Addr} {H H1 : Hp} (a : But d H H1) {p : Addr} (h : H1 p = none) (n : p ≠ d) : H p = none := by
  cases q : H p with
  | none => rfl
  | some o =>
    rw [a p o n q] at h
    cases h
theorem Pen.new {H : Hp} {d c : Addr} {t : Nat} (h : Pen H d c t) {p : Addr} (hp : H p = none) : p ≠ d ∧ p ≠ c := by
  obtain ⟨ns, r, h1, h2, _⟩ := h
  exact ⟨(ne_of_none h1 hp).symm, (ne_of_none h2 hp).symm⟩
theorem Pen.upd {H : Hp} {d c : Addr} {t : Nat} (h : Pen H d c t) {p : Addr} {o : HO} (h1 : p ≠ d) (h2 : p ≠ c) : Pen (upd H p o) d c t := by
  obtain ⟨ns, r, e1, e2, e3⟩ := h
  exact ⟨ns, r, by rw [upd_ne h1.symm]; exact e1, by rw [upd_ne h2.symm]; exact e2, e3⟩
theorem Pen.same {H H' : Hp} {d c : Addr} {t : Nat} (h : Pen H d c t) (s : Same H H') : Pen H' d c t := by
  obtain ⟨ns, r, e1, e2, e3⟩ := h
  exact ⟨ns, r, s _ _ e1, s _ _ e2, e3⟩
theorem same_new {H : Hp} {p : Addr} {o : HO} (h : H p = none) : Same H (L2.upd H p o) := fun b x e => by
  rw [upd_ne (ne_of_none e h)]
  exact e
theorem But.set {d : Addr} {H : Hp} {o : HO} : But d H (L2.upd H d o) := fun b x n e => by
  rw [upd_ne n]
  exact e
theorem But.put {d : Addr} {H H' : Hp} {o : HO} (b : But d H H') {D : Addr} (n : H D = Option.none) : But d H (L2.upd H' D o) := fun x y nx e => by
  rw [upd_ne (ne_of_none e n)]
  exact b x y nx e
theorem Same.put {H H' : Hp} {o : HO} (b : Same H H') {D : Addr} (n : H D = Option.none) : Same H (L2.upd H' D o) := fun x y e => by
  rw [upd_ne (ne_of_none e n)]
  exact b x y e
theorem pen_set {H : Hp} {d c : Addr} {t : Nat} (h : Pen H d c t) {u : Nat} {r : Int} (hr : 0 ≤ r) : Pen (L2.upd H d (.dK (penD c u r))) d c u := by
  have n := h.ne
  obtain ⟨ns, r0, e1, e2, e3, _⟩ := h
  exact ⟨ns, r, upd_same, by rw [upd_ne n.symm]; exact e2, e3, hr⟩
def spDraw : Sp := fun vs H Q _ => ∃ (d c : Addr) (n : Int) (t : Nat), vs = [.ref d, .int n] ∧ Pen H d c t ∧ 0 < n ∧ n < 1073741824 ∧ t < 1073741824 ∧
  ∀ H' k t', But d H H' → Pen H' d c t' → t' ≤ t + 1 → 0 ≤ k → k < n → Q (.int k) H'
def spPick (K : PySem.W.Frag) : Sp := fun vs H Q _ => ∃ (d c l : Addr) (xs : List V) (t : Nat), vs = [.ref d, .ref l] ∧ Pen H d c t ∧ SqL K H l xs ∧ l ≠ d ∧ 0 < xs.length ∧ xs.length < 1073741824 ∧ t < 1073741824 ∧
  ∀ H' v t', But d H H' → Pen H' d c t' → t' ≤ t + 1 → v ∈ xs → Q v H'
end Mo

namespace Mo
open PySem PySem.Spec PyProof.Rows L2
/-! ### normal forms, over lists of codes -/
theorem idx_ne {a c : Nat} (r : List Nat) (h : a ≠ c) : (a :: r).idxOf c = r.idxOf c + 1 := by
  rw [List.idxOf_cons]
  have e : (a == c) = false := by simpa using h
  rw [e]
  rfl
theorem nodup_idx : ∀ (ns : List Nat) (i c : Nat), ns.Nodup → ns[i]? = some c → ns.idxOf c = i
  | [], i, c, _, h => by simp at h
  | a :: r, 0, c, _, h => by
    have e : a = c := by simpa using h
    subst e
    exact List.idxOf_cons_self
  | a :: r, i + 1, c, hn, h => by
    have h2 : r[i]? = some c := by simpa using h
    have hn2 := List.nodup_cons.mp hn
    have ne : a ≠ c := fun e => hn2.1 (e ▸ List.mem_of_getElem? h2)
    rw [idx_ne _ ne, nodup_idx r i c hn2.2 h2]
theorem idx_at {ns : List Nat} {c : Nat} (h : c ∈ ns) : ns[ns.idxOf c]? = some c := by
  have hl := List.idxOf_lt_length_of_mem h
  rw [List.getElem?_eq_getElem hl, List.getElem_idxOf hl]
/-- names.index(sign) -/
theorem index_one {ns : List Nat} (hn : ns.Nodup) {c : Nat} (hc : c ∈ ns) : ∃ rest, Builtin.Str.occurrences (tx ns) ⟨#[c]⟩ 0 (tx ns).length 1 = ns.idxOf c :: rest := by
  have h1 := StrLaws.found_one (tx ns) c
  rw [decide_eq_true (show c ∈ (tx ns).cps.toList from hc)] at h1
  cases e : Builtin.Str.occurrences (tx ns) ⟨#[c]⟩ 0 (tx ns).length 1 with
  | nil => rw [e] at h1; cases h1
  | cons i rest =>
    have h2 := StrLaws.occ_spec (tx ns) ⟨#[c]⟩ 0 (tx ns).length 1 i (by rw [e]; exact List.mem_cons_self)
    have h3 := (StrLaws.subAt_one (tx ns) c i).mp h2
    rw [nodup_idx ns i c hn h3]
    exact ⟨rest, rfl⟩
/-- the code of the sign's place in the order of first occurrence -/
def nfc (cs : List Nat) (c : Nat) : Nat := 97 + (met cs).idxOf c
def nf (cs : List Nat) : List Nat := cs.map (nfc cs)
theorem met_map_key (f : Nat → Nat) : ∀ (cs acc : List Nat), (∀ x y, x ∈ acc ++ cs → y ∈ acc ++ cs → f x = f y → x = y) → (cs.map f).foldl metStep (acc.map f) = (cs.foldl metStep acc).map f
  | [], acc, _ => rfl
  | c :: cs, acc, h => by
    rw [List.map_cons, List.foldl_cons, List.foldl_cons]
    have e : metStep (acc.map f) (f c) = (metStep acc c).map f := by
      unfold metStep
      by_cases q : c ∈ acc
      · rw [if_pos q, if_pos (List.mem_map.mpr ⟨c, q, rfl⟩)]
      · have q2 : ¬ f c ∈ acc.map f := fun z => by
          obtain ⟨x, hx, e⟩ := List.mem_map.mp z
          exact q (h x c (by simp [hx]) (by simp) e ▸ hx)
        rw [if_neg q, if_neg q2, List.map_append]
        rfl
    rw [e]
    refine met_map_key f cs (metStep acc c) fun x y hx hy => h x y ?_ ?_
    · rcases List.mem_append.mp hx with z | z
      · rcases mem_metStep.mp z with z | z
        · simp [z]
        · simp [z]
      · simp [z]
    · rcases List.mem_append.mp hy with z | z
      · rcases mem_metStep.mp z with z | z
        · simp [z]
        · simp [z]
      · simp [z]
theorem met_map {f : Nat → Nat} {cs : List Nat} (h : ∀ x y, x ∈ cs → y ∈ cs → f x = f y → x = y) : met (cs.map f) = (met cs).map f := by
  have q := met_map_key f cs [] (by simpa using h)
  exact q
theorem idx_map {f : Nat → Nat} : ∀ (ns : List Nat) (c : Nat), (∀ x, x ∈ ns → f x = f c → x = c) → (ns.map f).idxOf (f c) = ns.idxOf c
  | [], c, _ => rfl
  | a :: r, c, h => by
    rw [List.map_cons]
    by_cases e : a = c
    · subst e
      rw [List.idxOf_cons_self, List.idxOf_cons_self]
    · have e2 : f a ≠ f c := fun z => e (h a List.mem_cons_self z)
      rw [idx_ne _ e, idx_ne _ e2, idx_map r c fun x hx => h x (List.mem_cons_of_mem _ hx)]
theorem nf_map {f : Nat → Nat} {cs : List Nat} (h : ∀ x y, x ∈ cs → y ∈ cs → f x = f y → x = y) : nf (cs.map f) = nf cs := by
  unfold nf
  rw [List.map_map]
  refine List.map_congr_left fun c hc => ?_
  show nfc (cs.map f) (f c) = nfc cs c
  unfold nfc
  rw [met_map h, idx_map _ _ fun x hx e => h x c (mem_met.mp hx) hc e]
theorem nfc_inj {cs : List Nat} {x y : Nat} (hx : x ∈ cs) (hy : y ∈ cs) (e : nfc cs x = nfc cs y) : x = y := by
  unfold nfc at e
  have h1 := idx_at (mem_met.mpr hx)
  have h2 := idx_at (mem_met.mpr hy)
  rw [show (met cs).idxOf x = (met cs).idxOf y by omega] at h1
  rw [h1] at h2
  exact Option.some.inj h2
theorem nf_nf (cs : List Nat) : nf (nf cs) = nf cs := nf_map fun _ _ hx hy e => nfc_inj hx hy e
theorem nfc_lt {cs : List Nat} {c : Nat} (h : c ∈ cs) : (met cs).idxOf c < (met cs).length := List.idxOf_lt_length_of_mem (mem_met.mpr h)
/-- a pattern, as its codes -/
structure Pat (cs : List Nat) : Prop where
  len : cs.length ≤ 40
  low : Low cs
  few : (met cs).length ≤ 8
theorem Pat.nil : Pat [] := ⟨by decide, fun c h => by simp at h, by decide⟩
theorem Pat.map {f : Nat → Nat} {cs : List Nat} (p : Pat cs) (h : ∀ x y, x ∈ cs → y ∈ cs → f x = f y → x = y) (hl : ∀ c ∈ cs, 97 ≤ f c ∧ f c ≤ 122) : Pat (cs.map f) :=
  ⟨by rw [List.length_map]; exact p.len, fun x hx => by obtain ⟨c, hc, rfl⟩ := List.mem_map.mp hx; exact hl c hc, by rw [met_map h, List.length_map]; exact p.few⟩
theorem Pat.nf {cs : List Nat} (p : Pat cs) : Pat (nf cs) := p.map (fun _ _ hx hy e => nfc_inj hx hy e) fun c hc => by
  have h1 := nfc_lt hc
  have h2 := p.few
  unfold nfc
  omega
theorem repr_room {cs : List Nat} (h : Low cs) (hl : cs.length ≤ 1000) : (reprText (tx cs)).length ≤ sizeLine := by
  have h1 := StrLaws.reprText_len (tx cs) (fun c hc => by
    have := h c hc
    have h3 : (122 : Nat) < 16 ^ 8 := by decide
    omega)
  rw [tx_len] at h1
  exact fits5 (by omega)
theorem map_take_snoc {α β : Type} {f : α → β} {cs : List α} {i : Nat} {c : α} (h : cs[i]? = some c) : (cs.take (i + 1)).map f = (cs.take i).map f ++ [f c] := by
  rw [List.take_add_one, h, List.map_append]
  rfl
theorem met_take_snoc {cs : List Nat} {i c : Nat} (h : cs[i]? = some c) : met (cs.take (i + 1)) = metStep (met (cs.take i)) c := by
  rw [List.take_add_one, h]
  exact met_snoc _ _
end Mo

namespace Mo
open PySem PySem.Spec PyProof.Rows L2
/-! ### an error that is kept behind its except suite -/
/-- at a: an error of the class cls, its own dict d -/
def exV (a : Addr) (cls : Value) (d : Option Addr) : HO := .ext fun h => ∃ oe vs, h.get? a = some oe ∧ Zc cls d oe ∧ oe.data = .fields vs
section
variable {X : Cx} {pins : List (Addr × Obj)} {σ : L2.St} {H : Hp} {s : Shared}
/-- an object that was not there at the entry is tracked from now on -/
theorem track {a : Addr} {oe : Obj} {vs : Array Value} {o : HO} (I : Inv X pins σ H s) (ha : s.heap.get? a = some oe) (hd : oe.data = .fields vs) (na : H a = none) (nL : a ≠ X.env.locals)
    (n0 : ∀ u, X.s_0.heap.get? a = some u → a ∈ X.ex) (np : ∀ p ∈ X.pn ++ pins, p.1 ≠ a) (new : ObjOk X.prog X.w (upd H a o) s.heap a o) : Inv X pins σ (upd H a o) s := by
  have ne : ∀ b u, H b = some u → b ≠ a := fun b u e => ne_of_none e na
  refine ⟨I.ok, I.os, I.bare, ⟨I.base.keep, I.base.slot, fun b u q n hx => ?_, I.base.there, fun b xs e => ?_, fun b u w e => ?_, fun b ps e => ?_⟩, I.loc, I.cell, ?_, fun x c e => ?_, fun p hp => ?_, fun b u e => ?_, I.len⟩
  · rw [upd_ne (fun z : b = a => hx (by rw [z]; exact n0 u (by rw [← z]; exact q)))]
    exact I.base.free b u q n hx
  · have q := I.base.tups b xs e
    rw [upd_ne (ne _ _ q)]
    exact q
  · have q := I.base.frzs b u w e
    rw [upd_ne (ne _ _ q)]
    exact q
  · obtain ⟨more, q⟩ := I.base.tbls b ps e
    exact ⟨more, by rw [upd_ne (ne _ _ q)]; exact q⟩
  · rw [upd_ne nL.symm]
    exact I.free
  · obtain ⟨v, oc, hoc, hcc⟩ := I.cell x c e
    have nca : c ≠ a := fun z => by
      rw [z, ha] at hoc
      cases hoc
      rw [hd] at hcc
      cases hcc
    rw [upd_ne nca]
    exact I.freeC x c e
  · obtain ⟨h1, h2, h3⟩ := I.pin p hp
    exact ⟨h1, by rw [upd_ne (np p hp)]; exact h2, h3⟩
  · by_cases hb : b = a
    · subst hb
      rw [upd_same] at e
      cases e
      exact new
    · rw [upd_ne hb] at e
      refine (I.hok b u e).stay (fun c v _ q => q) (fun c q => ?_) fun c xs q => ?_
      · rw [upd_ne (ne _ _ q)]
        exact q
      · rw [upd_ne (ne _ _ q)]
        exact q
theorem exV_ok {P : Program} {w : World} {H : Hp} {h : Heap} {a : Addr} {cls : Value} {d : Option Addr} {oe : Obj} {vs : Array Value} (e : h.get? a = some oe) (z : Zc cls d oe) (hd : oe.data = .fields vs) : ObjOk P w H h a (exV a cls d) :=
  ⟨⟨oe, vs, e, z, hd⟩, ⟨oe, e⟩, fun h1 h2 ⟨o1, v1, e1, z1, d1⟩ k => ⟨o1, v1, k _ e1, z1, d1⟩⟩
theorem exV_at {a : Addr} {cls : Value} {d : Option Addr} (I : Inv X pins σ H s) (e : H a = some (exV a cls d)) : ∃ oe vs, s.heap.get? a = some oe ∧ Zc cls d oe ∧ oe.data = .fields vs := (I.hok a _ e).1
end
/-- what 'except x as n: kept = n' wishes of an error of the body: n in slot i, kept in slot j; behind it the error is tracked -/
def wKeep (K : PySem.W.Frag) (c : Value) (i j : Nat) (Wout : WX) (D : Ends) : WX := fun cls d σ H =>
  ∃ b, PySem.W.exmOne K cls c = some b ∧ (b = true → ∀ a, H a = none → D.nx (((σ.set i (some (.ref a))).set j (some (.ref a))).set i none) (upd H a (exV a cls d))) ∧ (b = false → Wout cls d σ H)
section
variable {X : Cx} {x n kx : Str} {c : Value} {i j : Nat} {body : List Stmt} {np np2 kp ap pos pos' : Pos} {tb : WX → TS} {Wout : WX}
theorem ps_try_keep (hs : X.stack = X.env :: X.outer) (hf : X.env.frame = some X.env.locals) (hN : X.N.Nodup) (hi : X.N[i]? = some n) (hj : X.N[j]? = some kx) (hln : X.env.kindOf n = some .local) (hlk : X.env.kindOf kx = some .local) (hc : Names X x c) (tk : Takes X Wout)
    (hb : ∀ (W : WX) (pn : List (Addr × Obj)) (xe : Value → Shared → Prop), Takes (X.tr pn xe) W → PassesOwn (model X.prog X.w) X.A X.env xe → PSs (X.tr pn xe) body (tb W))
    (hsu : ∀ (a : Addr) (oe : Obj) (pn : List (Addr × Obj)), PSs (X.suite a ((a, oe) :: pn)) [.Assign [.Name kx kp] (.Name n np2) ap] (tAsg (tVar i) (gName j))) :
    PS X (.Try body [.ExceptHandler (some (.Name x np)) (some n) [.Assign [.Name kx kp] (.Name n np2) ap] pos'] [] [] pos) (fun D σ H => tb (wKeep X.K c i j Wout D) D σ H) := by
  refine ⟨fun pins s σ H D I h => ?_⟩
  have ok := I.ok
  have hfr : X.A.frames = some (X.env :: X.outer) := ok.frames.trans (by rw [hs])
  refine wpAny_Try_except (wpAny_mono ((hb (wKeep X.K c i j Wout D) (X.pn ++ pins) (fun e s₁ => wpAny (model X.prog X.w) X.A (noteFrame e X.env) (fun _ s₂ => wpAny (model X.prog X.w) X.A (setFlight e none) (fun _ s₃ =>
    wpAny (model X.prog X.w) X.A (handleBy e X.env [.ExceptHandler (some (.Name x np)) (some n) [.Assign [.Name kx kp] (.Name n np2) ap] pos']) (SP X pins D) X.xe s₃) X.xe s₂) X.xe s₁) (fun u s' xx => ?_) PassesOwn.looking).run [] s σ H D (I.toTry _) h) (fun f s1 hsp => ?_) (fun e s1 he => he))
  · obtain ⟨a, B, sI, pins', σ', H', cls, d, rfl, J', nb, up, sky, na, os, ag, b, hb1, hyes, hno⟩ := xx
    have J : Inv X pins σ' H' sI := J'.ofTry ok
    have sky' : Sky B (X.env :: X.outer) a (Zc cls d) X.env.locals s'.heap := hs ▸ sky
    show wpAny (model X.prog X.w) X.A (noteFrame (.ref a) X.env) _ _ _
    refine Sky.land Zc.steady hfr hf sky' fun h3 fl3 up3 => ?_
    have J3 : Inv X pins σ' H' { s' with heap := h3 } := J.landed nb fl3.1 (up.trans up3) os ag
    obtain ⟨oe3, vs3, he3, hz3, hd3⟩ := fl3.there
    have nfr : a ∉ frs (X.env :: X.outer) := fun hm => by
      obtain ⟨_, o', e', hnf⟩ := fl3.2.2.1.mem hm
      rw [he3] at e'
      cases e'
      exact hnf _ hd3
    have nL : a ≠ X.env.locals := fun z => nfr (List.mem_filterMap.mpr ⟨X.env, List.mem_cons_self, hf.trans (congrArg some z.symm)⟩)
    have nF : a ∉ X.fs := fun hm => by
      obtain ⟨e, he, q⟩ := List.mem_filterMap.mp hm
      exact nfr (List.mem_filterMap.mpr ⟨e, List.mem_cons_of_mem _ he, q⟩)
    have nB : B.get? a = none := fl3.2.1
    have nI : sI.heap.get? a = none := by
      cases q : sI.heap.get? a with
      | none => rfl
      | some o =>
        have z := nb a o q (by show a ∉ frs X.stack; rw [hs]; exact nfr)
        rw [nB] at z
        cases z
    have n0 : ∀ u, X.s_0.heap.get? a = some u → a ∈ X.ex := fun u q => by
      by_cases hx : a ∈ X.ex
      · exact hx
      · obtain ⟨o', z⟩ := J.base.there a u q hx
        rw [nI] at z
        cases z
    have npp : ∀ p ∈ X.pn ++ pins, p.1 ≠ a := fun p hp z => by
      have q := (J.pin p hp).1
      rw [z, nI] at q
      cases q
    have S3 := J3.suite he3 hd3 na nL nF
    refine wpAny_handleBy_cons (codeAny_handlers_test ?_) (by intro q; cases q)
    have LT : PySem.W.Looks (model X.prog X.w) h3 (typeOf (.ref a)) cls := fun A Q E s k q => wpAny_typeOf_ref (k _ _ he3) (hz3.1 ▸ q)
    have LM := PySem.W.exm_one (M := model X.prog X.w) J3.kIn LT hb1
    have test : ∀ {Q : Value → Shared → Prop} {E : Value → Shared → Prop}, Q c { s' with heap := h3 } → wpAny (model X.prog X.w) (X.A.mark (some (.ref a))) (eval (.Name x np) X.env) Q E { s' with heap := h3 } := fun {Q E} q => by
      rcases hc with ⟨hg, hdbg, hm | ⟨hm, hv, hnn⟩⟩
      · exact ld_glob (X := X.suite a ((a, oe3) :: (X.pn ++ pins))) S3 hg hm q hdbg
      · exact ld_blt (X := X.suite a ((a, oe3) :: (X.pn ++ pins))) S3 hg hm hv q hnn hdbg
    refine test (LM.here ?_)
    cases b with
    | true =>
      refine codeAny_handlers_suite_as (HandSPX.lands_againZ fl3 fun h4 fl4 up4 => ?_)
      have J4 : Inv X pins σ' H' { s' with heap := h4 } := J.landed nb fl4.1 ((up.trans up3).trans up4) os ag
      obtain ⟨oe4, vs4, he4, hz4, hd4⟩ := fl4.there
      refine store_ok (X := X.suite a ((a, oe4) :: (X.pn ++ pins))) (v := .ref a) (J4.suite he4 hd4 na nL nF) hN hi (.inl hln) rfl (fun s5 S5 => ?_) (.inr hln)
      have lenσ : i < σ'.length := by
        rw [J.len]
        exact (List.getElem?_eq_some_iff.mp hi).1
      have want : tAsg (tVar i) (gName j) { nx := fun σ6 H6 => σ6 = (σ'.set i (some (.ref a))).set j (some (.ref a)) ∧ H6 = H', rt := fun _ _ => False, bk := fun _ _ => False, ct := fun _ _ => False } (σ'.set i (some (.ref a))) H' :=
        ⟨.ref a, by rw [List.getElem?_set_self lenσ], rfl, rfl⟩
      refine wpAny_mono ((hsu a oe4 (X.pn ++ pins)).run [] s5 _ H' _ S5 want) (fun f s6 hsp => ?_) (fun _ _ z => False.elim z)
      cases f with
      | next =>
        obtain ⟨σ6, H6, S6, rfl, rfl⟩ := hsp
        obtain ⟨he6, _⟩ := S6.pin (a, oe4) (List.mem_append_left _ List.mem_cons_self)
        have J6 : Inv X pins _ H6 s6 := S6.unsuite ok
        have J7 := track J6 he6 hd4 na nL n0 npp (exV_ok he6 hz4 hd4)
        exact gone_ok J7 hN hi hln fun s7 J8 => ⟨_, _, J8, hyes rfl a na⟩
      | brk => exact hsp.elim fun _ z => z.elim fun _ z => z.2.elim
      | cont => exact hsp.elim fun _ z => z.elim fun _ z => z.2.elim
      | ret u => exact hsp.elim fun _ z => z.elim fun _ z => z.elim fun _ z => z.2.2.elim
    | false =>
      show wpAny _ X.A (handleBy (.ref a) X.env []) _ _ _
      refine wpAny_handleBy_nil ?_
      obtain ⟨k1, k2, k3, oe, vs, T, oT, ts', he, hz, hd, h1, hr⟩ := id fl3
      unfold PySem.passOn
      refine wpAny_bind (wpAny_field he hd h1 ?_)
      rw [if_neg (show ¬ ((Value.ref T == Value.none) = true) from by simp)]
      have fin : wpAny (model X.prog X.w) X.A (setFlight (.ref a) X.env.frame) (fun _ s4 => wpAny (model X.prog X.w) X.A (throw (.ref a) : Sem Flow) (SP X pins D) X.xe s4) X.xe { s' with heap := h3 } := by
        rw [hf]
        refine HandSPX.setFlight_upZ fl3 fun h4 hh4 up4 => wpAny_throw (tk _ _ ⟨a, B, sI, pins, σ', H', cls, d, rfl, J, nb, (up.trans up3).trans up4, .inr (.inr (hs ▸ hh4)), na, os, ag, hno rfl⟩)
      first
        | exact wpAny_bind (wpAny_pure (wpAny_bind fin))
        | exact wpAny_bind fin
  · cases f with
    | next => exact hsp.elim fun σ1 z => z.elim fun H1 z => wpAny_execs_nil ⟨σ1, H1, z.1.ofTry ok, z.2⟩
    | brk => exact hsp.elim fun σ1 z => z.elim fun H1 z => ⟨σ1, H1, z.1.ofTry ok, z.2⟩
    | cont => exact hsp.elim fun σ1 z => z.elim fun H1 z => ⟨σ1, H1, z.1.ofTry ok, z.2⟩
    | ret u => exact hsp.elim fun v z => z.elim fun σ1 z => z.elim fun H1 z => ⟨v, σ1, H1, z.1.ofTry ok, z.2⟩
end
end Mo

/-! ### isinstance and the fields of an error that has its own dict -/
namespace Mo
open PySem PySem.W PySem.Spec PySem.Calls PyProof.Rows
section
variable {prog : Program} {w : World} {A : Around} {E : Value → Shared → Prop} {s : Shared} {K : Frag} {x D : Addr} {ox oy : Obj}
theorem err_class {Q : Option Value → Shared → Prop} (C : L2.ExcC K D) (X : K.In s.heap) (I : PySem.W.InstAt s.heap x ox D (some oy)) (h : Q (some (.ref D)) { s with toks := s.toks + 1 }) : wpAny (model prog w) A (getAttr? (.ref x) "__class__") Q E s := by
  have hf : findObj K D (some oy) "__class__" = some (.bind (.builtin "getset_descriptor.__get__") (.builtin "object.__class__")) := findObj_data (by obtain ⟨cd, hc, _⟩ := any_some C.hd; rw [hc]; rfl) C.ha C.hn C.ht
  obtain ⟨hp, g, d, t, os⟩ := s
  have a0 := I.type (M := model prog w)
  have a1 := looks_findIn (M := model prog w) X C.hg
  have a2 := looks_findIn (M := model prog w) X C.hk
  have a3 := looks_find (M := model prog w) X I hf
  have sub : Looks (model prog w) hp (isInstance (.ref x) (.type "BaseException")) true := a0.andThen (looks_subIn X C.hs)
  have y2 : (Value.builtin "BaseException.__getattribute__" == Value.builtin "object.__getattribute__") = false := by decide +kernel
  have y1 : (onTheHeap (Value.ref D) && Value.builtin "BaseException.__getattribute__" == Value.builtin "object.__getattribute__") = false := by rw [y2]; rfl
  have y0 : (false && onTheHeap (Value.builtin "BaseException.__getattribute__")) = false := rfl
  unfold getAttr? getAttrBy? getAttrBy
  refine wpAny_bind (wpAny_mkText (wpAny_bind (wpAny_attempt (wpAny_holding (wpAny_bind (a0.at (wpAny_bind (a1.at ?_))))))))
  show wpAny _ _ (if (onTheHeap (Value.ref D) && Value.builtin "BaseException.__getattribute__" == Value.builtin "object.__getattribute__") = true then _ else _) _ _ _
  rw [y1, if_neg Bool.false_ne_true]
  unfold getAttrByItsOwn hookBefore
  refine wpAny_bind (by
    rw [if_pos (show onTheHeap (Value.ref D) = true from rfl)]
    refine a2.at (wpAny_bind (wpAny_attempt (wpAny_holding ?_)))
    unfold callGetattribute
    rw [y0, if_neg Bool.false_ne_true]
    unfold boundAndCalled
    rw [PySem.F.excAttr_ValueError.ga.bind (.ref x)]
    refine wpAny_bind (wpAny_pure (by
      show wpAny _ _ (call (.builtin "BaseException.__getattribute__") [.ref x, .str "__class__" t]) _ _ _
      refine wpAny_call (codeAny_call_builtin PySem.F.excAttr_ValueError.ga.plain PySem.F.entry_bexc_ga (@check_slot (model prog w) _ _ ⟨hp, g, d, t + 1, os⟩ "BaseException.__getattribute__" "BaseException" "__getattribute__" (.ref x) [.str "__class__" t] [] _ (by decide +kernel) (by decide +kernel) sub (PySem.F.args_bexc_ga (.ref x) (.str "__class__" t)) ?_))
      unfold Builtin.«object.__getattribute__»
      refine wpAny_bind (wpAny_of_eq (a := ((Value.ref x : Value), [Value.str "__class__" t])) (by first | rfl | (simp only [slotArgs]; rfl)) (wpAny_bind (wpAny_pure (wpAny_bind (a0.at (wpAny_bind (a3.at ?_)))))))
      show wpAny _ _ (holding [Value.builtin "object.__class__"] (call (.builtin "getset_descriptor.__get__") [.builtin "object.__class__", .ref x, .ref D]) >>= ret) _ _ _
      refine wpAny_bind (wpAny_holding (wpAny_call (class_get (s := ⟨hp, g, d, t + 1, os⟩) (ox := ox) (od := some oy) X I C.hm (wpAny_pure ?_))))
      show wpAny _ _ (handedOut (.ref D)) _ _ _
      rw [handedOut_of (v := .ref D) rfl]
      first | exact wpAny_pure (wpAny_pure h) | exact wpAny_pure h | exact wpAny_pure (wpAny_bind (wpAny_pure (wpAny_pure h))))))
theorem err_kit (C : L2.ExcC K D) : KitX K (.ref x) (.ref D) (fun h => ∃ ox oy, PySem.W.InstAt h x ox D (some oy)) where
  ty := fun _ _ _ ⟨_, _, I⟩ => I.type
  it := fun M h X _ => by
    obtain ⟨cd, hc, _⟩ := any_some C.hd
    unfold clsIn at hc
    split at hc
    · rename_i c' d' cd' sl' ho
      intro A' Q' E' s' k q
      unfold isType loadHead
      exact wpAny_bind (wpAny_loadPart (k _ _ (X _ _ ho)) (wpAny_pure q))
    · cases hc
  ne := fun h tp dd its n sl X htp => by
    obtain ⟨cd, hc, _⟩ := any_some C.hd
    refine Bool.eq_false_iff.mpr fun q => ?_
    obtain rfl : D = tp := Value.ref.inj (beq_iff_eq.mp q)
    unfold clsIn at hc
    split at hc
    · rename_i c' d' cd' sl' ho
      cases (X _ _ ho).symm.trans htp
    · cases hc
  ca := fun X ⟨_, _, I⟩ k => err_class C X I k
end
end Mo
namespace Mo
open PySem PySem.Spec PyProof.Rows L2
section
variable {X : Cx} {pins : List (Addr × Obj)} {σ : L2.St} {H : Hp} {s : Shared}
/-- an error at a, its class at C, its dict at dd with the fields fs -/
def ErrAt (H : Hp) (a C dd : Addr) (fs : List (Str × V)) : Prop := H a = some (exV a (.ref C) (some dd)) ∧ H dd = some (.xd fs)
theorem ErrAt.inst {a C dd : Addr} {fs : List (Str × V)} (e : ErrAt H a C dd fs) (I : Inv X pins σ H s) : ∃ ox od mA, PySem.W.InstAt s.heap a ox C (some od) ∧ s.heap.Ns1 dd mA ∧ (∀ f, RelO (fs.lookup f) (mA f)) ∧ ∀ f, PySem.W.lookIn f od = some (mA f) := by
  obtain ⟨oe, vs, ha, hz, hd⟩ := exV_at I e.1
  obtain ⟨mA, hns, hr⟩ := (show ObjOk X.prog X.w H s.heap dd (.xd fs) from I.hok dd _ e.2)
  obtain ⟨od, ho, hl⟩ := lookIn_ns hns
  exact ⟨oe, od, mA, ⟨ha, hz.1, by unfold PySem.W.notCls; rw [hd] <;> rfl, by rw [hz.2]; exact ho⟩, hns, hr, hl⟩
/-- isinstance(err, c) -/
def rIsX (K : PySem.W.Frag) : List V → Hp → VK → Prop := fun xs H Q => ∃ (a C dd : Addr) (fs : List (Str × V)) (c : V) (u : Value) (b : Bool), xs = [.ref a, c] ∧ ErrAt H a C dd fs ∧ ExcC K C ∧ ClsV c u ∧ PySem.W.kitOne K (.ref C) u = some b ∧ Q (.bl b) H
theorem cr_isX : CallR X (.builtin "isinstance") (rIsX X.K) := by
  intro pins s σ H xs us Q I r h
  obtain ⟨a, C, dd, fs, c, u, b, rfl, ea, T, k, e, q⟩ := h
  obtain ⟨u1, u2, rfl, r1, r2⟩ := vals2 r
  cases r1
  obtain rfl := k.eq r2
  obtain ⟨ox, od, mA, J, _⟩ := ea.inst I
  exact PySem.W.kia_one (err_kit T) I.kIn ⟨ox, od, J⟩ e (fun z => nomatch z) fun tk => ⟨.bl b, H, I.tok tk, rfl, q⟩
/-- isinstance(err, (c1, c2, ..)) -/
def rIsXT (K : PySem.W.Frag) : List V → Hp → VK → Prop := fun xs H Q => ∃ (a C dd tp : Addr) (fs : List (Str × V)) (cs : List V) (us : List Value) (b : Bool), xs = [.ref a, .ref tp] ∧ ErrAt H a C dd fs ∧ ExcC K C ∧ H tp = some (.tup cs) ∧ Paired ClsV cs us ∧ PySem.W.kitAny K (.ref C) us = some b ∧ Q (.bl b) H
theorem cr_isXT : CallR X (.builtin "isinstance") (rIsXT X.K) := by
  intro pins s σ H xs us Q I r h
  obtain ⟨a, C, dd, tp, fs, cs, ws, b, rfl, ea, T, hT, k, e, q⟩ := h
  obtain ⟨u1, u2, rfl, r1, r2⟩ := vals2 r
  cases r1
  cases (show u2 = Value.ref tp from r2)
  obtain ⟨ox, od, mA, J, _⟩ := ea.inst I
  obtain ⟨_, its, rv, ⟨oc, od', dt, sl⟩, h1, h2, n, h3⟩ := (show ObjOk X.prog X.w H s.heap tp (.tup cs) from I.hok tp _ hT)
  obtain rfl := ClsV.all k rv
  simp only at h2 h3
  subst h2 h3
  exact PySem.W.kia_tup (err_kit T) I.kIn ⟨ox, od, J⟩ h1 e (fun z => nomatch z) fun tk => ⟨.bl b, H, I.tok tk, rfl, q⟩
/-- err.f -/
def tXv (K : PySem.W.Frag) (f : Str) (te : TE) : TE := fun σ H Q => te σ H fun x H1 => ∃ (a C dd : Addr) (fs : List (Str × V)) (v : V), x = .ref a ∧ ErrAt H1 a C dd fs ∧ XfC K C ∧ PySem.W.findIn K (.ref C) f = some none ∧ fs.lookup f = some v ∧ Q v H1
theorem pe_xv {e : Expr} {te : TE} {pos : Pos} {f : Str} (he : PE X e te) (hb : attributeBase e f X.env (eval e X.env) = eval e X.env := by rfl) : PE X (.Attribute e f pos) (tXv X.K f te) := by
  refine ⟨fun pins s σ H Q I h => ?_⟩
  refine attr_of hb (thn (he.run pins s σ H _ I h) fun u s1 hh => ?_)
  obtain ⟨x, H1, I1, rx, a, C, dd, fs, v, rfl, ea, T, hno, l, q⟩ := hh
  obtain rfl : u = Value.ref a := rx
  obtain ⟨ox, od, mA, J, hns, hr, hl⟩ := ea.inst I1
  obtain ⟨u, hu, ru⟩ := RelO.some_of (v := v) (o := mA f) (by rw [← l]; exact hr f)
  exact HandSPX.exc_get I1.kIn J T.ga T.gg T.exC (PySem.W.findObj_own T.hdC hno rfl (by rw [hl, hu])) (handed_of ru) ⟨v, H1, I1.tok _, ru, q⟩
end
end Mo

/-! ### defs called where no repr is under way: then repr of lists, tuples and dicts is known to the letter -/
namespace Mo
open PySem PySem.Spec PyProof.Rows L2
/-- as FnOk, for callers under no guard -/
structure FnG (P : Program) (w : World) (K : PySem.W.Frag) (mg : Str → Option Value) (base : Heap) (CX : CXT) (k : Nat) (f : Addr) (fd : FuncData) (ps : List Str) (sp : Sp) : Prop where
  len : ∀ vs H Q E, sp vs H Q E → vs.length = ps.length
  run : ∀ (A : Around) (outer : List Env) (s : Shared) (H : Hp) (args : Args) (us : List Value) (vs : List V) (Q : VK) (E : XK), Room k A → A.guards = some [] → Env0 P w K mg base A outer s H → BindsTo s fd args (ps.zip us) → Vals vs us → sp vs H Q E →
    codeAny (model P w) A (.call (.ref f) args) (CR CX outer P w H s Q E) s
section
variable {P : Program} {w : World} {K : PySem.W.Frag} {mg : Str → Option Value} {base : Heap} {CX : CXT} {k : Nat} {f : Addr} {fd : FuncData} {ps : List Str} {sp : Sp}
theorem FnG.of (F : FnOk P w K mg base CX k f fd ps sp) : FnG P w K mg base CX k f fd ps sp := ⟨F.len, fun A o s H a us vs Q E hr _ => F.run A o s H a us vs Q E hr⟩
/-- a def by its body, its guards told -/
theorem okG_of {x qual : Str} {st : Stmt} {N : List Str} (F : Fun K x qual st f fd) (S : FnScope N ps (defScope st)) (len : ∀ vs H Q E, sp vs H Q E → vs.length = ps.length)
    (hbody : ∀ (cdv : Value) (A : Around) (outer : List Env) (s : Shared) (H : Hp) (vs : List V) (Q : VK) (E : XK), Room k (A.deeper (envOfC qual (defScope st) s.heap.objs.size f cdv)) → A.guards = some [] → sp vs H Q E →
      ∃ t, PSs (cxOf CX P w K mg base N qual (defScope st) f cdv A outer s H E) (defBody st) t ∧ t { nx := fun _ H' => Q .non H', rt := Q } (start N vs) H) : FnG P w K mg base CX (k + 1) f fd ps sp := by
  obtain ⟨oc, od, kV, doc, pm, an, cdv, ct, osl, rfl, lk, hcd⟩ := F.ex
  refine ⟨len, fun A outer s H args us vs Q E hr hg e0 hb r hsp => ?_⟩
  have kept : ∀ b o, base.get? b = some o → s.heap.get? b = some o := fun b o e => (e0.bs b o e).1
  have KX : K.In s.heap := e0.mod.kin.keeps kept
  have kinds : ∀ y ∈ ps.zip us, (defScope st).names.lookup y.1 = some .local ∨ ((defScope st).names.lookup y.1 = some .cell ∧ ((cellsFrom (s.heap.objs.size + 1) (defScope st).names []).lookup y.1).isSome = true) := fun y hy =>
    (S.par y.1 (List.of_mem_zip (a := y.1) (b := y.2) hy).1).elim .inl fun q => .inr ⟨q, PySem.W.cellsFrom_some _ _ _ (.inl q)⟩
  refine codeAny_call_function hr.depth (KX _ _ lk) rfl S.co S.gen rfl (PySem.W.codeRec_of KX hcd) (hb _ _ _ _ (wpAny_newFunctionEnv_cells S.kind kinds fun env he s1 x => ?_))
  subst he
  refine ⟨(e0.mod.nolimit.keeps kept).keeps x.toInCall.keep, codeAny_func ?_⟩
  obtain ⟨t, ht, hq⟩ := hbody cdv A outer s H vs Q E (hr.deeper _) hg hsp
  have I : Inv (cxOf CX P w K mg base N qual (defScope st) f cdv A outer s H E) [] (start N vs) H s1 := inv_start S hr.hd e0 (len _ _ _ _ hsp) r x
  refine wpAny_mono (ht.run [] s1 (start N vs) H _ I hq) (fun fl s' hs => ?_) fun e s' hs => hs
  cases fl with
  | ret u => exact hs.elim fun v z => z.elim fun σ' z => z.elim fun H' z => ⟨v, H', z.1.os, z.1.bare, z.1.base, z.1.hok, z.2.1, z.2.2⟩
  | next => exact hs.elim fun σ' z => z.elim fun H' z => ⟨V.non, H', z.1.os, z.1.bare, z.1.base, z.1.hok, rfl, z.2⟩
  | brk => exact hs.elim fun _ z => z.elim fun _ z => z.2.elim
  | cont => exact hs.elim fun _ z => z.elim fun _ z => z.2.elim
/-- a def that raises nothing -/
theorem okG {x qual : Str} {st : Stmt} {N : List Str} (F : Fun K x qual st f fd) (S : FnScope N ps (defScope st)) (len : ∀ vs H Q E, sp vs H Q E → vs.length = ps.length)
    (hbody : ∀ (cdv : Value) (A : Around) (outer : List Env) (s : Shared) (H : Hp) (vs : List V) (Q : VK) (E : XK), Room k (A.deeper (envOfC qual (defScope st) s.heap.objs.size f cdv)) → A.guards = some [] → sp vs H Q E →
      ∃ t, PSs (cxOf CX0 P w K mg base N qual (defScope st) f cdv A outer s H E).nox (defBody st) t ∧ t { nx := fun _ H' => Q .non H', rt := Q } (start N vs) H) : FnG P w K mg base CX0 (k + 1) f fd ps sp :=
  okG_of F S len fun cdv A outer s H vs Q E hr hg hsp => (hbody cdv A outer s H vs Q E hr hg hsp).elim fun t z => ⟨t, z.1.nox, z.2⟩
end
section
variable {X : Cx} {CX : CXT} {x : Str} {f : Addr} {k : Nat} {fd : FuncData} {ps : List Str} {sp : Sp} {ds : List Value} {dvs : List V} {E : XK} {e : Expr} {es : List Expr} {t : TA} {p pos : Pos}
theorem run_G {pins : List (Addr × Obj)} {σ : L2.St} {H : Hp} {s : Shared} {Q : VK} {us : List Value} {vs : List V} (F : FnG X.prog X.w X.K X.mg X.base CX k f fd ps sp) (hr : Room k X.A) (hu : X.A.guards = some []) (hb : Binds X.K fd ps ds) (hd : Vals dvs ds) (hx : Passes CX X E)
    (I : Inv X pins σ H s) (r : Vals vs us) (h : sp (vs ++ dvs) H Q E) : wpAny (model X.prog X.w) X.A (call (.ref f) us) (EP X pins σ Q) X.xe s := by
  have rr : Vals (vs ++ dvs) (us ++ ds) := r.append hd
  refine wpAny_call (codeAny_mono (F.run X.A X.stack s H ⟨us, []⟩ (us ++ ds) (vs ++ dvs) Q E hr hu I.env0 (hb s us I.kIn (rr.length.symm.trans (F.len _ _ _ _ h))) rr h) fun r s' hq => ?_)
  cases r with
  | error e => exact hx pins σ H s e s' I hq
  | ok fl =>
    cases fl with
    | ret u => exact I.after hq
    | next => exact hq.elim
    | brk => exact hq.elim
    | cont => exact hq.elim
/-- f(e, ..), f by FnG -/
theorem pe_callG (F : FnG X.prog X.w X.K X.mg X.base CX k f fd ps sp) (hr : Room k X.A) (hu : X.A.guards = some []) (hg : Gl X x) (hm : X.mg x = some (.ref f)) (hk : PySem.W.keepIn X.K (.ref f) = true) (hb : Binds X.K fd ps ds) (hd : Vals dvs ds) (hx : Passes CX X E)
    (ha : PA X (e :: es) t) (hdb : (x == ("__debug__" : Str)) = false := by decide) (he : starEach (e :: es) X.env = (false, eval e X.env) :: starEach es X.env := by rfl) (hpl : (backTo pos (starEach es X.env)).any (·.1) = false := by rfl) :
    PE X (.Call (.Name x p) (e :: es) [] pos) (tCall sp dvs E t) :=
  ⟨fun pins s σ H Q I h => wpAny_Call_Name_kw (ld_glob I hg hm (PySem.W.callWith_K (h₀ := X.base) I.ok.mod.kin hk (thn (ha.run pos pins s σ H _ I h) fun us s1 ⟨vs, H1, I1, r, q⟩ => ⟨I1.kIn, run_G F hr hu hb hd hx I1 r q⟩) he hpl) hdb)⟩
end
/-! ### repr of data -/
/-- data with the empty dict -/
def Dat (K : PySem.W.Frag) (H : Hp) (x : V) (d : PyData) : Prop := Dp K H x d ∨ ∃ a, x = .ref a ∧ H a = some (.dK []) ∧ d = .dict []
section
variable {X : Cx} {pins : List (Addr × Obj)} {σ : L2.St} {H : Hp} {s : Shared}
theorem Dat.reads {x : V} {u : Value} {d : PyData} (I : Inv X pins σ H s) (h : Dat X.K H x d) (r : RelV x u) : ∃ as, Reads s.heap u d as ∧ (d.hasDict = true → sysModules ∉ as) := by
  rcases h with h | ⟨a, rfl, ha, rfl⟩
  · obtain ⟨as, q⟩ := Dp.reads I d x u h r
    have key : ∀ {x : V} {d : PyData}, Dp X.K H x d → d.hasDict = false := by
      intro x d h
      refine Dp.rec (motive_1 := fun _ d _ => d.hasDict = false) (motive_2 := fun _ ds _ => PyData.hasDictAll ds = false) ?_ ?_ ?_ ?_ ?_ ?_ ?_ ?_ h
      · rfl
      · intro b; rfl
      · intro i; rfl
      · intro z; rfl
      · intro a xs ds _ _ ih; exact ih
      · intro a xs ds _ _ ih; exact ih
      · rfl
      · intro v vs d ds _ _ i1 i2
        show (PyData.hasDict d || PyData.hasDictAll ds) = false
        rw [i1, i2]
        rfl
    exact ⟨as, q, fun z => by rw [key h] at z; cases z⟩
  · obtain rfl : u = Value.ref a := r
    obtain ⟨_, hs, vs, kv, o, es, ep, ho, hc, hdt, hes⟩ := (show ObjOk X.prog X.w H s.heap a (.dK []) from I.hok a _ ha)
    cases kv
    have e0 : es.toList = [] := by
      obtain ⟨_, hp, _⟩ := hes
      cases q : es.toList with
      | nil => rfl
      | cons x r => rw [q] at hp; cases hp
    refine ⟨_, .dict (as := []) (bs := []) ho hc.1 hdt (by rw [e0]; exact .nil) (by rw [e0]; exact .nil), fun _ z => ?_⟩
    rw [List.append_nil, List.mem_singleton] at z
    rw [← z] at hs
    simp at hs
/-- repr(data) -/
def rReprD (K : PySem.W.Frag) : List V → Hp → VK → Prop := fun xs H Q => ∃ (x : V) (d : PyData), xs = [x] ∧ Dat K H x d ∧ d.showable = true ∧ d.depth ≤ 40 ∧ d.shown.length ≤ sizeLine ∧ Q (.str d.shown) H
theorem cr_reprD (hg : X.A.guards = some []) (hu : X.A.units + 64 < cLine) : CallR X (.builtin "repr") (rReprD X.K) := by
  intro pins s σ H xs us Q I r h
  obtain ⟨x, d, rfl, hd, hs, hdp, hz, q⟩ := h
  obtain ⟨u, rfl, ru⟩ := vals1 r
  obtain ⟨as, rd, hsm⟩ := hd.reads I ru
  cases rd with
  | none => exact PySem.P.repr_of_none ⟨.str _, H, I.tok _, ⟨_, rfl⟩, q⟩
  | bool b => exact PySem.P.repr_of_bool ⟨.str _, H, I.tok _, ⟨_, rfl⟩, q⟩
  | int i t => exact PySem.P.repr_of_int (of_decide_eq_true hs) ⟨.str _, H, I.tok _, ⟨_, rfl⟩, q⟩
  | str z t => exact PySem.P.repr_of_str ⟨.str _, H, I.tok _, ⟨_, rfl⟩, q⟩ hz
  | list a1 a2 a3 a4 => exact repr_of_reads' (.list a1 a2 a3 a4) hs hsm hg (by omega) (fun _ _ e => e) (fun h' u' tk hk => ⟨.str _, H, I.kept (t' := tk) hk, ⟨_, rfl⟩, q⟩) hz
  | tuple a1 a2 a3 a4 => exact repr_of_reads' (.tuple a1 a2 a3 a4) hs hsm hg (by omega) (fun _ _ e => e) (fun h' u' tk hk => ⟨.str _, H, I.kept (t' := tk) hk, ⟨_, rfl⟩, q⟩) hz
  | dict a1 a2 a3 a4 a5 => exact repr_of_reads' (.dict a1 a2 a3 a4 a5) hs hsm hg (by omega) (fun _ _ e => e) (fun h' u' tk hk => ⟨.str _, H, I.kept (t' := tk) hk, ⟨_, rfl⟩, q⟩) hz
end
end Mo
namespace Mo
open PySem PySem.Spec PyProof.Rows L2
/-- an own error class over ValueError with one field f, its __init__ at fI -/
structure ErrC (K : PySem.W.Frag) (C fI : Addr) (f : Str) : Prop where
  oex : OexC K C
  xf : XfC K C
  exc : ExcC K C
  no : PySem.W.findIn K (.ref C) f = some none
  te : PySem.W.exmOne K (.ref C) (.ref C) = some true
  iC : PySem.W.findIn K (.ref C) "__init__" = some (some (.ref fI))
  tI : PySem.W.typeIn K (.ref fI) = some (.type "function")
/-- its __init__: self.f = y -/
def spInit (C : Addr) (f : Str) : Sp := fun vs H Q _ => ∃ (a : Addr) (y : V), vs = [.ref a, y] ∧ H a = some (exo a C none) ∧ ∀ dx, H dx = none → dx ≠ a → Q .non (upd (upd H dx (exd dx [(f, y)])) a (exo a C (some dx)))
/-- raising it: what is left to be shown -/
theorem err_read {C : Addr} {f : Str} {H : Hp} {v : V} {Q : XK} (h : ∀ d H', H d = none → Same H H' → H' d = some (.xd [(f, v)]) → Q (.ref C) (some d) H') :
    [v].length ≤ 1000 ∧ ∀ a, H a = none → spInit C f (.ref a :: ([v] ++ [])) (upd H a (exo a C none)) (fun x H2 => x = .non ∧ ∃ (d : Addr) (fs : List (Str × V)), H2 a = some (exo a C (some d)) ∧ H2 d = some (exd d fs) ∧ H d = none ∧ Q (.ref C) (some d) (upd (del H2 a) d (.xd fs))) (fun _ _ _ => False) := by
  refine ⟨by show 1 ≤ 1000; decide, fun a na => ⟨a, v, rfl, upd_same, fun dx nd ne => ⟨rfl, dx, [(f, v)], upd_same, by rw [upd_ne ne, upd_same], ?_, ?_⟩⟩⟩
  · rw [upd_ne ne] at nd
    exact nd
  · have nd' : H dx = none := by rw [upd_ne ne] at nd; exact nd
    refine h dx _ nd' (fun b o e => ?_) upd_same
    have nb : b ≠ dx := ne_of_none e nd'
    have nba : b ≠ a := ne_of_none e na
    rw [upd_ne nb, del_ne nba, upd_ne nba, upd_ne nb, upd_ne nba]
    exact e
theorem kit1_type {K : PySem.W.Frag} {C : Addr} {T : String} {b : Bool} (h : PySem.W.subIn K (.ref C) (.type T) = some b) (hm : PySem.W.kitMeta T = true) : PySem.W.kitOne K (.ref C) (.type T) = some b := by
  show (if (Value.ref C == Value.type T) = true then some true else (if PySem.W.kitMeta T = true then PySem.W.subIn K (.ref C) (.type T) else none)) = some b
  rw [if_neg (by intro z; cases beq_iff_eq.mp z), if_pos hm]
  exact h
theorem kit1_ref {K : PySem.W.Frag} {C D : Addr} (h : PySem.W.subIn K (.ref C) (.ref D) = some false) (hs : PySem.W.subIn K (.ref C) (.ref C) = some true) (hc : PySem.W.isClsIn K D = true) (ht : PySem.W.typeIn K (.ref D) = some (.type "type")) : PySem.W.kitOne K (.ref C) (.ref D) = some false := by
  have hc2 : (PySem.W.clsIn K D).isSome = true := hc
  show (if (Value.ref C == Value.ref D) = true then some true else (if ((PySem.W.clsIn K D).isSome && PySem.W.typeIn K (.ref D) == some (.type "type")) = true then PySem.W.subIn K (.ref C) (.ref D) else none)) = some false
  rw [if_neg (by intro z; rw [← beq_iff_eq.mp z, hs] at h; cases h), if_pos (by rw [hc2, ht]; rfl)]
  exact h
end Mo

/-! ### the end of a law whose promise is an FnG -/
namespace Mo
open PySem PySem.Spec PyProof.Rows L2
theorem callG {P : Program} {w : World} {K : PySem.W.Frag} {mg mb : Str → Option Value} {CX : CXT} {k : Nat} {fa a : Addr} {fd : FuncData} {x : Str} {sp : Sp} {s₁ : Shared} {vs : List Value} {ns : List Int}
    (KX : K.In s₁.heap) (hns : s₁.heap.Ns mainGlobals mg) (hb : s₁.heap.Ns builtinsNs mb) (hbb : ∀ x : Str, x ≠ "__name__" → mb x = bootBuiltins x) (hlim : s₁.heap.NoLimit) (hg : s₁.gens = #[])
    (ha : s₁.heap.get? a = some { cls := .type "list", data := .seq vs.toArray }) (hi : IntsAre vs ns) (hl : ns.length ≤ sizeLine) (hr : Room k callerA)
    (F : ∀ base : Heap, K.In base → base.Ns mainGlobals mg → (∀ b m, s₁.heap.Ns b m → base.Ns b m) → FnG P w K mg base CX k fa fd [x] sp) (hbind : ∀ (s : Shared) (u : Value), BindsTo s fd ⟨[u], []⟩ [(x, u)])
    (hsp : ∀ H : Hp, Only H → SqL K H a (ns.map V.int) → sp [.ref a] H (fun v _ => v = .bl true) fun _ _ _ => False)
    (hCX : ∀ H e s', CX [] H s₁ (fun _ _ _ => False) e s' → False) :
    codeAny (model P w) callerA (.call (.ref fa) ⟨[.ref a], []⟩) (fun r s' => r = .ok (.ret (.bool true)) ∧ OldK s₁.heap s'.heap ∧ s'.os = s₁.os ∧ AllBare s'.gens) s₁ := by
  have rv := vals_ints hi
  have lenV := hi.length
  have core : ∀ H : Hp, Only H → SqL K H a (ns.map V.int) → HOk P w H s₁.heap → (∀ b, H b ≠ none → b = a) → (H a ≠ none → K.lookup a = none) →
      codeAny (model P w) callerA (.call (.ref fa) ⟨[.ref a], []⟩) (fun r s' => r = .ok (.ret (.bool true)) ∧ OldK s₁.heap s'.heap ∧ s'.os = s₁.os ∧ AllBare s'.gens) s₁ := by
    intro H hO hS hok hA hK
    have atA : ∀ {b : Addr} {u : HO}, H b = some u → b = a := fun {b u} q => hA b (by rw [q]; exact Option.some_ne_none _)
    have grnd : ∀ {b : Addr} {o : Obj}, s₁.heap.get? b = some o → H b = none → (hidT s₁.heap H).get? b = some o := fun e n => hidT_get e n
    have noA : ∀ {b : Addr} {o : Obj} {es : Array DictEntry} {ep : Nat}, s₁.heap.get? b = some o → o.data = .dict es ep → H b = none := fun {b o es ep} e d => by
      cases q : H b with
      | none => rfl
      | some u =>
        rw [atA q, ha] at e
        cases e
        cases (show Data.seq vs.toArray _ = Data.dict es ep from d)
    have nsK : ∀ {b : Addr} {m : Str → Option Value}, s₁.heap.Ns b m → (hidT s₁.heap H).Ns b m := fun {b m} ⟨o, es, ep, e, d, r⟩ => ⟨o, es, ep, grnd e (noA e d), d, r⟩
    have hKb : K.In (hidT s₁.heap H) := fun b o e => grnd (KX b o e) (by
      cases q : H b with
      | none => rfl
      | some u =>
        obtain rfl := atA q
        rw [hK (by rw [q]; exact Option.some_ne_none _)] at e
        cases e)
    have hM : Mod K mg (hidT s₁.heap H) := ⟨hKb, nsK hns, ⟨mb, nsK hb, hbb⟩, hlim.elim fun mc z => ⟨mc, nsK z.1, z.2⟩⟩
    have e0 : Env0 P w K mg (hidT s₁.heap H) callerA [] s₁ H := ⟨rfl, hM, fun b o e => of_hidT e, Nat.le_of_eq (hidT_size _ _), trivial, fun b hb => absurd (show b ∈ ([] : List Addr) from hb) (by simp), hok, .of_eq hg⟩
    refine codeAny_mono ((F _ hKb (nsK hns) fun b m z => nsK z).run callerA [] s₁ H ⟨[.ref a], []⟩ [.ref a] [.ref a] _ _ hr rfl e0 (hbind s₁ (.ref a)) (.cons rfl .nil) (hsp H hO hS)) fun r s' h => ?_
    cases r with
    | error e => exact (hCX H e s' h).elim
    | ok fl =>
      cases fl with
      | next => exact h.elim
      | brk => exact h.elim
      | cont => exact h.elim
      | ret u =>
        obtain ⟨v, H', os, bare, un, hok', r', q⟩ := h
        obtain rfl : v = .bl true := q
        obtain rfl : u = Value.bool true := r'
        refine ⟨rfl, OldK.of_keep fun b o e => ?_, os, bare⟩
        cases q : H b with
        | none => exact un.keep b o e q (by intro z; exact absurd (show b ∈ ([] : List Addr) from z) (by simp)) (by simp)
        | some u =>
          rcases hO b with z | ⟨ob, xs, z⟩
          · rw [q] at z
            cases z
          · have z2 := un.frzs b ob _ z
            have e1 := (hok b _ z).1
            rw [e] at e1
            cases e1
            exact (hok' b _ z2).1
  cases hk : K.lookup a with
  | some o =>
    have e := KX a o hk
    rw [ha] at e
    cases e
    exact core (fun _ => none) (fun _ => .inl rfl) (.inr ⟨_, vs.toArray, _, hk, rfl, rfl, rfl, by rw [List.size_toArray, lenV]; exact hl, by simpa using rv⟩) (fun b u z => nomatch z) (fun b z => absurd rfl z) fun z => absurd rfl z
  | none =>
    have at2 : ∀ {b : Addr} {u : HO}, (if b = a then some (HO.frz { cls := .type "list", data := .seq vs.toArray } (.lst (ns.map V.int))) else none) = some u → b = a ∧ u = .frz { cls := .type "list", data := .seq vs.toArray } (.lst (ns.map V.int)) := fun {b u} z => by
      by_cases hb : b = a
      · rw [if_pos hb] at z
        exact ⟨hb, (Option.some.inj z).symm⟩
      · rw [if_neg hb] at z
        cases z
    refine core (fun b => if b = a then some (.frz { cls := .type "list", data := .seq vs.toArray } (.lst (ns.map V.int))) else none) (fun b => ?_) (.inl (.inr ⟨{ cls := .type "list", data := .seq vs.toArray }, if_pos rfl⟩)) (fun b u z => ?_) (fun b z => ?_) fun _ => hk
    · by_cases hb : b = a
      · exact .inr ⟨_, _, if_pos hb⟩
      · exact .inl (if_neg hb)
    · obtain ⟨rfl, rfl⟩ := at2 z
      exact ⟨ha, by rw [List.length_map]; exact hl, vs, _, rv, ha⟩
    · by_cases hb : b = a
      · exact hb
      · exact absurd (if_neg hb) z
theorem walkG {l : PySem.W.OpenLaw} {n k : Nat} {q : Program} {loose : List Str} {XP : (Str → Option Value) → Heap → Prop} {YP : World → Heap → Prop} {d : DefRec} {K : Params → PySem.W.Frag} {CX : World → CXT} {sp : World → Sp} {x : Str}
    (hn : l.most = some n) (hn2 : n ≤ sizeLine) (hdf : d.params.defaults = []) (hr : Room k callerA) (hY : ∀ (w : World) (h : Heap), YP w h → (K w.params).In h)
    (F : ∀ (w : World) (mg : Str → Option Value) (fa : Addr) (h : Heap), (K w.params).In h → h.Ns mainGlobals mg → mg d.name = some (.ref fa) →
      ∃ fd : FuncData, (∀ (s : Shared) (u : Value), BindsTo s fd ⟨[u], []⟩ [(x, u)]) ∧ ∀ base : Heap, (K w.params).In base → base.Ns mainGlobals mg → FnG l.prog w (K w.params) mg base (CX w) k fa fd [x] (sp w))
    (hsp : ∀ (w : World) (H : Hp) (a : Addr) (ns : List Int), ns.length ≤ n → Only H → SqL (K w.params) H a (ns.map V.int) → sp w [.ref a] H (fun v _ => v = .bl true) fun _ _ _ => False)
    (hCX : ∀ (w : World) (H : Hp) (s : Shared) (e : Value) (s' : Shared), CX w [] H s (fun _ _ _ => False) e s' → False) :
    PySem.W.WalkO q loose XP YP l.row.toRowW d [] (fun f vs => PySem.call f vs) := by
  refine Att.attach_call hn hdf fun w s₀ s₁ mg mb fa o pm cd doc a vs ns G Y ho hd hcd hmg hobj hints hlen hg => ?_
  obtain ⟨fd, hb, hF⟩ := F w mg fa _ (hY w _ Y) G.T.g hmg
  exact callG (hY w _ Y) G.T.g G.T.b G.T.builtins G.T.nolimit hg hobj hints (Nat.le_trans hlen hn2) hr (fun base a b _ => hF base a b) hb (fun H hO hS => hsp w H a ns hlen hO hS) fun H e s' => hCX w H s₁ e s'
/-- where repr meets dicts: sys.modules is there, and is none of ours -/
theorem walkM {l : PySem.W.OpenLaw} {n k : Nat} {q : Program} {loose : List Str} {XP : (Str → Option Value) → Heap → Prop} {YP : World → Heap → Prop} {d : DefRec} {K : Params → PySem.W.Frag} {CX : World → CXT} {sp : World → Sp} {x : Str}
    (hn : l.most = some n) (hn2 : n ≤ sizeLine) (hdf : d.params.defaults = []) (hr : Room k callerA) (hY : ∀ (w : World) (h : Heap), YP w h → (K w.params).In h) (hi : importsNone q = true)
    (F : ∀ (w : World) (mg : Str → Option Value) (fa : Addr) (h : Heap), (K w.params).In h → h.Ns mainGlobals mg → mg d.name = some (.ref fa) →
      ∃ fd : FuncData, (∀ (s : Shared) (u : Value), BindsTo s fd ⟨[u], []⟩ [(x, u)]) ∧ ∀ base : Heap, (K w.params).In base → base.Ns mainGlobals mg → (∃ mm, base.Ns sysModules mm) → FnG l.prog w (K w.params) mg base (CX w) k fa fd [x] (sp w))
    (hsp : ∀ (w : World) (H : Hp) (a : Addr) (ns : List Int), ns.length ≤ n → Only H → SqL (K w.params) H a (ns.map V.int) → sp w [.ref a] H (fun v _ => v = .bl true) fun _ _ _ => False)
    (hCX : ∀ (w : World) (H : Hp) (s : Shared) (e : Value) (s' : Shared), CX w [] H s (fun _ _ _ => False) e s' → False) :
    PySem.W.WalkO q loose XP YP l.row.toRowW d [] (fun f vs => PySem.call f vs) := by
  refine Att.attach_call hn hdf fun w s₀ s₁ mg mb fa o pm cd doc a vs ns G Y ho hd hcd hmg hobj hints hlen hg => ?_
  obtain ⟨fd, hb, hF⟩ := F w mg fa _ (hY w _ Y) G.T.g hmg
  obtain ⟨mm, hm, _⟩ := (G.T.seer hi).mods
  exact callG (hY w _ Y) G.T.g G.T.b G.T.builtins G.T.nolimit hg hobj hints (Nat.le_trans hlen hn2) hr (fun base a b c => hF base a b ⟨mm, c _ _ hm⟩) hb (fun H hO hS => hsp w H a ns hlen hO hS) fun H e s' => hCX w H s₁ e s'
end Mo

/-! ### data of any kind: None, bools, ints, texts, lists, tuples, dicts (keys ints and texts), at any depth -/
namespace Mo
open PySem PySem.Spec PyProof.Rows L2
def keyD : Key → PyData
  | .inl i => .int i
  | .inr x => .str x
mutual
inductive Dx (N : Addr → Prop) (H : Hp) : V → PyData → Prop
  | non : Dx N H .non .none
  | bl (b : Bool) : Dx N H (.bl b) (.bool b)
  | int (i : Int) : Dx N H (.int i) (.int i)
  | str (x : Str) : Dx N H (.str x) (.str x)
  | lst {a : Addr} {xs : List V} {ds : List PyData} : H a = some (.lst xs) → ¬ N a → DxAll N H xs ds → Dx N H (.ref a) (.list ds)
  | tup {a : Addr} {xs : List V} {ds : List PyData} : H a = some (.tup xs) → ¬ N a → DxAll N H xs ds → Dx N H (.ref a) (.tuple ds)
  | dct {a : Addr} {kvs : List (Key × V)} {ds : List PyData} : H a = some (.dK kvs) → ¬ N a → DxAll N H (kvs.map (·.2)) ds → Dx N H (.ref a) (.dict ((kvs.map fun kv => keyD kv.1).zip ds))
inductive DxAll (N : Addr → Prop) (H : Hp) : List V → List PyData → Prop
  | nil : DxAll N H [] []
  | cons {v : V} {vs : List V} {d : PyData} {ds : List PyData} : Dx N H v d → DxAll N H vs ds → DxAll N H (v :: vs) (d :: ds)
end
theorem DxAll.length {N : Addr → Prop} {H : Hp} : ∀ {vs : List V} {ds : List PyData}, DxAll N H vs ds → vs.length = ds.length
  | _, _, .nil => rfl
  | _, _, .cons _ t => by rw [List.length_cons, List.length_cons, DxAll.length t]
mutual
theorem Dx.same {N : Addr → Prop} {H H' : Hp} (s : Same H H') : ∀ {v : V} {d : PyData}, Dx N H v d → Dx N H' v d
  | _, _, .non => .non
  | _, _, .bl b => .bl b
  | _, _, .int i => .int i
  | _, _, .str x => .str x
  | _, _, .lst h n t => .lst (s _ _ h) n (DxAll.same s t)
  | _, _, .tup h n t => .tup (s _ _ h) n (DxAll.same s t)
  | _, _, .dct h n t => .dct (s _ _ h) n (DxAll.same s t)
theorem DxAll.same {N : Addr → Prop} {H H' : Hp} (s : Same H H') : ∀ {v : List V} {d : List PyData}, DxAll N H v d → DxAll N H' v d
  | _, _, .nil => .nil
  | _, _, .cons h t => .cons (Dx.same s h) (DxAll.same s t)
end
mutual
/-- all but what N names, which the data does not hold -/
theorem Dx.but {N : Addr → Prop} {H H' : Hp} (s : ∀ b o, ¬ N b → H b = some o → H' b = some o) : ∀ {v : V} {d : PyData}, Dx N H v d → Dx N H' v d
  | _, _, .non => .non
  | _, _, .bl b => .bl b
  | _, _, .int i => .int i
  | _, _, .str x => .str x
  | _, _, .lst h n t => .lst (s _ _ n h) n (DxAll.but s t)
  | _, _, .tup h n t => .tup (s _ _ n h) n (DxAll.but s t)
  | _, _, .dct h n t => .dct (s _ _ n h) n (DxAll.but s t)
theorem DxAll.but {N : Addr → Prop} {H H' : Hp} (s : ∀ b o, ¬ N b → H b = some o → H' b = some o) : ∀ {v : List V} {d : List PyData}, DxAll N H v d → DxAll N H' v d
  | _, _, .nil => .nil
  | _, _, .cons h t => .cons (Dx.but s h) (DxAll.but s t)
end
mutual
/-- another N that names no more of what is there -/
theorem Dx.more {N N' : Addr → Prop} {H : Hp} (s : ∀ b, H b ≠ none → N' b → N b) : ∀ {v : V} {d : PyData}, Dx N H v d → Dx N' H v d
  | _, _, .non => .non
  | _, _, .bl b => .bl b
  | _, _, .int i => .int i
  | _, _, .str x => .str x
  | _, _, .lst h n t => .lst h (fun z => n (s _ (by rw [h]; exact Option.some_ne_none _) z)) (DxAll.more s t)
  | _, _, .tup h n t => .tup h (fun z => n (s _ (by rw [h]; exact Option.some_ne_none _) z)) (DxAll.more s t)
  | _, _, .dct h n t => .dct h (fun z => n (s _ (by rw [h]; exact Option.some_ne_none _) z)) (DxAll.more s t)
theorem DxAll.more {N N' : Addr → Prop} {H : Hp} (s : ∀ b, H b ≠ none → N' b → N b) : ∀ {v : List V} {d : List PyData}, DxAll N H v d → DxAll N' H v d
  | _, _, .nil => .nil
  | _, _, .cons h t => .cons (Dx.more s h) (DxAll.more s t)
end
theorem DxAll.append {N : Addr → Prop} {H : Hp} : ∀ {vs ws : List V} {ds es : List PyData}, DxAll N H vs ds → DxAll N H ws es → DxAll N H (vs ++ ws) (ds ++ es)
  | _, _, _, _, .nil, h => h
  | _, _, _, _, .cons a t, h => .cons a (DxAll.append t h)
theorem DxAll.get {N : Addr → Prop} {H : Hp} : ∀ {vs : List V} {ds : List PyData} {i : Nat} {v : V}, DxAll N H vs ds → vs[i]? = some v → ∃ d, ds[i]? = some d ∧ Dx N H v d
  | _, _, _, _, .nil, h => by simp at h
  | _, _, 0, _, .cons a t, h => by
    obtain rfl := Option.some.inj h
    exact ⟨_, rfl, a⟩
  | _, _, i + 1, _, .cons a t, h => by
    obtain ⟨d, e, q⟩ := DxAll.get (i := i) t h
    exact ⟨d, e, q⟩
theorem DxAll.mem {N : Addr → Prop} {H : Hp} {vs : List V} {ds : List PyData} {v : V} (h : DxAll N H vs ds) (hv : v ∈ vs) : ∃ d ∈ ds, Dx N H v d := by
  obtain ⟨i, hi⟩ := List.mem_iff_getElem?.mp hv
  obtain ⟨d, e, q⟩ := h.get hi
  exact ⟨d, List.mem_of_getElem? e, q⟩
section
variable {X : Cx} {N : Addr → Prop} {pins : List (Addr × Obj)} {σ : L2.St} {H : Hp} {s : Shared}
theorem key_reads {h : Heap} {k : Key} {u : Value} (e : keyIs k u = true) : Reads h u (keyD k) [] := by
  rcases keyIs_shape e with ⟨i, t, rfl, rfl⟩ | ⟨z, t, rfl, rfl⟩
  · exact .int i t
  · exact .str z t
theorem keys_read {P : Program} {w : World} {h : Heap} : ∀ {es : List DictEntry} {vs : List (Key × Value)}, Pairs (mixKind P w) es vs → ReadsAll h (es.map (·.key)) (vs.map fun kv => keyD kv.1) []
  | _, _, .nil => .nil
  | _, _, .cons e _ t => by
    have q := ReadsAll.cons (key_reads (h := h) e) (keys_read t)
    exact q
theorem vals_eq {P : Program} {w : World} : ∀ {es : List DictEntry} {vs : List (Key × Value)}, Pairs (mixKind P w) es vs → es.map (·.val) = vs.map (·.2)
  | _, _, .nil => rfl
  | _, _, .cons _ e t => by
    rw [List.map_cons, List.map_cons, e, vals_eq t]
theorem kv_keys : ∀ {kvs : List (Key × V)} {vs : List (Key × Value)}, KV kvs vs → kvs.map (fun kv => keyD kv.1) = vs.map (fun kv => keyD kv.1)
  | _, _, .nil => rfl
  | _, _, .cons h t => by
    rw [List.map_cons, List.map_cons, h.1, kv_keys t]
theorem kv_vals : ∀ {kvs : List (Key × V)} {vs : List (Key × Value)}, KV kvs vs → Vals (kvs.map (·.2)) (vs.map (·.2))
  | _, _, .nil => .nil
  | _, _, .cons h t => .cons h.2 (kv_vals t)
mutual
theorem Dx.reads (I : Inv X pins σ H s) (hs : H sysModules = none) : ∀ {x : V} {d : PyData}, Dx N H x d → ∀ {u : Value}, RelV x u → ∃ as, Reads s.heap u d as ∧ sysModules ∉ as
  | _, _, .non, u, r => by
    obtain rfl : u = Value.none := r
    exact ⟨[], .none, by simp⟩
  | _, _, .bl b, u, r => by
    obtain rfl : u = Value.bool b := r
    exact ⟨[], .bool b, by simp⟩
  | _, _, .int i, u, r => by
    obtain ⟨t, rfl⟩ : ∃ t, u = Value.int i t := r
    exact ⟨[], .int i t, by simp⟩
  | _, _, .str x, u, r => by
    obtain ⟨t, rfl⟩ : ∃ t, u = Value.str x t := r
    exact ⟨[], .str x t, by simp⟩
  | _, _, .lst (a := a) (xs := xs) ha hN t, u, r => by
    obtain rfl : u = Value.ref a := r
    obtain ⟨_, its, n, rv, e⟩ := (show ObjOk X.prog X.w H s.heap a (.lst xs) from I.hok a _ ha)
    obtain ⟨as, q, ns⟩ := DxAll.reads I hs t rv
    refine ⟨a :: as, .list e rfl rfl (by simpa using q), fun z => ?_⟩
    rcases List.mem_cons.mp z with z | z
    · rw [z, ha] at hs
      cases hs
    · exact ns z
  | _, _, .tup (a := a) (xs := xs) ha hN t, u, r => by
    obtain rfl : u = Value.ref a := r
    obtain ⟨_, its, rv, o, e, hc, n, hd⟩ := (show ObjOk X.prog X.w H s.heap a (.tup xs) from I.hok a _ ha)
    obtain ⟨as, q, ns⟩ := DxAll.reads I hs t rv
    exact ⟨as, .tuple e hc hd (by simpa using q), ns⟩
  | _, _, .dct (a := a) (kvs := kvs) (ds := ds) ha hN t, u, r => by
    obtain rfl : u = Value.ref a := r
    obtain ⟨_, _, vs, kv, o, es, ep, ho, hc, hdt, _, hp, _⟩ := (show ObjOk X.prog X.w H s.heap a (.dK kvs) from I.hok a _ ha)
    obtain ⟨as, q, ns⟩ := DxAll.reads I hs t (kv_vals kv)
    have hl := DxAll.length t
    have hl2 : (kvs.map fun kv => keyD kv.1).length = ds.length := by rw [List.length_map, ← hl, List.length_map]
    have k1 := keys_read (h := s.heap) hp
    rw [← kv_keys kv] at k1
    refine ⟨_, .dict (as := []) (bs := as) ho hc.1 hdt ?_ ?_, fun z => ?_⟩
    · rw [List.map_fst_zip (Nat.le_of_eq hl2)]
      exact k1
    · rw [List.map_snd_zip (Nat.le_of_eq hl2.symm), vals_eq hp]
      exact q
    · rcases List.mem_append.mp z with z | z
      · rw [List.mem_singleton.mp z, ha] at hs
        cases hs
      · exact ns z
theorem DxAll.reads (I : Inv X pins σ H s) (hs : H sysModules = none) : ∀ {xs : List V} {ds : List PyData}, DxAll N H xs ds → ∀ {us : List Value}, Vals xs us → ∃ as, ReadsAll s.heap us ds as ∧ sysModules ∉ as
  | _, _, .nil, _, .nil => ⟨[], .nil, by simp⟩
  | _, _, .cons h t, _, .cons r rs => by
    obtain ⟨as, q, n⟩ := Dx.reads I hs h r
    obtain ⟨bs, q2, n2⟩ := DxAll.reads I hs t rs
    exact ⟨as ++ bs, .cons q q2, fun z => (List.mem_append.mp z).elim n n2⟩
end
/-- repr(data) -/
def rReprX : List V → Hp → VK → Prop := fun xs H Q => ∃ (N : Addr → Prop) (x : V) (d : PyData), xs = [x] ∧ Dx N H x d ∧ d.showable = true ∧ d.depth ≤ 40 ∧ d.shown.length ≤ sizeLine ∧ Q (.str d.shown) H
theorem cr_reprX (hb : ∃ mm, X.base.Ns sysModules mm) (hg : X.A.guards = some []) (hu : X.A.units + 64 < cLine) : CallR X (.builtin "repr") rReprX := by
  intro pins s σ H xs us Q I r h
  obtain ⟨N, x, d, rfl, hd, hs, hdp, hz, q⟩ := h
  obtain ⟨u, rfl, ru⟩ := vals1 r
  have h1 : H sysModules = none := by
    obtain ⟨mm, o, es, ep, e, _⟩ := hb
    exact (I.bs _ _ e).2
  obtain ⟨as, rd, hsm⟩ := Dx.reads I h1 hd ru
  cases rd with
  | none => exact PySem.P.repr_of_none ⟨.str _, H, I.tok _, ⟨_, rfl⟩, q⟩
  | bool b => exact PySem.P.repr_of_bool ⟨.str _, H, I.tok _, ⟨_, rfl⟩, q⟩
  | int i t => exact PySem.P.repr_of_int (of_decide_eq_true hs) ⟨.str _, H, I.tok _, ⟨_, rfl⟩, q⟩
  | str z t => exact PySem.P.repr_of_str ⟨.str _, H, I.tok _, ⟨_, rfl⟩, q⟩ hz
  | list a1 a2 a3 a4 => exact repr_of_reads' (.list a1 a2 a3 a4) hs (fun _ => hsm) hg (by omega) (fun _ _ e => e) (fun h' u' tk hk => ⟨.str _, H, I.kept (t' := tk) hk, ⟨_, rfl⟩, q⟩) hz
  | tuple a1 a2 a3 a4 => exact repr_of_reads' (.tuple a1 a2 a3 a4) hs (fun _ => hsm) hg (by omega) (fun _ _ e => e) (fun h' u' tk hk => ⟨.str _, H, I.kept (t' := tk) hk, ⟨_, rfl⟩, q⟩) hz
  | dict a1 a2 a3 a4 a5 => exact repr_of_reads' (.dict a1 a2 a3 a4 a5) hs (fun _ => hsm) hg (by omega) (fun _ _ e => e) (fun h' u' tk hk => ⟨.str _, H, I.kept (t' := tk) hk, ⟨_, rfl⟩, q⟩) hz
end
end Mo

/-! ### rules for data of any kind -/
namespace Mo
open PySem PySem.Spec PyProof.Rows L2
section
variable {X : Cx}
/-- a list of anything == [] -/
def rEqNil (K : PySem.W.Frag) : R2 := fun x y H Q => ∃ a b xs, x = .ref a ∧ y = .ref b ∧ SqL K H a xs ∧ SqL K H b [] ∧ Q (.bl xs.isEmpty) H
theorem op_eqNil (hu : X.A.units + 64 < cLine) : OpR X (compareOp .Eq) (rEqNil X.K) := by
  intro pins s σ H x y v u Q I rx ry h
  obtain ⟨a, b, xs, rfl, rfl, ha, hb, q⟩ := h
  cases rx
  cases ry
  obtain ⟨is, r1, p1, _⟩ := I.list ha
  obtain ⟨js, r2, p2, _⟩ := I.list hb
  cases r2
  cases r1 with
  | nil => exact SeqAt.eq_listAt (e := fun _ => true) p1.isList p2.isList rfl (by omega) (fun j h1 => absurd h1 (by simp)) ⟨.bl true, H, I, rfl, q⟩
  | cons r rs => exact SeqAt.eq_list_lengthsAt p1.isList p2.isList (by simp) (by omega) ⟨.bl false, H, I, rfl, q⟩
/-- a tuple of anything != () -/
def rNeNilT (K : PySem.W.Frag) : R2 := fun x y H Q => ∃ a b xs, x = .ref a ∧ y = .ref b ∧ SqT K H a xs ∧ SqT K H b [] ∧ Q (.bl (!xs.isEmpty)) H
theorem op_neNilT (hu : X.A.units + 64 < cLine) : OpR X (compareOp .NotEq) (rNeNilT X.K) := by
  intro pins s σ H x y v u Q I rx ry h
  obtain ⟨a, b, xs, rfl, rfl, ha, hb, q⟩ := h
  cases rx
  cases ry
  obtain ⟨is, r1, p1, _⟩ := I.tuple ha
  obtain ⟨js, r2, p2, _⟩ := I.tuple hb
  cases r2
  have k1 : s.heap.IsTuple a is.toArray := p1
  have k2 : s.heap.IsTuple b (List.nil (α := Value)).toArray := p2
  refine SeqAt.RcNeAt.tuples (e := fun _ => true) k1 k2 (by omega) (fun j _ h2 => absurd h2 (by simp)) X.prog X.w X.xe _ ?_
  cases r1 with
  | nil => exact ⟨.bl false, H, I, rfl, q⟩
  | cons r rs => exact ⟨.bl true, H, I, by simp only [List.size_toArray, List.length_cons, List.length_nil, Nat.min_zero, List.range_zero, List.all_nil, Bool.true_and]; rfl, q⟩
theorem vals_signs : ∀ (cs : List Nat) (l : List Value), l.length = cs.length → (∀ (j : Nat) (v : Value), l[j]? = some v → ∃ c u, cs[j]? = some c ∧ v = .str ⟨#[c]⟩ u) → Vals (cs.map sg) l
  | [], [], _, _ => .nil
  | [], _ :: _, h, _ => by simp at h
  | _ :: _, [], h, _ => by simp at h
  | c :: cs, v :: l, h, q => by
    obtain ⟨c', u, e1, rfl⟩ := q 0 v rfl
    obtain rfl := Option.some.inj e1
    exact .cons ⟨u, rfl⟩ (vals_signs cs l (by simpa using h) fun j v e => q (j + 1) v e)
/-- tuple(a text) -/
theorem cr_tupS (hc : X.calm = true) : CallR X (.type "tuple") (fun xs H Q => ∃ cs : List Nat, xs = [.str (tx cs)] ∧ cs.length ≤ 100000 ∧ ∀ p, H p = none → Q (.ref p) (upd H p (.tup (cs.map sg)))) := by
  intro pins s σ H xs us Q I r h
  obtain ⟨cs, rfl, hz, q⟩ := h
  obtain ⟨u, rfl, t, rfl⟩ := vals1 r
  refine call_tuple_str (I.ok.hd hc) (tx cs) t (fun h' tk acc hk hacc => ?_) (by rw [tx_size]; exact fits5 hz)
  have I1 : Inv X pins σ H { s with heap := h', toks := tk } := I.kept (t' := tk) hk
  have I2 := I1.laid (t' := tk) (o := .tup (cs.map sg)) (h' := h'.push { cls := .type "tuple", data := .seq acc }) (fun b o e => Heap.get?_push_of_some _ e) (Nat.le_refl _) ⟨by rw [List.length_map]; exact fits5 hz, acc.toList, vals_signs cs acc.toList (by have := hacc.1; rw [tx_size] at this; simpa using this) (fun j v e => by
    obtain ⟨c, u, e1, e2⟩ := hacc.2 j v (by simpa using e)
    exact ⟨c, u, tx_get.symm.trans e1, e2⟩), IsTup.new _ _⟩
  exact ⟨.ref h'.objs.size, _, I2, rfl, q _ (I1.hok.fresh (Nat.le_refl _))⟩
/-- z * n, n a small number -/
def mulS (cs : List Nat) (n : Nat) : List Nat := (List.replicate n cs).flatten
theorem foldl_cat (a : List Nat) : ∀ (n : Nat) (acc : List Nat), ((List.replicate n a.toArray).foldl (fun x y => x ++ y) acc.toArray) = (acc ++ (List.replicate n a).flatten).toArray
  | 0, acc => by simp
  | n + 1, acc => by
    rw [List.replicate_succ, List.foldl_cons, List.replicate_succ, List.flatten_cons, ← List.append_assoc, ← foldl_cat a n (acc ++ a)]
    simp
theorem mulS_eq (cs : List Nat) (n : Nat) : Txt.mul (tx cs) (n : Int) = tx (mulS cs n) := by
  unfold Txt.mul mulS
  by_cases h0 : n = 0
  · subst h0
    rfl
  · rw [if_neg (by omega)]
    by_cases h1 : ((n : Int) == 1 || (tx cs).length == 0) = true
    · rw [if_pos h1]
      rcases Bool.or_eq_true_iff.mp h1 with h | h
      · have : n = 1 := by have := beq_iff_eq.mp h; omega
        subst this
        simp
      · have : cs = [] := by
          have := beq_iff_eq.mp h
          rw [tx_len] at this
          exact List.eq_nil_of_length_eq_zero this
        subst this
        simp
    · rw [if_neg h1, show (n : Int).toNat = n from rfl]
      have q := foldl_cat cs n []
      rw [List.nil_append] at q
      exact congrArg Str.mk q
theorem op_mulS : OpR X (binaryOp .Mult) (fun x y H Q => ∃ (cs : List Nat) (n : Nat), x = .str (tx cs) ∧ y = .int n ∧ cs.length ≤ 100000 ∧ n ≤ 100 ∧ Q (.str (tx (mulS cs n))) H) := by
  intro pins s σ H x y v u Q I rx ry h
  obtain ⟨cs, n, rfl, rfl, hz, hn, q⟩ := h
  obtain ⟨t, rfl⟩ := rx
  obtain ⟨t2, rfl⟩ := ry
  have hl : cs.length * n ≤ 100000 * 100 := Nat.mul_le_mul hz hn
  refine SB.mul ⟨?_, fun h1 h2 => ?_, fun h1 h2 => ?_⟩ fun t' k => ?_
  · rw [decide_eq_false (by omega), decide_eq_false (by omega)]
    rfl
  · rw [tx_len]
    have h3 : ((cs.length : Nat) : Int) * (n : Int) ≤ 2 ^ 63 - 1 := by
      rw [← Int.natCast_mul]
      omega
    have h4 : ((cs.length : Nat) : Int) ≤ (2 ^ 63 - 1) / (n : Int) := Int.le_ediv_of_mul_le (by omega) h3
    omega
  · rw [tx_len]
    show decide (cs.length * (n : Int).toNat > sizeLine) = false
    rw [sizeLine_eq]
    exact decide_eq_false (by show ¬ cs.length * n > _; omega)
  · rw [mulS_eq]
    exact ⟨.str _, H, I.tok _, ⟨_, rfl⟩, q⟩
/-- t * n, t of few items -/
def rRepN (K : PySem.W.Frag) : R2 := fun x y H Q => ∃ (l : Addr) (n : Nat) (xs : List V), x = .ref l ∧ y = .int n ∧ SqT K H l xs ∧ xs ≠ [] ∧ 2 ≤ n ∧ n ≤ 100000 ∧ xs.length ≤ 10 ∧ ∀ p, H p = none → Q (.ref p) (upd H p (.tup (List.replicate n xs).flatten))
theorem op_repN : OpR X (binaryOp .Mult) (rRepN X.K) := by
  intro pins s σ H x y v u Q I rx ry h
  obtain ⟨l, n, xs, rfl, rfl, hT, hne, h1, h2, hz, q⟩ := h
  cases rx
  obtain ⟨t, rfl⟩ := ry
  obtain ⟨its, r, ⟨ob, ho, hc, m, hd⟩, hs⟩ := I.tuple hT
  obtain ⟨cls, dd, data, sl⟩ := ob
  obtain rfl : cls = .type "tuple" := hc
  obtain rfl : data = .seq its.toArray m := hd
  have hle := r.length
  have hi : its.toArray.isEmpty = false := by
    cases r with
    | nil => exact absurd rfl hne
    | cons _ _ => rfl
  have hm : xs.length * n ≤ 10 * 100000 := Nat.mul_le_mul hz h2
  have hm2 : ((its.toArray.size : Nat) : Int) * (n : Int) = ((xs.length * n : Nat) : Int) := by
    rw [List.size_toArray, ← hle]
    exact (Int.natCast_mul _ _).symm
  have fl : (List.replicate n xs).flatten.length ≤ sizeLine := by
    rw [lm_len_rep_flat, Nat.mul_comm, sizeLine_eq]
    omega
  have fl2 : (List.foldl (fun x1 x2 => x1 ++ x2) #[] (List.replicate (n : Int).toNat its.toArray)).size ≤ sizeLine := by
    rw [size_rep, List.size_toArray, lm_len_rep_flat, ← hle, Nat.mul_comm, sizeLine_eq]
    show xs.length * n ≤ _
    omega
  refine wpAny_binaryOp_repeat_ref (T := "tuple") (U := "int") (by decide) ⟨_, ho, rfl⟩ (fun s' => typeIs_int s' n t) noFill_tuple_mul F.fills_int_mul F.slot_int_rmul repeat_tuple F.slot_int_index.lookup ?_
  refine call_meets F.slot_int_rmul (typeIs_int s n t) F.entry_int_rmul (F.args_int_rmul_2 _ _) (int_rmul_tuple n t l its.toArray m dd sl) ⟨ho, rfl, ⟨_, ho, rfl⟩, ?_⟩
  refine call_meets F.slot_tuple_mul ⟨_, ho, rfl⟩ F.entry_tuple_mul (F.args_tuple_mul_2 _ _) (tuple_mulW l its.toArray m dd sl n t ?_ ?_ ?_ ?_ ?_ fl2) ⟨ho, ?_⟩
  · rw [decide_eq_false (by omega), decide_eq_false (by omega)]
    rfl
  · rw [hi, Bool.false_or]
    exact beq_eq_false_iff_ne.mpr (by omega)
  · rw [hi, Bool.or_false]
    exact decide_eq_false (by omega)
  · rw [hm2]
    omega
  · unfold Builtin.Tuple.tupleTooMany
    rw [hm2, sizeLine_eq]
    exact decide_eq_false (by omega)
  · rw [size_rep]
    exact ⟨.ref s.heap.objs.size, _, I.laid (t' := s.toks) (o := .tup (List.replicate n xs).flatten) (fun b ob q => Heap.get?_push_of_some _ q) (Nat.le_refl _) ⟨fl, _, r.rep n, IsTup.new _ _⟩, rfl, q _ (I.hok.fresh (Nat.le_refl _))⟩
/-! what is made anew or is the old one, read alike -/
theorem catA_any {K : PySem.W.Frag} {a b : Addr} {xs ys : List V} {H : Hp} {Q : VK} (ha : H a = some (.tup xs)) (hb : H b = some (.tup ys)) (hl : xs.length + ys.length ≤ sizeLine)
    (q : ∀ p H', Same H H' → H' p = some (.tup (xs ++ ys)) → p = a ∨ p = b ∨ H p = none → Q (.ref p) H') : rCatA K (.ref a) (.ref b) H Q := by
  refine ⟨a, b, xs, ys, rfl, rfl, SqT.of ha, SqT.of hb, hl, fun e => ?_, fun _ e => ?_, fun _ _ p np => ?_⟩
  · subst e
    exact q b H (Same.refl H) hb (.inr (.inl rfl))
  · subst e
    exact q a H (Same.refl H) (by rw [List.append_nil]; exact ha) (.inl rfl)
  · exact q p _ (same_new np) upd_same (.inr (.inr np))
theorem slA_any {K : PySem.W.Frag} {a : Addr} {xs : List V} {lo hi : Option Int} {H : Hp} {Q : VK} (ha : H a = some (.tup xs)) (q : ∀ p H', Same H H' → H' p = some (.tup (cutV xs lo hi)) → p = a ∨ H p = none → Q (.ref p) H') : rSlA K (.ref a) lo hi H Q := by
  refine ⟨a, xs, rfl, SqT.of ha, fun e => ?_, fun _ p np => q p _ (same_new np) upd_same (.inr np)⟩
  have ec : cutV xs lo hi = xs := by
    unfold cutV
    rw [e.1, e.2, List.drop_zero, Nat.sub_zero, List.take_length]
  exact q a H (Same.refl H) (by rw [ec]; exact ha) (.inl rfl)
theorem cut_to (xs : List V) (n : Nat) : cutV xs none (some (n : Int)) = xs.take n := by
  unfold cutV
  rw [HT.sIx_none, HT.sIx_nat, List.drop_zero, Nat.sub_zero, List.take_eq_take_iff]
  omega
theorem cut_from (xs : List V) (n : Nat) : cutV xs (some (n : Int)) none = xs.drop n := by
  unfold cutV
  rw [HT.sIx_none, HT.sIx_nat]
  have e : xs.drop (min n xs.length) = xs.drop n := by
    by_cases h : n ≤ xs.length
    · rw [Nat.min_eq_left h]
    · rw [List.drop_of_length_le (by omega), List.drop_of_length_le (by omega)]
  rw [e]
  exact List.take_of_length_le (by rw [List.length_drop]; omega)
end
end Mo

set_option exponentiation.threshold 3000
/-! ### how great data is: its ints below 10 ^ B, its signs, its bulk, its depth -/
namespace Mo
open PySem PySem.Spec PyProof.Rows L2
mutual
def okD (B : Nat) : PyData → Prop
  | .none | .bool _ => True
  | .int i => i.natAbs < 10 ^ B
  | .str z => ∀ c ∈ z.cps.toList, c < 128
  | .list ds | .tuple ds => okAll B ds
  | .dict kvs => okKv B kvs
def okAll (B : Nat) : List PyData → Prop
  | [] => True
  | d :: ds => okD B d ∧ okAll B ds
def okKv (B : Nat) : List (PyData × PyData) → Prop
  | [] => True
  | (k, v) :: r => (okD B k ∧ okD B v) ∧ okKv B r
end
theorem okAll_iff {B : Nat} : ∀ {ds : List PyData}, okAll B ds ↔ ∀ d ∈ ds, okD B d
  | [] => by simp [okAll]
  | d :: ds => by
    rw [List.forall_mem_cons, ← okAll_iff (ds := ds)]
    simp only [okAll]
mutual
theorem okD.mono {B C : Nat} (h : B ≤ C) : ∀ {d : PyData}, okD B d → okD C d
  | .none, _ => by simp only [okD]
  | .bool _, _ => by simp only [okD]
  | .int i, q => by
    simp only [okD] at q ⊢
    exact Nat.lt_of_lt_of_le q (Nat.pow_le_pow_right (by decide) h)
  | .str z, q => by
    simp only [okD] at q ⊢
    exact q
  | .list ds, q => by
    simp only [okD] at q ⊢
    exact okAll.mono h q
  | .tuple ds, q => by
    simp only [okD] at q ⊢
    exact okAll.mono h q
  | .dict kvs, q => by
    simp only [okD] at q ⊢
    exact okKv.mono h q
theorem okAll.mono {B C : Nat} (h : B ≤ C) : ∀ {ds : List PyData}, okAll B ds → okAll C ds
  | [], _ => by simp only [okAll]
  | d :: ds, q => by
    simp only [okAll] at q ⊢
    exact ⟨okD.mono h q.1, okAll.mono h q.2⟩
theorem okKv.mono {B C : Nat} (h : B ≤ C) : ∀ {kvs : List (PyData × PyData)}, okKv B kvs → okKv C kvs
  | [], _ => by simp only [okKv]
  | (k, v) :: r, q => by
    simp only [okKv] at q ⊢
    exact ⟨⟨okD.mono h q.1.1, okD.mono h q.1.2⟩, okKv.mono h q.2⟩
end
theorem int_short {B : Nat} {i : Int} (hB : 1 ≤ B) (h : i.natAbs < 10 ^ B) : (PyData.shown (.int i)).length ≤ B + 1 := by
  rw [PyData.shown_int, PySem.ofString_length]
  exact int_text_length_le10 hB h
/-- str(i) -/
theorem int_signs (i : Int) : ∀ c ∈ (Str.ofString (toString i)).cps.toList, c < 128 := fun c hc => by
  by_cases h : c ≠ 45 ∧ (c < 48 ∨ 57 < c)
  · exact absurd hc (int_text_free' c h i)
  · omega
theorem int_text_size {B : Nat} {i : Int} (hB : 1 ≤ B) (h : i.natAbs < 10 ^ B) : (Str.ofString (toString i)).cps.size ≤ B + 1 := by
  have q := int_short hB h
  rw [PyData.shown_int] at q
  exact q
theorem log_small {B n : Nat} (hB : B ≤ 100) (h : n < 10 ^ B) : n.log2 < 1920 := by
  by_cases h0 : n = 0
  · subst h0
    decide
  · have h1 : n < 2 ^ 1920 := Nat.lt_of_lt_of_le h (Nat.le_trans (Nat.pow_le_pow_right (by decide) hB) (by decide))
    exact (Nat.log2_lt h0).mpr h1
mutual
theorem okD.short {B : Nat} (hB : 1 ≤ B) : ∀ {d : PyData}, okD B d → d.leavesShort (B + 8) = true
  | .none, _ => by simp only [PyData.leavesShort]
  | .bool _, _ => by simp only [PyData.leavesShort]
  | .int i, q => by
    simp only [okD] at q
    have := int_short hB q
    simp only [PyData.leavesShort]
    exact decide_eq_true (by omega)
  | .str z, q => by
    simp only [okD] at q
    simp only [PyData.leavesShort, List.all_eq_true]
    exact fun c hc => decide_eq_true (Nat.lt_trans (q c hc) (by decide))
  | .list ds, q => by
    simp only [okD, PyData.leavesShort] at q ⊢
    exact okAll.short hB q
  | .tuple ds, q => by
    simp only [okD, PyData.leavesShort] at q ⊢
    exact okAll.short hB q
  | .dict kvs, q => by
    simp only [okD, PyData.leavesShort] at q ⊢
    exact okKv.short hB q
theorem okAll.short {B : Nat} (hB : 1 ≤ B) : ∀ {ds : List PyData}, okAll B ds → PyData.leavesShortAll (B + 8) ds = true
  | [], _ => by simp only [PyData.leavesShortAll]
  | d :: ds, q => by
    simp only [okAll, PyData.leavesShortAll, Bool.and_eq_true] at q ⊢
    exact ⟨okD.short hB q.1, okAll.short hB q.2⟩
theorem okKv.short {B : Nat} (hB : 1 ≤ B) : ∀ {kvs : List (PyData × PyData)}, okKv B kvs → PyData.leavesShortKv (B + 8) kvs = true
  | [], _ => by simp only [PyData.leavesShortKv]
  | (k, v) :: r, q => by
    simp only [okKv, PyData.leavesShortKv, Bool.and_eq_true] at q ⊢
    exact ⟨⟨okD.short hB q.1.1, okD.short hB q.1.2⟩, okKv.short hB q.2⟩
end
mutual
theorem okD.show {B : Nat} (hB : B ≤ 100) : ∀ {d : PyData}, okD B d → d.showable = true
  | .none, _ => by simp only [PyData.showable]
  | .bool _, _ => by simp only [PyData.showable]
  | .int i, q => by
    simp only [okD, PyData.showable] at q ⊢
    exact decide_eq_true (log_small hB q)
  | .str z, q => by simp only [PyData.showable]
  | .list ds, q => by
    simp only [okD, PyData.showable] at q ⊢
    exact okAll.show hB q
  | .tuple ds, q => by
    simp only [okD, PyData.showable] at q ⊢
    exact okAll.show hB q
  | .dict kvs, q => by
    simp only [okD, PyData.showable] at q ⊢
    exact okKv.show hB q
theorem okAll.show {B : Nat} (hB : B ≤ 100) : ∀ {ds : List PyData}, okAll B ds → PyData.showableAll ds = true
  | [], _ => by simp only [PyData.showableAll]
  | d :: ds, q => by
    simp only [okAll, PyData.showableAll, Bool.and_eq_true] at q ⊢
    exact ⟨okD.show hB q.1, okAll.show hB q.2⟩
theorem okKv.show {B : Nat} (hB : B ≤ 100) : ∀ {kvs : List (PyData × PyData)}, okKv B kvs → PyData.showableKv kvs = true
  | [], _ => by simp only [PyData.showableKv]
  | (k, v) :: r, q => by
    simp only [okKv, PyData.showableKv, Bool.and_eq_true] at q ⊢
    exact ⟨⟨okD.show hB q.1.1, okD.show hB q.1.2⟩, okKv.show hB q.2⟩
end
theorem bulkAll_app : ∀ (a b : List PyData), PyData.bulkAll (a ++ b) = PyData.bulkAll a + PyData.bulkAll b
  | [], b => by simp [PyData.bulkAll]
  | x :: a, b => by
    rw [List.cons_append]
    simp only [PyData.bulkAll]
    rw [bulkAll_app a b]
    omega
theorem depthAll_le {n : Nat} : ∀ {ds : List PyData}, PyData.depthAll ds ≤ n ↔ ∀ d ∈ ds, d.depth ≤ n
  | [] => by simp [PyData.depthAll]
  | d :: ds => by
    rw [List.forall_mem_cons, ← depthAll_le (ds := ds)]
    simp only [PyData.depthAll]
    exact Nat.max_le
/-- data of these bounds -/
structure Fit (B W D : Nat) (d : PyData) : Prop where
  ok : okD B d
  bulk : d.bulk ≤ W
  deep : d.depth ≤ D
/-- lists of such data, of this bulk together -/
structure FitAll (B W D : Nat) (ds : List PyData) : Prop where
  ok : okAll B ds
  bulk : PyData.bulkAll ds ≤ W
  deep : PyData.depthAll ds ≤ D
theorem Fit.mono {B W D B' W' D' : Nat} {d : PyData} (h : Fit B W D d) (h1 : B ≤ B') (h2 : W ≤ W') (h3 : D ≤ D') : Fit B' W' D' d := ⟨h.ok.mono h1, Nat.le_trans h.bulk h2, Nat.le_trans h.deep h3⟩
theorem FitAll.app {B W D W' : Nat} {a b : List PyData} (h : FitAll B W D a) (g : FitAll B W' D b) : FitAll B (W + W') D (a ++ b) :=
  ⟨okAll_iff.mpr fun d hd => (List.mem_append.mp hd).elim (okAll_iff.mp h.ok d) (okAll_iff.mp g.ok d), by rw [bulkAll_app]; exact Nat.add_le_add h.bulk g.bulk, depthAll_le.mpr fun d hd => (List.mem_append.mp hd).elim (depthAll_le.mp h.deep d) (depthAll_le.mp g.deep d)⟩
theorem FitAll.tup {B W D : Nat} {a : List PyData} (h : FitAll B W D a) : Fit B W (D + 1) (.tuple a) := ⟨by simp only [okD]; exact h.ok, by simp only [PyData.bulk]; exact h.bulk, by simp only [PyData.depth]; exact Nat.succ_le_succ h.deep⟩
theorem FitAll.lst {B W D : Nat} {a : List PyData} (h : FitAll B W D a) : Fit B W (D + 1) (.list a) := ⟨by simp only [okD]; exact h.ok, by simp only [PyData.bulk]; exact h.bulk, by simp only [PyData.depth]; exact Nat.succ_le_succ h.deep⟩
theorem Fit.of_tup {B W D : Nat} {a : List PyData} (h : Fit B W (D + 1) (.tuple a)) : FitAll B W D a := ⟨by have := h.ok; simp only [okD] at this; exact this, by have := h.bulk; simp only [PyData.bulk] at this; exact this, by have := h.deep; simp only [PyData.depth] at this; omega⟩
theorem Fit.one {B W D : Nat} {d : PyData} (h : Fit B W D d) : FitAll B (W + 1) D [d] := ⟨by simp only [okAll]; exact ⟨h.ok, trivial⟩, by simp only [PyData.bulkAll]; have := h.bulk; omega, by simp only [PyData.depthAll]; have := h.deep; omega⟩
theorem FitAll.sub {B W D : Nat} {a b : List PyData} (h : FitAll B W D b) (hs : a.Sublist b) : FitAll B (PyData.bulkAll a) D a := ⟨okAll_iff.mpr fun d hd => okAll_iff.mp h.ok d (hs.subset hd), Nat.le_refl _, depthAll_le.mpr fun d hd => depthAll_le.mp h.deep d (hs.subset hd)⟩
theorem FitAll.mono {B W D B' W' D' : Nat} {d : List PyData} (h : FitAll B W D d) (h1 : B ≤ B') (h2 : W ≤ W') (h3 : D ≤ D') : FitAll B' W' D' d := ⟨h.ok.mono h1, Nat.le_trans h.bulk h2, Nat.le_trans h.deep h3⟩
theorem FitAll.len {B W D : Nat} {a : List PyData} (h : FitAll B W D a) : a.length ≤ W := by
  have key : ∀ a : List PyData, a.length ≤ PyData.bulkAll a := by
    intro a
    induction a with
    | nil => exact Nat.zero_le _
    | cons x a ih =>
      simp only [PyData.bulkAll, List.length_cons]
      omega
  exact Nat.le_trans (key a) h.bulk
/-- what repr asks -/
theorem Fit.repr {B W D : Nat} {d : PyData} (h : Fit B W D d) (h1 : 1 ≤ B) (h2 : B ≤ 40) (h3 : W ≤ 300000) (h4 : D ≤ 40) : d.showable = true ∧ d.depth ≤ 40 ∧ d.shown.length ≤ sizeLine := by
  refine ⟨h.ok.show (by omega), Nat.le_trans h.deep h4, ?_⟩
  have q := PyData.shown_le_bulk (B + 8) (by omega) d (h.ok.short h1)
  have hb := h.bulk
  have m : (B + 8 + 2) * d.bulk ≤ 50 * 300000 := Nat.mul_le_mul (by omega) (by omega)
  rw [sizeLine_eq]
  omega
/-! ### kinds -/
def tyD : PyData → String
  | .none => "NoneType"
  | .bool _ => "bool"
  | .int _ => "int"
  | .str _ => "str"
  | .list _ => "list"
  | .tuple _ => "tuple"
  | .dict _ => "dict"
theorem Dx.ty {N : Addr → Prop} {K : PySem.W.Frag} {H : Hp} {x : V} {d : PyData} (h : Dx N H x d) : TyX K H x (.type (tyD d)) := by
  cases h with
  | non => exact .base .non
  | bl b => exact .base (.bl b)
  | int i => exact .base (.int i)
  | str z => exact .base (.str z)
  | lst h _ _ => exact .base (.lst h)
  | tup h _ _ => exact .base (.tup h)
  | dct h _ _ => exact .base (.dK h)
def letterD : PyData → Bool
  | .int i => decide (0 ≤ i) && decide (i ≤ 999999)
  | _ => false
def textD : PyData → Bool
  | .tuple ds => decide (ds.length ≤ 4096) && ds.all letterD
  | _ => false
end Mo

namespace Mo
open PySem PySem.Spec PyProof.Rows L2
def topS (i : Nat) : Stmt := PySem.Challenge.pw_mustoccur_k01_patterns_and_texts_or_not.main.body.getD i (.Pass ⟨0, 0, 0, 0⟩)
abbrev sIsPattern : Stmt := topS 6
theorem scIsPattern : FnScope ["value", "name"] ["value"] (defScope sIsPattern) := ⟨rfl, rfl, rfl, by decide +kernel, rfl, by decide +kernel, by decide +kernel⟩
abbrev sIsPlainInteger : Stmt := topS 7
theorem scIsPlainInteger : FnScope ["value"] ["value"] (defScope sIsPlainInteger) := ⟨rfl, rfl, rfl, by decide +kernel, rfl, by decide +kernel, by decide +kernel⟩
abbrev sIsLetter : Stmt := topS 8
theorem scIsLetter : FnScope ["value"] ["value"] (defScope sIsLetter) := ⟨rfl, rfl, rfl, by decide +kernel, rfl, by decide +kernel, by decide +kernel⟩
abbrev sIsText : Stmt := topS 9
theorem scIsText : FnScope ["value", "letter"] ["value"] (defScope sIsText) := ⟨rfl, rfl, rfl, by decide +kernel, rfl, by decide +kernel, by decide +kernel⟩
abbrev sLPen : Stmt := topS 11
theorem scLPen : FnScope ["_law_script"] ["_law_script"] (defScope sLPen) := ⟨rfl, rfl, rfl, by decide +kernel, rfl, by decide +kernel, by decide +kernel⟩
abbrev sLDraw : Stmt := topS 12
theorem scLDraw : FnScope ["_law_pen_here", "_law_size", "_law_digit", "_law_turn", "_law_cell", "_law_primes", "_law_prime", "_law_mixed"] ["_law_pen_here", "_law_size"] (defScope sLDraw) := ⟨rfl, rfl, rfl, by decide +kernel, rfl, by decide +kernel, by decide +kernel⟩
abbrev sLPick : Stmt := topS 13
theorem scLPick : FnScope ["_law_pen_here", "_law_options"] ["_law_pen_here", "_law_options"] (defScope sLPick) := ⟨rfl, rfl, rfl, by decide +kernel, rfl, by decide +kernel, by decide +kernel⟩
abbrev sLNames : Stmt := topS 14
theorem scLNames : FnScope ["_law_pen_here", "_law_count", "_law_letters", "_law_begin", "_law_step", "_law_k"] ["_law_pen_here", "_law_count"] (defScope sLNames) := ⟨rfl, rfl, rfl, by decide +kernel, rfl, by decide +kernel, by decide +kernel⟩
abbrev sLNested : Stmt := topS 15
theorem scLNested : FnScope ["_law_names_here", "_law_word", "_law_name"] ["_law_names_here"] (defScope sLNested) := ⟨rfl, rfl, rfl, by decide +kernel, rfl, by decide +kernel, by decide +kernel⟩
abbrev sLPattern : Stmt := topS 16
theorem scLPattern : FnScope ["_law_pen_here", "_law_size", "_law_count", "_law_names_here", "_law_way", "_law_many", "_law_k", "_law_word", "_law_at", "_law_half"] ["_law_pen_here", "_law_size", "_law_count"] (defScope sLPattern) := ⟨rfl, rfl, rfl, by decide +kernel, rfl, by decide +kernel, by decide +kernel⟩
abbrev sLIsLetter : Stmt := topS 17
theorem scLIsLetter : FnScope ["_law_value"] ["_law_value"] (defScope sLIsLetter) := ⟨rfl, rfl, rfl, by decide +kernel, rfl, by decide +kernel, by decide +kernel⟩
abbrev sLIsText : Stmt := topS 18
theorem scLIsText : FnScope ["_law_value", "_law_letter"] ["_law_value"] (defScope sLIsText) := ⟨rfl, rfl, rfl, by decide +kernel, rfl, by decide +kernel, by decide +kernel⟩
abbrev sLIsPattern : Stmt := topS 19
theorem scLIsPattern : FnScope ["_law_value", "_law_seen", "_law_sign"] ["_law_value"] (defScope sLIsPattern) := ⟨rfl, rfl, rfl, by decide +kernel, rfl, by decide +kernel, by decide +kernel⟩
abbrev sLText : Stmt := topS 20
theorem scLText : FnScope ["_law_pen_here", "_law_some", "_law_k"] ["_law_pen_here"] (defScope sLText) := ⟨rfl, rfl, rfl, by decide +kernel, rfl, by decide +kernel, by decide +kernel⟩
abbrev sLOdd : Stmt := topS 21
theorem scLOdd : FnScope ["_law_pen_here", "_law_some"] ["_law_pen_here"] (defScope sLOdd) := ⟨rfl, rfl, rfl, by decide +kernel, rfl, by decide +kernel, by decide +kernel⟩
abbrev sLChanged : Stmt := topS 22
theorem scLChanged : FnScope ["_law_pen_here", "_law_value", "_law_way", "_law_at", "_law_sign"] ["_law_pen_here", "_law_value"] (defScope sLChanged) := ⟨rfl, rfl, rfl, by decide +kernel, rfl, by decide +kernel, by decide +kernel⟩
abbrev sLaw : Stmt := topS 23
theorem scLaw : FnScope ["_law_script", "_law_pen_here", "_law_turn", "_law_values", "_law_k", "_law_value", "_law_kept"] ["_law_script"] (defScope sLaw) := ⟨rfl, rfl, rfl, by decide +kernel, rfl, by decide +kernel, by decide +kernel⟩
structure Txt (K : PySem.W.Frag) (mg : Str → Option Value) where
  aIsPattern : Addr
  dIsPattern : FuncData
  fIsPattern : Fun K "is_pattern" "is_pattern" sIsPattern aIsPattern dIsPattern
  bIsPattern : Binds K dIsPattern ["value"] []
  gIsPattern : mg "is_pattern" = some (.ref aIsPattern)
  aIsPlainInteger : Addr
  dIsPlainInteger : FuncData
  fIsPlainInteger : Fun K "is_plain_integer" "is_plain_integer" sIsPlainInteger aIsPlainInteger dIsPlainInteger
  bIsPlainInteger : Binds K dIsPlainInteger ["value"] []
  gIsPlainInteger : mg "is_plain_integer" = some (.ref aIsPlainInteger)
  aIsLetter : Addr
  dIsLetter : FuncData
  fIsLetter : Fun K "is_letter" "is_letter" sIsLetter aIsLetter dIsLetter
  bIsLetter : Binds K dIsLetter ["value"] []
  gIsLetter : mg "is_letter" = some (.ref aIsLetter)
  aIsText : Addr
  dIsText : FuncData
  fIsText : Fun K "is_text" "is_text" sIsText aIsText dIsText
  bIsText : Binds K dIsText ["value"] []
  gIsText : mg "is_text" = some (.ref aIsText)
  aLPen : Addr
  dLPen : FuncData
  fLPen : Fun K "_law_pen" "_law_pen" sLPen aLPen dLPen
  bLPen : Binds K dLPen ["_law_script"] []
  gLPen : mg "_law_pen" = some (.ref aLPen)
  aLDraw : Addr
  dLDraw : FuncData
  fLDraw : Fun K "_law_draw" "_law_draw" sLDraw aLDraw dLDraw
  bLDraw : Binds K dLDraw ["_law_pen_here", "_law_size"] []
  gLDraw : mg "_law_draw" = some (.ref aLDraw)
  aLPick : Addr
  dLPick : FuncData
  fLPick : Fun K "_law_pick" "_law_pick" sLPick aLPick dLPick
  bLPick : Binds K dLPick ["_law_pen_here", "_law_options"] []
  gLPick : mg "_law_pick" = some (.ref aLPick)
  aLNames : Addr
  dLNames : FuncData
  fLNames : Fun K "_law_names" "_law_names" sLNames aLNames dLNames
  bLNames : Binds K dLNames ["_law_pen_here", "_law_count"] []
  gLNames : mg "_law_names" = some (.ref aLNames)
  aLNested : Addr
  dLNested : FuncData
  fLNested : Fun K "_law_nested" "_law_nested" sLNested aLNested dLNested
  bLNested : Binds K dLNested ["_law_names_here"] []
  gLNested : mg "_law_nested" = some (.ref aLNested)
  aLPattern : Addr
  dLPattern : FuncData
  fLPattern : Fun K "_law_pattern" "_law_pattern" sLPattern aLPattern dLPattern
  bLPattern : Binds K dLPattern ["_law_pen_here", "_law_size", "_law_count"] []
  gLPattern : mg "_law_pattern" = some (.ref aLPattern)
  aLIsLetter : Addr
  dLIsLetter : FuncData
  fLIsLetter : Fun K "_law_is_letter" "_law_is_letter" sLIsLetter aLIsLetter dLIsLetter
  bLIsLetter : Binds K dLIsLetter ["_law_value"] []
  gLIsLetter : mg "_law_is_letter" = some (.ref aLIsLetter)
  aLIsText : Addr
  dLIsText : FuncData
  fLIsText : Fun K "_law_is_text" "_law_is_text" sLIsText aLIsText dLIsText
  bLIsText : Binds K dLIsText ["_law_value"] []
  gLIsText : mg "_law_is_text" = some (.ref aLIsText)
  aLIsPattern : Addr
  dLIsPattern : FuncData
  fLIsPattern : Fun K "_law_is_pattern" "_law_is_pattern" sLIsPattern aLIsPattern dLIsPattern
  bLIsPattern : Binds K dLIsPattern ["_law_value"] []
  gLIsPattern : mg "_law_is_pattern" = some (.ref aLIsPattern)
  aLText : Addr
  dLText : FuncData
  fLText : Fun K "_law_text" "_law_text" sLText aLText dLText
  bLText : Binds K dLText ["_law_pen_here"] []
  gLText : mg "_law_text" = some (.ref aLText)
  aLOdd : Addr
  dLOdd : FuncData
  fLOdd : Fun K "_law_odd" "_law_odd" sLOdd aLOdd dLOdd
  bLOdd : Binds K dLOdd ["_law_pen_here"] []
  gLOdd : mg "_law_odd" = some (.ref aLOdd)
  aLChanged : Addr
  dLChanged : FuncData
  fLChanged : Fun K "_law_changed" "_law_changed" sLChanged aLChanged dLChanged
  bLChanged : Binds K dLChanged ["_law_pen_here", "_law_value"] []
  gLChanged : mg "_law_changed" = some (.ref aLChanged)
  aLaw : Addr
  dLaw : FuncData
  fLaw : Fun K "law" "law" sLaw aLaw dLaw
  bLaw : Binds K dLaw ["_law_script"] []
  gLaw : mg "law" = some (.ref aLaw)
  t_VARIABLES : Tok
  m_VARIABLES : mg "VARIABLES" = some (.str "abcdefghijklmnopqrstuvwxyz" t_VARIABLES)
  t_LONGEST_PATTERN : Tok
  m_LONGEST_PATTERN : mg "LONGEST_PATTERN" = some (.int 40 t_LONGEST_PATTERN)
  t_MOST_VARIABLES : Tok
  m_MOST_VARIABLES : mg "MOST_VARIABLES" = some (.int 8 t_MOST_VARIABLES)
  t_LONGEST_TEXT : Tok
  m_LONGEST_TEXT : mg "LONGEST_TEXT" = some (.int 4096 t_LONGEST_TEXT)
  t_GREATEST_LETTER : Tok
  m_GREATEST_LETTER : mg "GREATEST_LETTER" = some (.int 999999 t_GREATEST_LETTER)
  m_all : mg "all" = none
  m_len : mg "len" = none
  m_set : mg "set" = none
  m_isinstance : mg "isinstance" = none
  m_str : mg "str" = none
  m_bool : mg "bool" = none
  m_int : mg "int" = none
  m_tuple : mg "tuple" = none
  m_list : mg "list" = none
  m_abs : mg "abs" = none
  m_range : mg "range" = none
  m_repr : mg "repr" = none
end Mo

namespace Mo
open PySem PySem.Spec PyProof.Rows L2
section
variable {P : Program} {w : World} {K : PySem.W.Frag} {mg : Str → Option Value} {base : Heap}
theorem ints_dp {H : Hp} : ∀ ns : List Int, DpAll K H (ns.map V.int) (ns.map PyData.int)
  | [] => .nil
  | n :: ns => .cons (.int n) (ints_dp ns)
theorem mod_in {a b : Int} (h : 0 < b) : 0 ≤ a.fmod b ∧ a.fmod b < b := by
  rw [Int.fmod_eq_emod_of_nonneg _ (Int.le_of_lt h)]
  exact ⟨Int.emod_nonneg _ (by omega), Int.emod_lt_of_pos _ h⟩
theorem div_in {a b : Int} (h : 0 < b) (ha : 0 ≤ a) : 0 ≤ a.fdiv b := by
  rw [Int.fdiv_eq_ediv_of_nonneg _ (Int.le_of_lt h)]
  exact Int.ediv_nonneg ha (Int.le_of_lt h)
theorem nat_of {i : Int} (h : 0 ≤ i) : ∃ j : Nat, i = (j : Int) := ⟨i.toNat, by omega⟩
theorem ok_draw {k : Nat} (T : Txt K mg) : FnOk P w K mg base CX0 (k + 1) T.aLDraw T.dLDraw ["_law_pen_here", "_law_size"] spDraw := by
  refine T.fLDraw.ok scLDraw (fun vs H Q E h => ?_) (fun cdv A outer s H vs Q E hr h => ?_)
  · obtain ⟨d, c, n, t, rfl, _⟩ := h
    rfl
  · obtain ⟨d, c, n, t, rfl, pen, n0, n1, ht, q⟩ := h
    have hu := hu_of hr
    obtain ⟨ns, r, hd, hc, hl, r0⟩ := id pen
    have ndc := pen.ne
    have gC := DGet.k (k := Sum.inr "cells") hd
    have gT := DGet.k (k := Sum.inr "turn") hd
    have gR := DGet.k (k := Sum.inr "rest") hd
    rw [pen_cells] at gC
    rw [pen_turn] at gT
    rw [pen_rest] at gR
    have nz : n ≠ 0 := by omega
    have na : n.natAbs < 1073741824 := by omega
    refine ⟨_, (pss_cons (ps_if (pt_cmpR op_gt (pe_dget hu (pv 0) pe_str (fun _ _ => rfl)) pe_int (nomark _)) (pss_cons (ps_set (i := 2) scLDraw.nd rfl (Or.inl rfl) (pe_op op_modN (pe_dget hu (pv 0) pe_str (fun _ _ => rfl)) (pv 1)))
      (pss_cons (ps_dput hu (pv 0) pe_str (pe_op op_fdivN (pe_dget hu (pv 0) pe_str (fun _ _ => rfl)) (pv 1)) rfl)
      (pss_one (ps_ret (pv 2))))) pss_nil)
      (pss_cons (ps_set (i := 3) scLDraw.nd rfl (Or.inl rfl) (pe_dget hu (pv 0) pe_str (fun _ _ => rfl)))
      (pss_cons (ps_dput hu (pv 0) pe_str (pe_op op_add (pv 3) pe_int) rfl)
      (pss_cons (ps_set (i := 4) scLDraw.nd rfl (Or.inl rfl) (pe_op op_add (pe_op op_mul pe_int (pv 3)) pe_int))
      (Evl.pss_cut (ps_if (pt_cmpR (op_neD hr.units) (pe_dget hu (pv 0) pe_str (fun _ _ => rfl)) (pe_lst pa_nil) (nomark _)) (pss_one (ps_set (i := 4) scLDraw.nd rfl (Or.inl rfl) (pe_ix ix_list (pe_dget hu (pv 0) pe_str (fun _ _ => rfl)) (pe_op op_modN (pv 3) (pe_callB call_len_seq (by rfl) T.m_len PySem.boot_len (pa_cons (pe_dget hu (pv 0) pe_str (fun _ _ => rfl)) pa_nil))) (fun _ _ => rfl)))) pss_nil)
      (Evl.pss_cut (ps_if (PW.pt (pw_and (pt_cmpR op_lt (pv 3) (pe_callB call_len_seq (by rfl) T.m_len PySem.boot_len (pa_cons (pe_dget hu (pv 0) pe_str (fun _ _ => rfl)) pa_nil)) (nomark _)) (pw_and1 (pt_cmpR op_ge (pe_callB call_abs (by rfl) T.m_abs (by decide +kernel) (pa_cons (pv 4) pa_nil)) (pe_op op_pow pe_int pe_int) (nomark _))))) (pss_cons (ps_dput hu (pv 0) pe_str (pe_op op_fdivN (pe_op op_sub (pe_callB call_abs (by rfl) T.m_abs (by decide +kernel) (pa_cons (pv 4) pa_nil)) (pe_op op_pow pe_int pe_int)) (pv 1)) rfl)
      (pss_one (ps_ret (pe_op op_modN (pe_op op_sub (pe_callB call_abs (by rfl) T.m_abs (by decide +kernel) (pa_cons (pv 4) pa_nil)) (pe_op op_pow pe_int pe_int)) (pv 1))))) pss_nil)
      (pss_cons (ps_set (i := 5) scLDraw.nd rfl (Or.inl rfl) (pe_lst (pa_cons pe_int (pa_cons pe_int (pa_cons pe_int (pa_cons pe_int (pa_cons pe_int pa_nil)))))))
      (pss_cons (ps_set (i := 6) scLDraw.nd rfl (Or.inl rfl) (pe_ix ix_list (pv 5) (pe_op op_modN (pv 3) pe_int) (fun _ _ => rfl)))
      (pss_cons (ps_set (i := 7) scLDraw.nd rfl (Or.inl rfl) (pe_op op_modN (pe_op op_add (pe_op op_add (pe_op op_add (pe_op op_mul (pe_op op_modN (pv 4) pe_int) pe_int) (pe_op op_mul (pe_op op_mul pe_int (pv 3)) (pv 3))) (pe_op op_mul pe_int (pv 3))) pe_int) (pv 6)))
      (pss_cons (ps_set (i := 7) scLDraw.nd rfl (Or.inl rfl) (pe_op op_modN (pe_op op_add (pe_op op_add (pe_op op_add (pe_op op_mul (pv 7) (pv 7)) (pe_op op_mul pe_int (pv 7))) (pe_op op_mul pe_int (pv 3))) pe_int) pe_int))
      (pss_one (ps_ret (pe_op op_modN (pe_op op_fdivN (pe_op op_modN (pe_op op_mul (pv 7) (pe_op op_add (pv 7) pe_int)) pe_int) pe_int) (pv 1)))))))))))))), ?_⟩
    refine ⟨_, rfl, d, _, rfl, gR, _, _, rfl, rfl, _, rfl, ite2 (fun e => ?_) (fun e => ?_)⟩
    · -- a digit of the rest
      refine ⟨_, rfl, d, _, rfl, gR, _, rfl, r, n, rfl, rfl, nz, ?_⟩
      refine ⟨_, rfl, d, _, rfl, gR, _, rfl, r, n, rfl, rfl, ⟨nz, na⟩, _, rfl, d, _, rfl, DPut.k (k := Sum.inr "rest") hd (by show 3 < sizeLine; decide), ?_⟩
      rw [put_rest]
      exact ⟨_, rfl, q _ _ t But.set (pen_set pen (div_in n0 r0)) (Nat.le_succ _) (mod_in n0).1 (mod_in n0).2⟩
    · -- turn, turn + 1
      refine ⟨_, rfl, d, _, rfl, gT, ?_⟩
      refine ⟨_, rfl, t, 1, rfl, rfl, _, rfl, d, _, rfl, DPut.k (k := Sum.inr "turn") hd (by show 3 < sizeLine; decide), ?_⟩
      rw [put_turn, show (t : Int) + 1 = ((t + 1 : Nat) : Int) by omega]
      have pen1 : Pen (upd H d (.dK (penD c ((t + 1 : Nat) : Int) r))) d c (t + 1) := pen_set pen r0
      have but1 : But d H (upd H d (.dK (penD c ((t + 1 : Nat) : Int) r))) := But.set
      generalize eH1 : upd H d (.dK (penD c ((t + 1 : Nat) : Int) r)) = H1 at *
      have hc1 : H1 c = some (.lst (ns.map V.int)) := but1 _ _ ndc.symm hc
      have hd1 : H1 d = some (.dK (penD c ((t + 1 : Nat) : Int) r)) := by rw [← eH1, upd_same]
      have gC1 := DGet.k (k := Sum.inr "cells") hd1
      rw [pen_cells] at gC1
      -- cell
      refine ⟨_, rfl, 61, t, rfl, rfl, .inl ⟨by decide, by decide⟩, _, 17, rfl, rfl, ?_⟩
      -- if cells != []
      refine ⟨fun σ' H' => ∃ (v : Int) (o2 o5 o6 o7 : Option V), σ' = [some (.ref d), some (.int n), o2, some (.int t), some (.int v), o5, o6, o7] ∧ Same H1 H', ?_, ?_⟩
      · refine ⟨_, rfl, d, _, rfl, gC1, Nat.zero_le _, fun p np => ?_⟩
        have sm := same_new (o := .lst []) np
        refine ⟨.list (ns.map PyData.int), .list [], .lst (SqL.of (sm _ _ hc1)) (ints_dp ns), .lst (SqL.of upd_same) .nil, PySem.W.ke_shaped_ints ns, rfl, _, rfl, ite2 (fun e => ?_) (fun e => ?_)⟩
        · have hne : ns ≠ [] := by
            rintro rfl
            exact absurd e (by decide)
          have gC2 := DGet.k (k := Sum.inr "cells") (sm _ _ hd1)
          rw [pen_cells] at gC2
          have hlen : 0 < ns.length := List.length_pos_iff.mpr hne
          obtain ⟨j, hj⟩ := nat_of (mod_in (a := t) (b := ((ns.map V.int).length : Int)) (by rw [List.length_map]; omega)).1
          have hj2 : j < ns.length := by
            have h2 := (mod_in (a := t) (b := ((ns.map V.int).length : Int)) (by rw [List.length_map]; omega)).2
            rw [hj, List.length_map] at h2
            omega
          refine ⟨_, rfl, d, _, rfl, gC2, _, rfl, _, rfl, d, _, rfl, gC2, c, _, rfl, .inl (SqL.of (sm _ _ hc1)), t, _, rfl, rfl, (by rw [List.length_map]; omega), c, ns.map V.int, _, .int ns[j], rfl, rfl, SqL.of (sm _ _ hc1), ?_, ?_⟩
          · rw [hj]
            exact atI_nat (by rw [List.getElem?_map, List.getElem?_eq_getElem hj2]; rfl)
          · exact ⟨_, _, _, _, _, rfl, sm⟩
        · exact ⟨_, _, _, _, _, rfl, sm⟩
      · rintro σ' H2 ⟨v, o2, o5, o6, o7, rfl, sm⟩
        have hd2 := sm _ _ hd1
        have hc2 := sm _ _ hc1
        have pen2 : Pen H2 d c (t + 1) := pen1.same sm
        have but2 : But d H H2 := but1.trans (But.same sm)
        have gC2 := DGet.k (k := Sum.inr "cells") hd2
        rw [pen_cells] at gC2
        clear e hd hc gC gT gR hd1 hc1 gC1 pen1 but1 eH1 sm pen
        -- if turn < len(cells) and abs(cell) >= 10 ** 18
        refine ⟨fun σ' H' => σ' = [some (.ref d), some (.int n), o2, some (.int t), some (.int v), o5, o6, o7] ∧ H' = H2, ?_, ?_⟩
        · refine ⟨_, rfl, _, rfl, d, _, rfl, gC2, c, _, rfl, .inl (SqL.of hc2), _, _, rfl, rfl, _, rfl, ite2 (fun e1 => ?_) (fun e1 => ?_)⟩
          · refine ⟨_, rfl, _, rfl, 10, 18, rfl, rfl, ⟨by decide, by decide, by decide⟩, _, _, rfl, rfl, _, rfl, ite2 (fun e2 => ?_) (fun e2 => ⟨rfl, rfl⟩)⟩
            have ab : (0 : Int) ≤ (if v < 0 then -v else v) - 10 ^ 18 := by
              have h2 := of_decide_eq_true e2
              have h3 : (10 : Int) ^ (18 : Int).toNat = 10 ^ 18 := rfl
              omega
            refine ⟨_, rfl, _, rfl, 10, 18, rfl, rfl, ⟨by decide, by decide, by decide⟩, _, _, rfl, rfl, _, rfl, _, _, rfl, rfl, ⟨nz, na⟩, _, rfl, d, _, rfl, DPut.k (k := Sum.inr "rest") hd2 (by show 3 < sizeLine; decide), ?_⟩
            rw [put_rest]
            refine ⟨_, rfl, _, rfl, 10, 18, rfl, rfl, ⟨by decide, by decide, by decide⟩, _, _, rfl, rfl, _, rfl, _, _, rfl, rfl, nz, ?_⟩
            exact q _ _ (t + 1) (but2.trans But.set) (pen_set pen2 (div_in n0 ab)) (Nat.le_refl _) (mod_in n0).1 (mod_in n0).2
          · exact ⟨rfl, rfl⟩
        · rintro σ' H' ⟨rfl, rfl⟩
          refine ⟨by show 5 ≤ sizeLine; decide, fun p np => ?_⟩
          have sm := same_new (o := .lst [.int 2147483629, .int 2147483647, .int 2147483563, .int 2147483587, .int 2147483579]) np
          have pen3 := pen2.same sm
          have but3 := but2.trans (But.same (d := d) sm)
          obtain ⟨pr, hp, p0, p1⟩ : ∃ pr : Int, atI [V.int 2147483629, .int 2147483647, .int 2147483563, .int 2147483587, .int 2147483579] ((t : Int).fmod 5) = some (.int pr) ∧ 0 < pr ∧ pr < 4294967296 := by
            obtain ⟨j, hj⟩ := nat_of (mod_in (a := t) (b := 5) (by decide)).1
            have hj2 := (mod_in (a := (t : Int)) (b := 5) (by decide)).2
            rw [hj] at hj2 ⊢
            have hj3 : j < 5 := by omega
            match j, hj3 with
            | 0, _ => exact ⟨_, rfl, by decide, by decide⟩
            | 1, _ => exact ⟨_, rfl, by decide, by decide⟩
            | 2, _ => exact ⟨_, rfl, by decide, by decide⟩
            | 3, _ => exact ⟨_, rfl, by decide, by decide⟩
            | 4, _ => exact ⟨_, rfl, by decide, by decide⟩
          refine ⟨_, rfl, _, rfl, _, 5, rfl, rfl, (by show (5 : Int) ≠ 0; decide), p, _, _, _, rfl, rfl, SqL.of upd_same, hp, ?_⟩
          generalize upd H' p _ = H3 at *
          -- mixed
          refine ⟨_, rfl, _, 4294967291, rfl, rfl, (by show (4294967291 : Int) ≠ 0; decide), _, 48271, rfl, rfl, .inr ⟨by decide, by decide⟩, ?_⟩
          refine ⟨_, rfl, 40503, t, rfl, rfl, .inl ⟨by decide, by decide⟩, _, rfl, _, t, rfl, rfl, .inr ⟨by omega, by omega⟩, _, _, rfl, rfl, ?_⟩
          refine ⟨_, rfl, 69621, t, rfl, rfl, .inl ⟨by decide, by decide⟩, _, _, rfl, rfl, _, 11, rfl, rfl, _, rfl, _, pr, rfl, rfl, by omega, ?_⟩
          have m1 := mod_in (a := v.fmod 4294967291 * 48271 + 40503 * (t : Int) * t + 69621 * t + 11) p0
          generalize em : (v.fmod 4294967291 * 48271 + 40503 * (t : Int) * t + 69621 * t + 11).fmod pr = m at m1
          refine ⟨_, rfl, _, rfl, m, m, congrArg V.int em, congrArg V.int em, .inl ⟨by omega, by omega⟩, _, rfl, 16807, m, rfl, congrArg V.int em, .inl ⟨by decide, by decide⟩, _, _, rfl, rfl, ?_⟩
          refine ⟨_, rfl, 7, t, rfl, rfl, .inl ⟨by decide, by decide⟩, _, _, rfl, rfl, _, 5, rfl, rfl, _, 4294967279, rfl, rfl, (by show (4294967279 : Int) ≠ 0; decide), ?_⟩
          have m2 := mod_in (a := m * m + 16807 * m + 7 * t + 5) (b := 4294967279) (by decide)
          generalize em' : (m * m + 16807 * m + 7 * (t : Int) + 5).fmod 4294967279 = m' at m2
          refine ⟨_, rfl, _, rfl, m', 39916801, congrArg V.int em', rfl, m', _, congrArg V.int em', rfl, .inl ⟨by omega, by omega⟩, _, 4294967231, rfl, rfl, (by show (4294967231 : Int) ≠ 0; decide), _, 32, rfl, rfl, ⟨by decide, by decide⟩, _, rfl, _, n, rfl, rfl, nz, ?_⟩
          exact q _ _ (t + 1) but3 pen3 (Nat.le_refl _) (mod_in n0).1 (mod_in n0).2
end
end Mo

namespace Mo
open PySem PySem.Spec PyProof.Rows L2
section
variable {P : Program} {w : World} {K : PySem.W.Frag} {mg : Str → Option Value} {base : Heap}
theorem ok_pick {k : Nat} (T : Txt K mg) : FnOk P w K mg base CX0 (k + 2) T.aLPick T.dLPick ["_law_pen_here", "_law_options"] (spPick K) := by
  have GLDraw : FnOk P w K mg base CX0 (k + 1) T.aLDraw T.dLDraw ["_law_pen_here", "_law_size"] spDraw := ok_draw T
  refine T.fLPick.ok scLPick (fun vs H Q E h => ?_) (fun cdv A outer s H vs Q E hr h => ?_)
  · obtain ⟨d, c, l, xs, t, rfl, _⟩ := h
    rfl
  · obtain ⟨d, c, l, xs, t, rfl, pen, hl, nld, h0, h1, ht, q⟩ := h
    refine ⟨_, (pss_one (ps_ret (pe_ix ix_list (pv 1) (pe_call GLDraw hr (by rfl) T.gLDraw T.fLDraw.kp T.bLDraw .nil pass0 (pa_cons (pv 0) (pa_cons (pe_callB call_len_seq (by rfl) T.m_len PySem.boot_len (pa_cons (pv 1) pa_nil)) pa_nil))) (fun _ _ => rfl)))), ?_⟩
    refine ⟨_, rfl, _, rfl, _, rfl, l, xs, rfl, .inl hl, d, c, _, t, rfl, pen, by omega, by omega, ht, fun H' k t' but pen' ht' k0 k1 => ?_⟩
    obtain ⟨j, rfl⟩ := nat_of k0
    have hj : j < xs.length := by omega
    have hl' : SqL K H' l xs := by
      rcases hl with (e | ⟨o, e⟩) | e
      · exact .inl (.inl (but _ _ nld e))
      · exact .inl (.inr ⟨o, but _ _ nld e⟩)
      · exact .inr e
    exact ⟨l, xs, j, xs[j], rfl, rfl, hl', atI_nat (List.getElem?_eq_getElem hj), q H' _ t' but pen' ht' (List.getElem_mem hj)⟩
/-- names: n different small letters -/
def spNames : Sp := fun vs H Q _ => ∃ (d c : Addr) (n t : Nat), vs = [.ref d, .int n] ∧ Pen H d c t ∧ n ≤ 26 ∧ t + 2 < 1073741824 ∧
  ∀ H' p cs t', But d H H' → Pen H' d c t' → t' ≤ t + 2 → H p = none → p ≠ d → H' p = some (.lst (cs.map sg)) → cs.length = n → cs.Nodup → Low cs → Q (.ref p) H'
def lett : List Nat := [97, 98, 99, 100, 101, 102, 103, 104, 105, 106, 107, 108, 109, 110, 111, 112, 113, 114, 115, 116, 117, 118, 119, 120, 121, 122]
def nm (b st : Int) (k : Nat) : Nat := 97 + ((b + st * (k : Int)).fmod 26).toNat
theorem lett_at : ∀ j : Fin 26, lett[j.val]? = some (97 + j.val) := by decide
theorem lett_text : (Str.ofString "abcdefghijklmnopqrstuvwxyz").cps.toList = lett := by decide +kernel
theorem lett_ix {i : Int} (h0 : 0 ≤ i) (h1 : i < 26) : atI (Str.ofString "abcdefghijklmnopqrstuvwxyz").cps.toList i = some (97 + i.toNat) := by
  obtain ⟨j, rfl⟩ := nat_of h0
  rw [lett_text]
  exact atI_nat (lett_at ⟨j, by omega⟩)
theorem nm_low (b st : Int) (k : Nat) : 97 ≤ nm b st k ∧ nm b st k ≤ 122 := by
  have h := mod_in (a := b + st * (k : Int)) (b := 26) (by decide)
  unfold nm
  omega
def steps26 : List Int := [1, 3, 5, 7, 9, 11, 15, 17, 19, 21, 23, 25]
theorem nm_inj {b st : Int} (hs : st ∈ steps26) {i j : Nat} (hij : i < j) (hj : j < 26) : nm b st i ≠ nm b st j := by
  unfold nm
  rw [Int.fmod_eq_emod_of_nonneg _ (by decide), Int.fmod_eq_emod_of_nonneg _ (by decide)]
  have h1 := Int.emod_nonneg (b + st * (i : Int)) (b := 26) (by decide)
  have h2 := Int.emod_nonneg (b + st * (j : Int)) (b := 26) (by decide)
  intro e
  have e2 : (b + st * (i : Int)) % 26 = (b + st * (j : Int)) % 26 := by omega
  clear e h1 h2
  simp only [steps26, List.mem_cons, List.not_mem_nil, or_false] at hs
  rcases hs with rfl | rfl | rfl | rfl | rfl | rfl | rfl | rfl | rfl | rfl | rfl | rfl <;> omega
theorem nm_nodup {b st : Int} (hs : st ∈ steps26) {n : Nat} (hn : n ≤ 26) : ((List.range n).map (nm b st)).Nodup := by
  unfold List.Nodup
  rw [List.pairwise_map]
  refine List.Pairwise.imp_of_mem (fun {x y} hx hy hlt => ?_) (List.pairwise_lt_range (n := n))
  have := List.mem_range.mp hy
  exact nm_inj hs hlt (by omega)
theorem take_range_snoc {f : Nat → V} {i : Nat} : (List.range (i + 1)).map f = (List.range i).map f ++ [f i] := by
  rw [List.range_succ, List.map_append]
  rfl
theorem ok_names {k : Nat} (T : Txt K mg) : FnOk P w K mg base CX0 (k + 3) T.aLNames T.dLNames ["_law_pen_here", "_law_count"] spNames := by
  have GLDraw : FnOk P w K mg base CX0 (k + 2) T.aLDraw T.dLDraw ["_law_pen_here", "_law_size"] spDraw := ok_draw T
  have GLPick : FnOk P w K mg base CX0 (k + 2) T.aLPick T.dLPick ["_law_pen_here", "_law_options"] (spPick K) := ok_pick T
  refine T.fLNames.ok scLNames (fun vs H Q E h => ?_) (fun cdv A outer s H vs Q E hr h => ?_)
  · obtain ⟨d, c, n, t, rfl, _⟩ := h
    rfl
  · obtain ⟨d, c, n, t, rfl, pen, hn, ht, q⟩ := h
    refine ⟨_, (pss_cons (ps_set (i := 2) scLNames.nd rfl (Or.inr rfl) pe_str)
      (pss_cons (ps_asg (pe_tup (pa_cons (pe_call GLDraw hr (by rfl) T.gLDraw T.fLDraw.kp T.bLDraw .nil pass0 (pa_cons (pv 0) (pa_cons pe_int pa_nil))) (pa_cons (pe_call GLPick hr (by rfl) T.gLPick T.fLPick.kp T.bLPick .nil pass0 (pa_cons (pv 0) (pa_cons (pe_lst (pa_cons pe_int (pa_cons pe_int (pa_cons pe_int (pa_cons pe_int (pa_cons pe_int (pa_cons pe_int (pa_cons pe_int (pa_cons pe_int (pa_cons pe_int (pa_cons pe_int (pa_cons pe_int (pa_cons pe_int pa_nil))))))))))))) pa_nil))) pa_nil))) (pg_tup (by rfl) (pgs_cons (pg_name (i := 3) scLNames.nd rfl (Or.inr rfl)) (pgs_cons (pg_name (i := 4) scLNames.nd rfl (Or.inr rfl)) pgs_nil))))
      (pss_one (ps_ret (pe_lc (own := [("_law_k", 5)]) (g := gName 5) (tt := tYes) rfl scLNames.nd (pi_range1 (by rfl) T.m_range (pa_cons (pv 1) pa_nil)) (blkOk_by (N := ["_law_pen_here", "_law_count", "_law_letters", "_law_begin", "_law_step", "_law_k"]) (sc := defScope sLNames) (by decide +kernel)) (fun _ _ _ _ _ => pg_name (i := 5) scLNames.nd rfl (Or.inl rfl)) (fun _ _ _ _ _ => pts_nil) (fun _ _ _ _ _ => (pe_ix ix_str (pv 2) (pe_op op_modN (pe_op op_add (pv 3) (pe_op op_mul (pv 4) (pv 5))) pe_int) (fun _ _ => rfl)))))))), ?_⟩
    refine ⟨_, rfl, d, c, 26, t, rfl, pen, by decide, by decide, by omega, fun H1 b t1 but1 pen1 ht1 b0 b1 => ?_⟩
    refine ⟨_, rfl, by show 12 ≤ sizeLine; decide, fun l nl => ?_⟩
    have sm1 := same_new (o := .lst (steps26.map V.int)) nl
    refine ⟨d, c, l, _, t1, rfl, pen1.same sm1, SqL.of upd_same, (pen1.new nl).1, by show 0 < 12; decide, by show 12 < _; decide, by omega, fun H2 v t2 but2 pen2 ht2 hv => ?_⟩
    obtain ⟨st, hst, rfl⟩ : ∃ st ∈ steps26, v = .int st := by
      have hv' : v ∈ steps26.map V.int := hv
      obtain ⟨st, h1, h2⟩ := List.mem_map.mp hv'
      exact ⟨st, h1, h2.symm⟩
    refine ⟨by show 2 ≤ sizeLine; decide, fun tp ntp => ?_⟩
    have sm2 := same_new (o := .tup [.int b, .int st]) ntp
    refine ⟨tp, [.int b, .int st], rfl, SqT.of upd_same, rfl, _, _, rfl, _, _, rfl, rfl, ?_⟩
    have pen3 := pen2.same sm2
    have but3 : But d H (upd H2 tp (.tup [.int b, .int st])) := ((but1.trans (But.same sm1)).trans but2).trans (But.same sm2)
    generalize upd H2 tp (.tup [.int b, .int st]) = H3 at *
    refine ⟨_, rfl, n, rfl, by omega, by omega, fun D nD => ?_⟩
    have nDp := pen3.new nD
    refine lc_range (lo := 0) (n := n) (fun i H' => But d H3 H' ∧ Pen H' d c t2 ∧ H' D = some (.lst ((List.range i).map fun k => sg (nm b st k)))) ?_ ?_ ?_
    · exact ⟨But.same (same_new nD), pen3.same (same_new nD), upd_same⟩
    · rintro i H' hi ⟨bt, pn, hD⟩
      refine ⟨rfl, _, rfl, _, rfl, _, rfl, _, rfl, st, _, rfl, rfl, ?_, _, _, rfl, rfl, _, 26, rfl, rfl, (by show (26 : Int) ≠ 0; decide), _, _, nm b st i, rfl, rfl, by decide, ?_, _, hD, ?_, ?_⟩
      · exact .inr ⟨by omega, by omega⟩
      · rw [Int.zero_add]
        exact lett_ix (mod_in (by decide)).1 (mod_in (by decide)).2
      · exact small1000 (by rw [List.length_map, List.length_range]; omega)
      · exact ⟨bt.put nD, pn.upd nDp.1 nDp.2, by rw [upd_same, take_range_snoc]⟩
    · rintro H' ⟨bt, pn, hD⟩
      refine q H' D ((List.range n).map (nm b st)) t2 (but3.trans bt) pn (by omega) (but3.none nD nDp.1) nDp.1 ?_ ?_ (nm_nodup hst hn) ?_
      · rw [hD, List.map_map]
        rfl
      · simp
      · intro x hx
        obtain ⟨k, _, rfl⟩ := List.mem_map.mp hx
        exact nm_low b st k
end
end Mo

namespace Mo
open PySem PySem.Spec PyProof.Rows L2
section
variable {P : Program} {w : World} {K : PySem.W.Frag} {mg : Str → Option Value} {base : Heap}
/-- nested: letters of names alone, at least one if there is a name -/
def spNested (K : PySem.W.Frag) : Sp := fun vs H Q _ => ∃ (l : Addr) (cs : List Nat), vs = [.ref l] ∧ SqL K H l (cs.map sg) ∧ cs.length ≤ 12 ∧
  ∀ zs : List Nat, (∀ c ∈ zs, c ∈ cs) → zs.length + 1 = 2 ^ cs.length → Q (.str (tx zs)) H
theorem ok_nested {k : Nat} (T : Txt K mg) : FnOk P w K mg base CX0 (k + 1) T.aLNested T.dLNested ["_law_names_here"] (spNested K) := by
  refine T.fLNested.ok scLNested (fun vs H Q E h => ?_) (fun cdv A outer s H vs Q E hr h => ?_)
  · obtain ⟨l, cs, rfl, _⟩ := h
    rfl
  · obtain ⟨l, cs, rfl, hl, hn, q⟩ := h
    refine ⟨_, (pss_cons (ps_set (i := 1) scLNested.nd rfl (Or.inl rfl) pe_str)
      (pss_cons (ps_for PassesOwn.never rfl (pi_list (pv 0)) (pg_name (i := 2) scLNested.nd rfl (Or.inl rfl)) (pss_one (ps_set (i := 1) scLNested.nd rfl (Or.inl rfl) (pe_op op_add_str (pe_op op_add_str (pv 1) (pv 2)) (pv 1)))))
      (pss_one (ps_ret (pv 1))))), ?_⟩
    have hp : ∀ i, i ≤ cs.length → 2 ^ i ≤ 4096 := fun i hi => Nat.le_trans (Nat.pow_le_pow_right (by decide) (Nat.le_trans hi hn)) (by decide)
    refine ⟨_, rfl, l, rfl, ⟨_, hl⟩, for_list (xs := cs.map sg) (fun i σ H' => ∃ (zs : List Nat) (o : Option V), σ = [some (.ref l), some (.str (tx zs)), o] ∧ H' = H ∧ (∀ c ∈ zs, c ∈ cs) ∧ zs.length + 1 = 2 ^ i) ?_ ?_ ?_ ?_⟩
    · exact ⟨[], none, by rw [← tx_nil]; rfl, rfl, by simp, rfl⟩
    · rintro i σ H' _ ⟨zs, o, rfl, rfl, _⟩
      exact hl
    · rintro i x σ H' hx ⟨zs, o, rfl, rfl, hz, hlen⟩
      obtain ⟨c, hc, rfl⟩ : ∃ c, cs[i]? = some c ∧ x = sg c := by
        rw [List.getElem?_map] at hx
        cases e : cs[i]? with
        | none => rw [e] at hx; cases hx
        | some c => rw [e] at hx; exact ⟨c, rfl, (Option.some.inj hx).symm⟩
      have hi : i < cs.length := (List.getElem?_eq_some_iff.mp hc).1
      have b1 := hp (i + 1) hi
      have e1 : 2 ^ (i + 1) = 2 * 2 ^ i := by rw [Nat.pow_succ]; omega
      refine ⟨_, rfl, _, rfl, tx zs, ⟨#[c]⟩, rfl, rfl, ?_, _, rfl, _, tx zs, rfl, rfl, ?_, ?_⟩
      · exact fits5 (by rw [tx_len]; show zs.length + 1 ≤ _; omega)
      · rw [tx_app1]
        exact fits5 (by rw [tx_len, tx_len, List.length_append, List.length_singleton]; omega)
      · rw [tx_app1, tx_app]
        refine ⟨zs ++ [c] ++ zs, _, rfl, rfl, fun x hx => ?_, ?_⟩
        · rcases List.mem_append.mp hx with hx | hx
          · rcases List.mem_append.mp hx with hx | hx
            · exact hz x hx
            · rw [List.mem_singleton.mp hx]
              exact List.mem_of_getElem? hc
          · exact hz x hx
        · rw [List.length_append, List.length_append, List.length_singleton]
          omega
    · rintro σ H' ⟨zs, o, rfl, rfl, hz, hlen⟩
      rw [List.length_map] at hlen
      exact ⟨_, rfl, q zs hz hlen⟩
end
end Mo

namespace Mo
open PySem PySem.Spec PyProof.Rows L2
section
variable {P : Program} {w : World} {K : PySem.W.Frag} {mg : Str → Option Value} {base : Heap}
theorem nodup_sub_len : ∀ (a b : List Nat), a.Nodup → (∀ x ∈ a, x ∈ b) → a.length ≤ b.length
  | [], b, _, _ => Nat.zero_le _
  | x :: a, b, hn, hs => by
    have hx : x ∈ b := hs x List.mem_cons_self
    have hn2 := List.nodup_cons.mp hn
    have ih := nodup_sub_len a (b.erase x) hn2.2 fun y hy => by
      have ne : y ≠ x := fun e => hn2.1 (e ▸ hy)
      exact (List.mem_erase_of_ne ne).mpr (hs y (List.mem_cons_of_mem _ hy))
    rw [List.length_erase_of_mem hx] at ih
    have := List.length_pos_of_mem hx
    rw [List.length_cons]
    omega
theorem met_sub_len {zs cs : List Nat} (h : ∀ x ∈ zs, x ∈ cs) : (met zs).length ≤ cs.length := nodup_sub_len _ _ (met_nodup zs) fun x hx => h x (mem_met.mp hx)
theorem cut_tx (zs : List Nat) (lo hi : Option Int) : cutS (tx zs) lo hi = tx ((zs.drop (HT.sIx zs.length 0 lo)).take (HT.sIx zs.length zs.length hi - HT.sIx zs.length 0 lo)) := by
  unfold cutS
  rw [tx_len]
  rfl
theorem signs_map (zs : List Nat) : zs.map sg = (zs.map fun c => (⟨#[c]⟩ : Str)).map V.str := by rw [List.map_map]; rfl
theorem signs_room {zs : List Nat} (h : zs.length ≤ 100000) : ((zs.map fun c => (⟨#[c]⟩ : Str)).map (·.length)).sum + (zs.map fun c => (⟨#[c]⟩ : Str)).length * (Str.ofString "").length ≤ 16777216 := by
  have e : ((zs.map fun c => (⟨#[c]⟩ : Str)).map (·.length)) = zs.map fun _ => 1 := by
    rw [List.map_map]
    rfl
  have e2 : ∀ l : List Nat, (l.map fun _ => 1).sum = l.length := by
    intro l
    induction l with
    | nil => rfl
    | cons x l ih => simp [ih]; omega
  have e3 : (Str.ofString "").length = 0 := by decide
  rw [e, e2, e3]
  omega
/-- pattern: at most size letters, at most count different ones, all of them small -/
def spPattern : Sp := fun vs H Q _ => ∃ (d c : Addr) (size count t : Nat), vs = [.ref d, .int size, .int count] ∧ Pen H d c t ∧ size ≤ 42 ∧ 0 < count ∧ count ≤ 10 ∧ t < 1000000 ∧
  ∀ H' zs t', But d H H' → Pen H' d c t' → t' ≤ t + 60 → zs.length ≤ size → Low zs → (met zs).length ≤ count → Q (.str (tx zs)) H'
theorem ok_pattern {k : Nat} (T : Txt K mg) : FnOk P w K mg base CX0 (k + 4) T.aLPattern T.dLPattern ["_law_pen_here", "_law_size", "_law_count"] spPattern := by
  have GLDraw : FnOk P w K mg base CX0 (k + 3) T.aLDraw T.dLDraw ["_law_pen_here", "_law_size"] spDraw := ok_draw T
  have GLPick : FnOk P w K mg base CX0 (k + 3) T.aLPick T.dLPick ["_law_pen_here", "_law_options"] (spPick K) := ok_pick T
  have GLNames : FnOk P w K mg base CX0 (k + 3) T.aLNames T.dLNames ["_law_pen_here", "_law_count"] spNames := ok_names T
  have GLNested : FnOk P w K mg base CX0 (k + 3) T.aLNested T.dLNested ["_law_names_here"] (spNested K) := ok_nested T
  refine T.fLPattern.ok scLPattern (fun vs H Q E h => ?_) (fun cdv A outer s H vs Q E hr h => ?_)
  · obtain ⟨d, c, size, count, t, rfl, _⟩ := h
    rfl
  · obtain ⟨d, c, size, count, t, rfl, pen, hsz, hc0, hc1, ht, q⟩ := h
    refine ⟨_, (pss_cons (ps_asg (pe_tup (pa_cons (pe_call GLNames hr (by rfl) T.gLNames T.fLNames.kp T.bLNames .nil pass0 (pa_cons (pv 0) (pa_cons (pe_op op_add pe_int (pe_call GLDraw hr (by rfl) T.gLDraw T.fLDraw.kp T.bLDraw .nil pass0 (pa_cons (pv 0) (pa_cons (pv 2) pa_nil)))) pa_nil))) (pa_cons (pe_call GLDraw hr (by rfl) T.gLDraw T.fLDraw.kp T.bLDraw .nil pass0 (pa_cons (pv 0) (pa_cons pe_int pa_nil))) pa_nil))) (pg_tup (by rfl) (pgs_cons (pg_name (i := 3) scLPattern.nd rfl (Or.inr rfl)) (pgs_cons (pg_name (i := 4) scLPattern.nd rfl (Or.inl rfl)) pgs_nil))))
      (pss_cons (ps_set (i := 5) scLPattern.nd rfl (Or.inl rfl) (pe_call GLDraw hr (by rfl) T.gLDraw T.fLDraw.kp T.bLDraw .nil pass0 (pa_cons (pv 0) (pa_cons (pe_op op_add (pv 1) pe_int) pa_nil))))
      (pss_cons (ps_if (pt_cmpR op_eq (pv 4) pe_int (nomark _)) (pss_one (ps_ret (pe_join pe_str (pe_lc (own := [("_law_k", 6)]) (g := gName 6) (tt := tYes) rfl scLPattern.nd (pi_range1 (by rfl) T.m_range (pa_cons (pv 5) pa_nil)) (blkOk_by (N := ["_law_pen_here", "_law_size", "_law_count", "_law_names_here", "_law_way", "_law_many", "_law_k", "_law_word", "_law_at", "_law_half"]) (sc := defScope sLPattern) (by decide +kernel)) (fun _ _ _ _ _ => pg_name (i := 6) scLPattern.nd rfl (Or.inl rfl)) (fun _ _ _ _ _ => pts_nil) (fun _ _ _ _ _ => (pe_call GLPick hr (by rfl) T.gLPick T.fLPick.kp T.bLPick .nil pass0 (pa_cons (pv 0) (pa_cons (pv 3) pa_nil)))))))) pss_nil)
      (pss_cons (ps_if (pt_cmpR op_lt (pv 4) pe_int (nomark _)) (pss_cons (ps_set (i := 7) scLPattern.nd rfl (Or.inl rfl) (pe_call GLNested hr (by rfl) T.gLNested T.fLNested.kp T.bLNested .nil pass0 (pa_cons (pv 3) pa_nil)))
      (pss_cons (ps_set (i := 8) scLPattern.nd rfl (Or.inl rfl) (pe_call GLDraw hr (by rfl) T.gLDraw T.fLDraw.kp T.bLDraw .nil pass0 (pa_cons (pv 0) (pa_cons (pe_callB call_len_str (by rfl) T.m_len PySem.boot_len (pa_cons (pv 7) pa_nil)) pa_nil))))
      (pss_one (ps_ret (pe_slice sl_str (pv 7) (po_some (pv 8)) (po_some (pe_op op_add (pv 8) (pv 5)))))))) pss_nil)
      (pss_cons (ps_if (pt_cmpR op_eq (pv 4) pe_int (nomark _)) (pss_one (ps_ret (pe_join pe_str (pe_lc (own := [("_law_k", 6)]) (g := gName 6) (tt := tYes) rfl scLPattern.nd (pi_range1 (by rfl) T.m_range (pa_cons (pv 5) pa_nil)) (blkOk_by (N := ["_law_pen_here", "_law_size", "_law_count", "_law_names_here", "_law_way", "_law_many", "_law_k", "_law_word", "_law_at", "_law_half"]) (sc := defScope sLPattern) (by decide +kernel)) (fun _ _ _ _ _ => pg_name (i := 6) scLPattern.nd rfl (Or.inl rfl)) (fun _ _ _ _ _ => pts_nil) (fun _ _ _ _ _ => (pe_ix (Mo.ix_listK (K := K) rfl) (pv 3) (pe_op op_modN (pv 6) (pe_callB (Mo.call_len_seqK (K := K) rfl) (by rfl) T.m_len PySem.boot_len (pa_cons (pv 3) pa_nil))) (fun _ _ => rfl))))))) pss_nil)
      (pss_cons (ps_set (i := 9) scLPattern.nd rfl (Or.inl rfl) (pe_join pe_str (pe_lc (own := [("_law_k", 6)]) (g := gName 6) (tt := tYes) rfl scLPattern.nd (pi_range1 (by rfl) T.m_range (pa_cons (pe_op op_fdivN (pv 5) pe_int) pa_nil)) (blkOk_by (N := ["_law_pen_here", "_law_size", "_law_count", "_law_names_here", "_law_way", "_law_many", "_law_k", "_law_word", "_law_at", "_law_half"]) (sc := defScope sLPattern) (by decide +kernel)) (fun _ _ _ _ _ => pg_name (i := 6) scLPattern.nd rfl (Or.inl rfl)) (fun _ _ _ _ _ => pts_nil) (fun _ _ _ _ _ => (pe_call GLPick hr (by rfl) T.gLPick T.fLPick.kp T.bLPick .nil pass0 (pa_cons (pv 0) (pa_cons (pv 3) pa_nil)))))))
      (pss_one (ps_ret (pe_slice sl_str (pe_call GLPick hr (by rfl) T.gLPick T.fLPick.kp T.bLPick .nil pass0 (pa_cons (pv 0) (pa_cons (pe_lst (pa_cons (pe_op op_add_str (pv 9) (pv 9)) (pa_cons (pe_op op_add_str (pv 9) (pe_revS (pv 9))) (pa_cons (pe_op op_add_str (pv 9) (pe_ix ix_list (pv 3) pe_int (fun _ _ => rfl))) pa_nil)))) pa_nil))) po_none (po_some (pv 1))))))))))), ?_⟩
    -- names, way
    refine ⟨_, rfl, _, rfl, _, rfl, d, c, count, t, rfl, pen, by omega, by omega, by omega, fun H1 k1 t1 but1 pen1 ht1 k0 k2 => ?_⟩
    obtain ⟨j, rfl⟩ := nat_of k0
    refine ⟨1, j, rfl, rfl, d, c, 1 + j, t1, rfl, pen1, by omega, by omega, fun H2 l cs t2 but2 pen2 ht2 hnl nld hl hlen hnd low => ?_⟩
    refine ⟨_, rfl, d, c, 5, t2, rfl, pen2, by decide, by decide, by omega, fun H3 way t3 but3 pen3 ht3 w0 w1 => ?_⟩
    refine ⟨by show 2 ≤ sizeLine; decide, fun tp ntp => ?_⟩
    have sm3 := same_new (o := .tup [.ref l, .int way]) ntp
    refine ⟨tp, [.ref l, .int way], rfl, SqT.of upd_same, rfl, _, _, rfl, _, _, rfl, rfl, ?_⟩
    have hl3 := sm3 _ _ (but3 _ _ nld hl)
    have pen4 := pen3.same sm3
    have but4 : But d H (upd H3 tp (.tup [.ref l, .int way])) := ((but1.trans but2).trans but3).trans (But.same sm3)
    generalize upd H3 tp (.tup [.ref l, .int way]) = H4 at *
    -- many
    refine ⟨_, rfl, _, rfl, size, 1, rfl, rfl, d, c, _, t3, rfl, pen4, by omega, by omega, by omega, fun H5 many t5 but5 pen5 ht5 m0 m1 => ?_⟩
    obtain ⟨m, rfl⟩ := nat_of m0
    have hl5 := but5 _ _ nld hl3
    have but6 := but4.trans but5
    have hlen0 : 0 < cs.length := by omega
    clear but1 but2 but3 but4 but5 pen pen1 pen2 pen3 pen4 hl hl3 sm3
    have fin : ∀ (H' : Hp) (zs : List Nat) (t' : Nat), But d H5 H' → Pen H' d c t' → t' ≤ t5 + 50 → zs.length ≤ size → (∀ x ∈ zs, x ∈ cs) → Q (.str (tx zs)) H' := fun H' zs t' b p h1 h2 h3 =>
      q H' zs t' (but6.trans b) p (by omega) h2 (fun x hx => low x (h3 x hx)) (Nat.le_trans (met_sub_len h3) (by omega))
    -- the step of a list of picks
    have pk : ∀ (D : Addr) (i : Nat) (H' : Hp), H5 D = none → i < m → (∃ (zs : List Nat) (t' : Nat), But d H5 H' ∧ Pen H' d c t' ∧ t' ≤ t5 + i ∧ zs.length = i ∧ (∀ x ∈ zs, x ∈ cs) ∧ H' D = some (.lst (zs.map sg))) →
        ∀ (W : V → Hp → Prop), (∀ (H2 : Hp) (v : V) (acc : List V), H2 D = some (.lst acc) → acc.length < sizeLine → (∃ (zs : List Nat) (t' : Nat), But d H5 (upd H2 D (.lst (acc ++ [v]))) ∧ Pen (upd H2 D (.lst (acc ++ [v]))) d c t' ∧ t' ≤ t5 + (i + 1) ∧ zs.length = i + 1 ∧ (∀ x ∈ zs, x ∈ cs) ∧ (upd H2 D (.lst (acc ++ [v]))) D = some (.lst (zs.map sg))) → W v H2) →
        ∀ E' : XK, spPick K [.ref d, .ref l] H' W E' := by
      rintro D i H' nD hi ⟨zs, t', bt, pn, ht', hz, hs, hD⟩ W hW E'
      have nDp := pen5.new nD
      refine ⟨d, c, l, cs.map sg, t', rfl, pn, SqL.of (bt _ _ nld hl5), nld, by rw [List.length_map]; exact hlen0, by rw [List.length_map]; omega, by omega, fun H2 v t2 b2 p2 h2 hv => ?_⟩
      obtain ⟨x, hx, rfl⟩ := List.mem_map.mp hv
      refine hW H2 _ _ (b2 _ _ nDp.1 hD) (fitsLt (by rw [List.length_map]; omega)) ⟨zs ++ [x], t2, (bt.trans b2).put nD, p2.upd nDp.1 nDp.2, by omega, by rw [List.length_append, hz]; rfl, fun y hy => ?_, by rw [upd_same, List.map_append]; rfl⟩
      rcases List.mem_append.mp hy with hy | hy
      · exact hs y hy
      · rw [List.mem_singleton.mp hy]
        exact hx
    refine ⟨_, rfl, rfl, _, rfl, ite2 (fun e => ?_) (fun e => ?_)⟩
    · refine ⟨⟨_, rfl⟩, _, rfl, m, rfl, by omega, by omega, fun D nD => lc_range (lo := 0) (n := m) (fun i H' => ∃ (zs : List Nat) (t' : Nat), But d H5 H' ∧ Pen H' d c t' ∧ t' ≤ t5 + i ∧ zs.length = i ∧ (∀ x ∈ zs, x ∈ cs) ∧ H' D = some (.lst (zs.map sg))) ?_ ?_ ?_⟩
      · exact ⟨[], t5, But.same (same_new nD), pen5.same (same_new nD), by omega, rfl, by simp, upd_same⟩
      · intro i H' hi p
        exact ⟨rfl, _, rfl, _, rfl, pk D i H' nD hi p _ (fun H2 v acc hacc hsz hp => ⟨acc, hacc, hsz, hp⟩) E⟩
      · rintro H' ⟨zs, t', bt, pn, ht', hz, hs, hD⟩
        refine ⟨_, D, zs.map fun c => (⟨#[c]⟩ : Str), rfl, rfl, .inl (SqL.of (by rw [← signs_map]; exact hD)), signs_room (by omega), ?_⟩
        rw [join_signs]
        exact fin H' zs t' bt pn (by omega) (by omega) hs
    refine ⟨_, rfl, _, _, rfl, rfl, _, rfl, ite2 (fun e1 => ?_) (fun e1 => ?_)⟩
    · refine ⟨_, rfl, l, cs, rfl, SqL.of hl5, by omega, fun zs hz hzl => ?_⟩
      have hzp : 0 < zs.length := by
        have h1 : 2 ^ 1 ≤ 2 ^ cs.length := Nat.pow_le_pow_right (by decide) hlen0
        omega
      have hzm : zs.length ≤ 4096 := by
        have h1 : 2 ^ cs.length ≤ 2 ^ 12 := Nat.pow_le_pow_right (by decide) (by omega)
        omega
      refine ⟨_, rfl, _, rfl, _, rfl, fits5 (by rw [tx_len]; omega), d, c, _, t5, rfl, pen5, by rw [tx_len]; omega, by rw [tx_len]; omega, by omega, fun H6 a t6 but7 pen6 ht6 a0 a1 => ?_⟩
      rw [tx_len] at a1
      obtain ⟨a, rfl⟩ := nat_of a0
      refine ⟨_, rfl, _, rfl, _, rfl, _, rfl, _, rfl, _, _, rfl, rfl, _, rfl, _, rfl, fits5 (by rw [tx_len]; omega), ?_⟩
      rw [show (a : Int) + (m : Int) = ((a + m : Nat) : Int) by omega, cut_tx, HT.sIx_nat, HT.sIx_nat]
      refine fin H6 _ t6 but7 pen6 (by omega) (by rw [List.length_take, List.length_drop]; omega) fun x hx => hz x (List.mem_of_mem_drop (List.mem_of_mem_take hx))
    refine ⟨_, rfl, rfl, _, rfl, ite2 (fun e2 => ?_) (fun e2 => ?_)⟩
    · refine ⟨⟨_, rfl⟩, _, rfl, m, rfl, by omega, by omega, fun D nD => lc_range (lo := 0) (n := m) (fun i H' => ∃ (zs : List Nat) (t' : Nat), But d H5 H' ∧ Pen H' d c t' ∧ t' ≤ t5 + i ∧ zs.length = i ∧ (∀ x ∈ zs, x ∈ cs) ∧ H' D = some (.lst (zs.map sg))) ?_ ?_ ?_⟩
      · exact ⟨[], t5, But.same (same_new nD), pen5.same (same_new nD), by omega, rfl, by simp, upd_same⟩
      · rintro i H' hi ⟨zs, t', bt, pn, ht', hz, hs, hD⟩
        have nDp := pen5.new nD
        have hl6 := SqL.of (K := K) (bt _ _ nld hl5)
        obtain ⟨j, hj⟩ := nat_of (mod_in (a := 0 + (i : Int)) (b := ((cs.map sg).length : Int)) (by rw [List.length_map]; omega)).1
        have hj2 : j < cs.length := by
          have h2 := (mod_in (a := 0 + (i : Int)) (b := ((cs.map sg).length : Int)) (by rw [List.length_map]; omega)).2
          rw [hj, List.length_map] at h2
          omega
        refine ⟨rfl, _, rfl, _, rfl, _, rfl, l, _, rfl, .inl hl6, _, _, rfl, rfl, (by rw [List.length_map]; omega), l, cs.map sg, _, sg cs[j], rfl, rfl, hl6, ?_, _, hD, fitsLt (by rw [List.length_map]; omega), ?_⟩
        · rw [hj]
          exact atI_nat (by rw [List.getElem?_map, List.getElem?_eq_getElem hj2]; rfl)
        · refine ⟨zs ++ [cs[j]], t', bt.put nD, pn.upd nDp.1 nDp.2, by omega, by rw [List.length_append, hz]; rfl, fun y hy => ?_, by rw [upd_same, List.map_append]; rfl⟩
          rcases List.mem_append.mp hy with hy | hy
          · exact hs y hy
          · rw [List.mem_singleton.mp hy]
            exact List.getElem_mem hj2
      · rintro H' ⟨zs, t', bt, pn, ht', hz, hs, hD⟩
        refine ⟨_, D, zs.map fun c => (⟨#[c]⟩ : Str), rfl, rfl, .inl (SqL.of (by rw [← signs_map]; exact hD)), signs_room (by omega), ?_⟩
        rw [join_signs]
        exact fin H' zs t' bt pn (by omega) (by omega) hs
    -- half
    have hh : (m : Int).fdiv 2 = ((m / 2 : Nat) : Int) := by
      rw [Int.fdiv_eq_ediv_of_nonneg _ (by decide)]
      rfl
    refine ⟨⟨_, rfl⟩, _, rfl, m, 2, rfl, rfl, ⟨by decide, by decide⟩, ((m / 2 : Nat) : Int), by show [V.int ((m : Int).fdiv 2)] = _; rw [hh], by omega, by omega, fun D nD => lc_range (lo := 0) (n := m / 2) (fun i H' => ∃ (zs : List Nat) (t' : Nat), But d H5 H' ∧ Pen H' d c t' ∧ t' ≤ t5 + i ∧ zs.length = i ∧ (∀ x ∈ zs, x ∈ cs) ∧ H' D = some (.lst (zs.map sg))) ?_ ?_ ?_⟩
    · exact ⟨[], t5, But.same (same_new nD), pen5.same (same_new nD), by omega, rfl, by simp, upd_same⟩
    · intro i H' hi p
      exact ⟨rfl, _, rfl, _, rfl, pk D i H' nD (by omega) p _ (fun H2 v acc hacc hsz hp => ⟨acc, hacc, hsz, hp⟩) E⟩
    · rintro H6 ⟨zs, t6, bt, pn, ht', hz, hs, hD⟩
      refine ⟨_, D, zs.map fun c => (⟨#[c]⟩ : Str), rfl, rfl, .inl (SqL.of (by rw [← signs_map]; exact hD)), signs_room (by omega), ?_⟩
      rw [join_signs]
      have hl6 := SqL.of (K := K) (bt _ _ nld hl5)
      have e0 : (cs.map sg)[0]? = some (sg cs[0]) := by rw [List.getElem?_map, List.getElem?_eq_getElem hlen0]; rfl
      refine ⟨_, rfl, _, rfl, _, rfl, tx zs, tx zs, rfl, rfl, fits5 (by rw [tx_len]; omega), ?_⟩
      rw [tx_app]
      have er : revS (tx zs) = tx zs.reverse := rfl
      refine ⟨_, rfl, _, rfl, tx zs, rfl, fits5 (by rw [tx_len]; omega), tx zs, _, rfl, rfl, by rw [er]; exact fits5 (by rw [tx_len, tx_len, List.length_reverse]; omega), ?_⟩
      rw [er, tx_app]
      refine ⟨_, rfl, _, rfl, l, cs.map sg, _, sg cs[0], rfl, rfl, hl6, atI_nat (j := 0) e0, tx zs, ⟨#[cs[0]]⟩, rfl, rfl, fits5 (by rw [tx_len]; show zs.length + 1 ≤ _; omega), ?_⟩
      rw [tx_app1]
      refine ⟨by show 3 ≤ sizeLine; decide, fun p np => ?_⟩
      have sm := same_new (o := .lst [.str (tx (zs ++ zs)), .str (tx (zs ++ zs.reverse)), .str (tx (zs ++ [cs[0]]))]) np
      refine ⟨d, c, p, _, t6, rfl, pn.same sm, SqL.of upd_same, (pn.new np).1, by show 0 < 3; decide, by show 3 < _; decide, by omega, fun H7 v t7 b7 p7 h7 hv => ?_⟩
      obtain ⟨ys, rfl, hy, hyl⟩ : ∃ ys, v = .str (tx ys) ∧ (∀ x ∈ ys, x ∈ cs) ∧ ys.length ≤ 100 := by
        have hr : ∀ x ∈ zs.reverse, x ∈ cs := fun x hx => hs x (List.mem_reverse.mp hx)
        have h0 : ∀ x ∈ [cs[0]], x ∈ cs := fun x hx => by rw [List.mem_singleton.mp hx]; exact List.getElem_mem hlen0
        simp only [List.mem_cons, List.not_mem_nil, or_false] at hv
        rcases hv with rfl | rfl | rfl
        · exact ⟨_, rfl, fun x hx => (List.mem_append.mp hx).elim (hs x) (hs x), by rw [List.length_append]; omega⟩
        · exact ⟨_, rfl, fun x hx => (List.mem_append.mp hx).elim (hs x) (hr x), by rw [List.length_append, List.length_reverse]; omega⟩
        · exact ⟨_, rfl, fun x hx => (List.mem_append.mp hx).elim (hs x) (h0 x), by rw [List.length_append, List.length_singleton]; omega⟩
      refine ⟨_, rfl, _, rfl, _, rfl, fits5 (by rw [tx_len]; omega), ?_⟩
      rw [cut_tx, HT.sIx_nat, HT.sIx_none]
      exact fin H7 _ t7 (bt.trans ((But.same sm).trans b7)) p7 (by omega) (by rw [List.length_take, List.length_drop]; omega) fun x hx => hy x (List.mem_of_mem_drop (List.mem_of_mem_take hx))
end
end Mo

namespace Mo
open PySem PySem.Spec PyProof.Rows L2
section
variable {P : Program} {w : World} {K : PySem.W.Frag} {mg : Str → Option Value} {base : Heap}
/-! ### kinds of data -/
def isIntD : PyData → Bool
  | .int _ | .bool _ => true
  | _ => false
def isBoolD : PyData → Bool
  | .bool _ => true
  | _ => false
def isStrD : PyData → Bool
  | .str _ => true
  | _ => false
def isTupD : PyData → Bool
  | .tuple _ => true
  | _ => false
theorem kit_int : ∀ d : PyData, kitB (tyD d) "int" = some (isIntD d)
  | .none => by show kitB "NoneType" "int" = some false; decide +kernel
  | .bool _ => by show kitB "bool" "int" = some true; decide +kernel
  | .int _ => by show kitB "int" "int" = some true; decide +kernel
  | .str _ => by show kitB "str" "int" = some false; decide +kernel
  | .list _ => by show kitB "list" "int" = some false; decide +kernel
  | .tuple _ => by show kitB "tuple" "int" = some false; decide +kernel
  | .dict _ => by show kitB "dict" "int" = some false; decide +kernel
theorem kit_bool : ∀ d : PyData, kitB (tyD d) "bool" = some (isBoolD d)
  | .none => by show kitB "NoneType" "bool" = some false; decide +kernel
  | .bool _ => by show kitB "bool" "bool" = some true; decide +kernel
  | .int _ => by show kitB "int" "bool" = some false; decide +kernel
  | .str _ => by show kitB "str" "bool" = some false; decide +kernel
  | .list _ => by show kitB "list" "bool" = some false; decide +kernel
  | .tuple _ => by show kitB "tuple" "bool" = some false; decide +kernel
  | .dict _ => by show kitB "dict" "bool" = some false; decide +kernel
theorem kit_str : ∀ d : PyData, kitB (tyD d) "str" = some (isStrD d)
  | .none => by show kitB "NoneType" "str" = some false; decide +kernel
  | .bool _ => by show kitB "bool" "str" = some false; decide +kernel
  | .int _ => by show kitB "int" "str" = some false; decide +kernel
  | .str _ => by show kitB "str" "str" = some true; decide +kernel
  | .list _ => by show kitB "list" "str" = some false; decide +kernel
  | .tuple _ => by show kitB "tuple" "str" = some false; decide +kernel
  | .dict _ => by show kitB "dict" "str" = some false; decide +kernel
theorem kit_tup : ∀ d : PyData, kitB (tyD d) "tuple" = some (isTupD d)
  | .none => by show kitB "NoneType" "tuple" = some false; decide +kernel
  | .bool _ => by show kitB "bool" "tuple" = some false; decide +kernel
  | .int _ => by show kitB "int" "tuple" = some false; decide +kernel
  | .str _ => by show kitB "str" "tuple" = some false; decide +kernel
  | .list _ => by show kitB "list" "tuple" = some false; decide +kernel
  | .tuple _ => by show kitB "tuple" "tuple" = some true; decide +kernel
  | .dict _ => by show kitB "dict" "tuple" = some false; decide +kernel
def plainD (d : PyData) : Bool := isIntD d && !isBoolD d
/-- a question about data -/
def spAsk (f : PyData → Bool) : Sp := fun vs H Q _ => ∃ (N : Addr → Prop) (x : V) (d : PyData), vs = [x] ∧ Dx N H x d ∧ d.bulk ≤ 1000000 ∧ ∀ H', Same H H' → Q (.bl (f d)) H'
theorem ok_plain {k : Nat} (T : Txt K mg) : FnOk P w K mg base CX0 (k + 1) T.aIsPlainInteger T.dIsPlainInteger ["value"] (spAsk plainD) := by
  refine T.fIsPlainInteger.ok scIsPlainInteger (fun vs H Q E h => ?_) (fun cdv A outer s H vs Q E hr h => ?_)
  · obtain ⟨_, _, _, rfl, _⟩ := h
    rfl
  · obtain ⟨N, x, d, rfl, hd, _, q⟩ := h
    refine ⟨_, (pss_one (ps_ret (pe_and (pe_callB call_isi (by rfl) T.m_isinstance (by decide +kernel) (pa_cons (pv 0) (pa_cons (pe_bltn (v := .ty "int") (by rfl) T.m_int (by decide +kernel) rfl) pa_nil))) (pe_one (pe_not (pe_callB call_isi (by rfl) T.m_isinstance (by decide +kernel) (pa_cons (pv 0) (pa_cons (pe_bltn (v := .ty "bool") (by rfl) T.m_bool (by decide +kernel) rfl) pa_nil)))))))), ?_⟩
    have ty := hd.ty (K := K)
    have q0 := q H (Same.refl H)
    unfold plainD at q0
    refine ⟨_, rfl, _, _, .type (tyD d), .type "int", isIntD d, rfl, .ty "int", ty, kit_ty (kit_int d), isIntD d, rfl, ?_⟩
    cases e : isIntD d with
    | false => rw [e] at q0; exact q0
    | true =>
      rw [e] at q0
      exact ⟨_, rfl, _, _, .type (tyD d), .type "bool", isBoolD d, rfl, .ty "bool", ty, kit_ty (kit_bool d), isBoolD d, rfl, q0⟩
theorem plain_int : ∀ {N : Addr → Prop} {H : Hp} {x : V} {d : PyData}, Dx N H x d → plainD d = true → ∃ i : Int, x = .int i ∧ d = .int i := by
  intro N H x d h e
  cases h with
  | int i => exact ⟨i, rfl, rfl⟩
  | _ => exact absurd (show false = true from e) (by decide)
theorem ok_letter {k : Nat} (T : Txt K mg) : FnOk P w K mg base CX0 (k + 2) T.aIsLetter T.dIsLetter ["value"] (spAsk letterD) := by
  have GIsPlainInteger : FnOk P w K mg base CX0 (k + 1) T.aIsPlainInteger T.dIsPlainInteger ["value"] (spAsk plainD) := ok_plain T
  refine T.fIsLetter.ok scIsLetter (fun vs H Q E h => ?_) (fun cdv A outer s H vs Q E hr h => ?_)
  · obtain ⟨_, _, _, rfl, _⟩ := h
    rfl
  · obtain ⟨N, x, d, rfl, hd, hb, q⟩ := h
    refine ⟨_, (pss_one (ps_ret (pe_and (pe_call GIsPlainInteger hr (by rfl) T.gIsPlainInteger T.fIsPlainInteger.kp T.bIsPlainInteger .nil pass0 (pa_cons (pv 0) pa_nil)) (pe_one (pe_chain op_le op_le pe_int (pv 0) (pe_glob (v := .int 999999) rfl T.m_GREATEST_LETTER ⟨_, rfl⟩)))))), ?_⟩
    refine ⟨_, rfl, N, x, d, rfl, hd, hb, fun H1 s1 => ?_⟩
    have q0 := q H1 s1
    cases e : plainD d with
    | false =>
      refine ⟨false, rfl, ?_⟩
      have z : letterD d = false := by
        cases hd <;> first | rfl | exact absurd (show true = false from e) (by decide)
      rw [z] at q0
      exact q0
    | true =>
      obtain ⟨i, rfl, rfl⟩ := plain_int hd e
      refine ⟨true, rfl, iteT ⟨_, rfl, 0, i, rfl, rfl, decide (0 ≤ i), rfl, ?_⟩⟩
      have z : letterD (.int i) = (decide (0 ≤ i) && decide (i ≤ 999999)) := rfl
      rw [z] at q0
      cases e0 : decide (0 ≤ i) with
      | false => rw [e0] at q0; exact q0
      | true => rw [e0] at q0; exact ⟨i, 999999, rfl, rfl, q0⟩
theorem ok_lletter {k : Nat} (T : Txt K mg) : FnOk P w K mg base CX0 (k + 1) T.aLIsLetter T.dLIsLetter ["_law_value"] (spAsk letterD) := by
  refine T.fLIsLetter.ok scLIsLetter (fun vs H Q E h => ?_) (fun cdv A outer s H vs Q E hr h => ?_)
  · obtain ⟨_, _, _, rfl, _⟩ := h
    rfl
  · obtain ⟨N, x, d, rfl, hd, _, q⟩ := h
    refine ⟨_, (pss_one (ps_ret (pe_and (pe_callB call_isi (by rfl) T.m_isinstance (by decide +kernel) (pa_cons (pv 0) (pa_cons (pe_bltn (v := .ty "int") (by rfl) T.m_int (by decide +kernel) rfl) pa_nil))) (pe_and (pe_not (pe_callB call_isi (by rfl) T.m_isinstance (by decide +kernel) (pa_cons (pv 0) (pa_cons (pe_bltn (v := .ty "bool") (by rfl) T.m_bool (by decide +kernel) rfl) pa_nil)))) (pe_one (pe_chain op_le op_le pe_int (pv 0) pe_int)))))), ?_⟩
    have ty := hd.ty (K := K)
    have q0 := q H (Same.refl H)
    refine ⟨_, rfl, _, _, .type (tyD d), .type "int", isIntD d, rfl, .ty "int", ty, kit_ty (kit_int d), isIntD d, rfl, ?_⟩
    cases e : isIntD d with
    | false =>
      have z : letterD d = false := by
        cases hd <;> first | rfl | exact absurd (show true = false from e) (by decide)
      rw [z] at q0
      exact q0
    | true =>
      refine iteT ⟨_, rfl, _, _, .type (tyD d), .type "bool", isBoolD d, rfl, .ty "bool", ty, kit_ty (kit_bool d), isBoolD d, rfl, !isBoolD d, rfl, ?_⟩
      cases e2 : isBoolD d with
      | true =>
        have z : letterD d = false := by
          cases hd <;> first | rfl | exact absurd (show false = true from e2) (by decide)
        rw [z] at q0
        exact q0
      | false =>
        obtain ⟨i, rfl, rfl⟩ := plain_int hd (by unfold plainD; rw [e, e2]; rfl)
        refine iteT ⟨_, rfl, 0, i, rfl, rfl, decide (0 ≤ i), rfl, ?_⟩
        have z : letterD (.int i) = (decide (0 ≤ i) && decide (i ≤ 999999)) := rfl
        rw [z] at q0
        cases e0 : decide (0 ≤ i) with
        | false => rw [e0] at q0; exact q0
        | true => rw [e0] at q0; exact ⟨i, 999999, rfl, rfl, q0⟩
theorem bulk_mem : ∀ {ds : List PyData} {d : PyData}, d ∈ ds → d.bulk ≤ PyData.bulkAll ds
  | x :: ds, d, h => by
    simp only [PyData.bulkAll]
    rcases List.mem_cons.mp h with rfl | h
    · omega
    · have := bulk_mem h
      omega
theorem bulk_len (a : List PyData) : a.length ≤ PyData.bulkAll a := by
  induction a with
  | nil => exact Nat.zero_le _
  | cons x a ih =>
    simp only [PyData.bulkAll, List.length_cons]
    omega
theorem tup_dx : ∀ {N : Addr → Prop} {H : Hp} {x : V} {d : PyData}, Dx N H x d → isTupD d = true → ∃ a xs ds, x = .ref a ∧ d = .tuple ds ∧ H a = some (.tup xs) ∧ ¬ N a ∧ DxAll N H xs ds := by
  intro N H x d h e
  cases h with
  | tup h n t => exact ⟨_, _, _, rfl, rfl, h, n, t⟩
  | _ => exact absurd (show false = true from e) (by decide)
theorem str_dx : ∀ {N : Addr → Prop} {H : Hp} {x : V} {d : PyData}, Dx N H x d → isStrD d = true → ∃ cs : List Nat, x = .str (tx cs) ∧ d = .str (tx cs) := by
  intro N H x d h e
  cases h with
  | str z => exact ⟨z.cps.toList, rfl, rfl⟩
  | _ => exact absurd (show false = true from e) (by decide)
theorem notTup {d : PyData} (h : isTupD d = false) : textD d = false := by
  cases d <;> first | rfl | exact absurd (show true = false from h) (by decide)
theorem ok_text {k : Nat} (T : Txt K mg) : FnOk P w K mg base CX0 (k + 3) T.aIsText T.dIsText ["value"] (spAsk textD) := by
  have GIsLetter : FnOk P w K mg base CX0 (k + 2) T.aIsLetter T.dIsLetter ["value"] (spAsk letterD) := ok_letter T
  refine T.fIsText.ok scIsText (fun vs H Q E h => ?_) (fun cdv A outer s H vs Q E hr h => ?_)
  · obtain ⟨_, _, _, rfl, _⟩ := h
    rfl
  · obtain ⟨N, x, d, rfl, hd, hb, q⟩ := h
    refine ⟨_, (pss_cons (ps_if (PW.pt (pw_or (pt_not (pt_val (pe_callB call_isi (by rfl) T.m_isinstance (by decide +kernel) (pa_cons (pv 0) (pa_cons (pe_bltn (v := .ty "tuple") (by rfl) T.m_tuple (by decide +kernel) rfl) pa_nil))))) (pw_or1 (pt_cmpR op_gt (pe_callB call_len_seq (by rfl) T.m_len PySem.boot_len (pa_cons (pv 0) pa_nil)) (pe_glob (v := .int 4096) rfl T.m_LONGEST_TEXT ⟨_, rfl⟩) (nomark _))))) (pss_one (ps_ret pe_bl)) pss_nil)
      (pss_one (ps_ret (pe_callB (cr_all rfl) (by rfl) T.m_all (by decide +kernel) (pa_cons (pe_lc (own := [("letter", 1)]) (g := gName 1) (tt := tYes) rfl scIsText.nd (pi_tup (pv 0)) (blkOk_by (N := ["value", "letter"]) (sc := defScope sIsText) (by decide +kernel)) (fun _ _ _ _ _ => pg_name (i := 1) scIsText.nd rfl (Or.inl rfl)) (fun _ _ _ _ _ => pts_nil) (fun _ _ _ _ _ => (pe_call GIsLetter hr (by rfl) T.gIsLetter T.fIsLetter.kp T.bIsLetter .nil pass0 (pa_cons (pv 1) pa_nil)))) pa_nil))))), ?_⟩
    have ty := hd.ty (K := K)
    refine ⟨_, rfl, _, _, .type (tyD d), .type "tuple", isTupD d, rfl, .ty "tuple", ty, kit_ty (kit_tup d), isTupD d, rfl, ?_⟩
    cases e : isTupD d with
    | false =>
      have q0 := q H (Same.refl H)
      rw [notTup e] at q0
      exact iteT q0
    | true =>
      obtain ⟨a, xs, ds, rfl, rfl, ha, _, hx⟩ := tup_dx hd e
      have hl := hx.length
      simp only [PyData.bulk] at hb
      have hb2 := bulk_len ds
      have zt : textD (.tuple ds) = (decide (ds.length ≤ 4096) && ds.all letterD) := rfl
      refine iteF ⟨_, rfl, a, xs, rfl, .inr (SqT.of ha), _, _, rfl, rfl, _, rfl, ite2 (fun e => ?_) (fun e => ?_)⟩
      · have h1 := of_decide_eq_true e
        have q0 := q H (Same.refl H)
        rw [zt, decide_eq_false (by omega)] at q0
        exact q0
      · have h1 : ¬ (4096 : Int) < xs.length := fun z => e (decide_eq_true z)
        rw [zt, decide_eq_true (by omega), Bool.true_and] at q
        refine ⟨_, rfl, a, rfl, ⟨xs, SqT.of ha⟩, fun D nD => lc_it (walk_tup (xs := xs)) (fun i H' => Same H H' ∧ H' D = some (.lst (((ds.take i).map letterD).map V.bl))) ?_ ?_ ?_ ?_⟩
        · exact ⟨same_new nD, upd_same⟩
        · exact fun i H' _ h => SqT.of (h.1 _ _ ha)
        · rintro i x H1 H2 hi ⟨s1, hD⟩ ⟨rfl, hx1⟩
          obtain ⟨dd, hdd, hxd⟩ := (hx.same s1).get hx1
          have hm := bulk_mem (List.mem_of_getElem? hdd)
          refine ⟨rfl, _, rfl, N, x, dd, rfl, hxd, by omega, fun H3 s3 => ⟨_, s3 _ _ hD, fitsLt (by rw [List.length_map, List.length_map, List.length_take]; omega), Same.put (s1.trans s3) nD, ?_⟩⟩
          rw [upd_same, List.take_add_one, hdd, List.map_append, List.map_append]
          rfl
        · rintro H1 ⟨s1, hD⟩
          rw [hl, List.take_length] at hD
          refine ⟨D, ds.map letterD, rfl, SqL.of hD, ?_⟩
          rw [show (ds.map letterD).all id = ds.all letterD by rw [List.all_map]; rfl]
          exact q H1 s1
theorem ok_ltext {k : Nat} (T : Txt K mg) : FnOk P w K mg base CX0 (k + 2) T.aLIsText T.dLIsText ["_law_value"] (spAsk textD) := by
  have GLIsLetter : FnOk P w K mg base CX0 (k + 1) T.aLIsLetter T.dLIsLetter ["_law_value"] (spAsk letterD) := ok_lletter T
  refine T.fLIsText.ok scLIsText (fun vs H Q E h => ?_) (fun cdv A outer s H vs Q E hr h => ?_)
  · obtain ⟨_, _, _, rfl, _⟩ := h
    rfl
  · obtain ⟨N, x, d, rfl, hd, hb, q⟩ := h
    refine ⟨_, (pss_cons (ps_if (PW.pt (pw_or (pt_not (pt_val (pe_callB call_isi (by rfl) T.m_isinstance (by decide +kernel) (pa_cons (pv 0) (pa_cons (pe_bltn (v := .ty "tuple") (by rfl) T.m_tuple (by decide +kernel) rfl) pa_nil))))) (pw_or1 (pt_cmpR op_gt (pe_callB call_len_seq (by rfl) T.m_len PySem.boot_len (pa_cons (pv 0) pa_nil)) pe_int (nomark _))))) (pss_one (ps_ret pe_bl)) pss_nil)
      (pss_one (ps_ret (pe_cmpR (Mo.op_eqNil hr.units) (pe_lc (own := [("_law_letter", 1)]) (g := gName 1) rfl scLIsText.nd (pi_tup (pv 0)) (blkOk_by (N := ["_law_value", "_law_letter"]) (sc := defScope sLIsText) (by decide +kernel)) (fun _ _ _ _ _ => pg_name (i := 1) scLIsText.nd rfl (Or.inl rfl)) (fun _ _ _ _ _ => pts_one (pt_not (pt_val (pe_call GLIsLetter hr (by rfl) T.gLIsLetter T.fLIsLetter.kp T.bLIsLetter .nil pass0 (pa_cons (pv 1) pa_nil))))) (fun _ _ _ _ _ => (pv 1))) (pe_lst pa_nil) (nomark _))))), ?_⟩
    have ty := hd.ty (K := K)
    refine ⟨_, rfl, _, _, .type (tyD d), .type "tuple", isTupD d, rfl, .ty "tuple", ty, kit_ty (kit_tup d), isTupD d, rfl, ?_⟩
    cases e : isTupD d with
    | false =>
      have q0 := q H (Same.refl H)
      rw [notTup e] at q0
      exact iteT q0
    | true =>
      obtain ⟨a, xs, ds, rfl, rfl, ha, _, hx⟩ := tup_dx hd e
      have hl := hx.length
      simp only [PyData.bulk] at hb
      have hb2 := bulk_len ds
      have zt : textD (.tuple ds) = (decide (ds.length ≤ 4096) && ds.all letterD) := rfl
      refine iteF ⟨_, rfl, a, xs, rfl, .inr (SqT.of ha), _, _, rfl, rfl, _, rfl, ite2 (fun e => ?_) (fun e => ?_)⟩
      · have h1 := of_decide_eq_true e
        have q0 := q H (Same.refl H)
        rw [zt, decide_eq_false (by omega)] at q0
        exact q0
      · have h1 : ¬ (4096 : Int) < xs.length := fun z => e (decide_eq_true z)
        rw [zt, decide_eq_true (by omega), Bool.true_and] at q
        refine ⟨_, rfl, a, rfl, ⟨xs, SqT.of ha⟩, fun D nD => lc_it (walk_tup (xs := xs)) (fun i H' => Same H H' ∧ ∃ zs, H' D = some (.lst zs) ∧ zs.length ≤ i ∧ zs.isEmpty = (ds.take i).all letterD) ?_ ?_ ?_ ?_⟩
        · exact ⟨same_new nD, [], upd_same, Nat.le_refl _, rfl⟩
        · exact fun i H' _ h => SqT.of (h.1 _ _ ha)
        · rintro i x H1 H2 hi ⟨s1, zs, hD, hz, he⟩ ⟨rfl, hx1⟩
          obtain ⟨dd, hdd, hxd⟩ := (hx.same s1).get hx1
          have hm := bulk_mem (List.mem_of_getElem? hdd)
          have et : (ds.take (i + 1)).all letterD = ((ds.take i).all letterD && letterD dd) := by
            rw [List.take_add_one, hdd, List.all_append]
            simp
          refine ⟨rfl, _, rfl, N, x, dd, rfl, hxd, by omega, fun H3 s3 => ⟨letterD dd, rfl, ?_⟩⟩
          cases el : letterD dd with
          | true => exact iteF ⟨s1.trans s3, zs, s3 _ _ hD, by omega, by rw [et, el, Bool.and_true]; exact he⟩
          | false =>
            refine iteT ⟨_, rfl, zs, s3 _ _ hD, fitsLt (by omega), Same.put (s1.trans s3) nD, _, upd_same, by rw [List.length_append]; exact Nat.succ_le_succ hz, ?_⟩
            rw [et, el, Bool.and_false]
            cases zs <;> rfl
        · rintro H1 ⟨s1, zs, hD, hz, he⟩
          rw [hl, List.take_length] at he
          refine ⟨Nat.zero_le _, fun p np => ?_⟩
          have sm := same_new (o := .lst []) np
          refine ⟨D, p, zs, rfl, rfl, SqL.of (sm _ _ hD), SqL.of upd_same, ?_⟩
          rw [he]
          exact q _ (s1.trans sm)
/-- what a pattern is -/
def patL (cs : List Nat) : Bool := decide (cs.length ≤ 40) && (decide ((met cs).length ≤ 8) && cs.all fun c => decide (c ∈ lett))
def patD : PyData → Bool
  | .str z => patL z.cps.toList
  | _ => false
theorem notStr {d : PyData} (h : isStrD d = false) : patD d = false := by
  cases d <;> first | rfl | exact absurd (show true = false from h) (by decide)
theorem all_take {p : Nat → Bool} {cs : List Nat} {i c : Nat} (h : cs[i]? = some c) : (cs.take (i + 1)).all p = ((cs.take i).all p && p c) := by
  rw [List.take_add_one, h, List.all_append]
  simp
theorem ok_pat {k : Nat} (T : Txt K mg) : FnOk P w K mg base CX0 (k + 1) T.aIsPattern T.dIsPattern ["value"] (spAsk patD) := by
  refine T.fIsPattern.ok scIsPattern (fun vs H Q E h => ?_) (fun cdv A outer s H vs Q E hr h => ?_)
  · obtain ⟨_, _, _, rfl, _⟩ := h
    rfl
  · obtain ⟨N, x, d, rfl, hd, hb, q⟩ := h
    refine ⟨_, (pss_cons (ps_if (PW.pt (pw_or (pt_not (pt_val (pe_callB call_isi (by rfl) T.m_isinstance (by decide +kernel) (pa_cons (pv 0) (pa_cons (pe_bltn (v := .ty "str") (by rfl) T.m_str (by decide +kernel) rfl) pa_nil))))) (pw_or1 (pt_cmpR op_gt (pe_callB call_len_str (by rfl) T.m_len PySem.boot_len (pa_cons (pv 0) pa_nil)) (pe_glob (v := .int 40) rfl T.m_LONGEST_PATTERN ⟨_, rfl⟩) (nomark _))))) (pss_one (ps_ret pe_bl)) pss_nil)
      (pss_one (ps_ret (pe_and (pe_cmpR op_le (pe_callB Mo.cr_lenK (by rfl) T.m_len PySem.boot_len (pa_cons (pe_callTy (Mo.cr_setS rfl) (by rfl) T.m_set (by decide +kernel) (pa_cons (pv 0) pa_nil)) pa_nil)) (pe_glob (v := .int 8) rfl T.m_MOST_VARIABLES ⟨_, rfl⟩) (nomark _)) (pe_one (pe_callB (cr_all rfl) (by rfl) T.m_all (by decide +kernel) (pa_cons (pe_lc (own := [("name", 1)]) (g := gName 1) (tt := tYes) rfl scIsPattern.nd (pi_str (pv 0)) (blkOk_by (N := ["value", "name"]) (sc := defScope sIsPattern) (by decide +kernel)) (fun _ _ _ _ _ => pg_name (i := 1) scIsPattern.nd rfl (Or.inl rfl)) (fun _ _ _ _ _ => pts_nil) (fun _ _ _ _ _ => (pe_cmpR op_in_sign (pv 1) (pe_glob (v := .str "abcdefghijklmnopqrstuvwxyz") rfl T.m_VARIABLES ⟨_, rfl⟩) rfl))) pa_nil))))))), ?_⟩
    have ty := hd.ty (K := K)
    refine ⟨_, rfl, _, _, .type (tyD d), .type "str", isStrD d, rfl, .ty "str", ty, kit_ty (kit_str d), isStrD d, rfl, ?_⟩
    cases e : isStrD d with
    | false =>
      have q0 := q H (Same.refl H)
      rw [notStr e] at q0
      exact iteT q0
    | true =>
      obtain ⟨cs, rfl, rfl⟩ := str_dx hd e
      simp only [PyData.bulk] at hb
      rw [tx_size] at hb
      have zp : patD (.str (tx cs)) = (decide (cs.length ≤ 40) && (decide ((met cs).length ≤ 8) && cs.all fun c => decide (c ∈ lett))) := rfl
      refine iteF ⟨_, rfl, _, rfl, Nat.le_trans (by rw [tx_len]; exact hb) (by decide), _, _, rfl, rfl, _, rfl, ite2 (fun e => ?_) (fun e => ?_)⟩
      · have h1 := of_decide_eq_true e
        rw [tx_len] at h1
        have q0 := q H (Same.refl H)
        rw [zp, decide_eq_false (by omega)] at q0
        exact q0
      · have h1 : ¬ (40 : Int) < (tx cs).length := fun z => e (decide_eq_true z)
        rw [tx_len] at h1
        rw [zp, decide_eq_true (by omega), Bool.true_and] at q
        refine ⟨_, rfl, tx cs, rfl, by rw [tx_size]; omega, fun p np => ?_⟩
        have hml := met_length_le cs
        refine ⟨p, _, _, rfl, upd_same, by rw [tx_list]; omega, _, _, rfl, rfl, decide ((met cs).length ≤ 8), congrArg V.bl (decide_eq_decide.mpr (by rw [tx_list]; omega)), ?_⟩
        have sm := same_new (o := SetK P w p (inS (tx cs).cps.toList) (met (tx cs).cps.toList).length) np
        cases e8 : decide ((met cs).length ≤ 8) with
        | false =>
          rw [e8] at q
          exact q _ sm
        | true =>
          rw [e8, Bool.true_and] at q
          refine iteT ⟨_, rfl, tx cs, rfl, fun D nD => lc_it walk_str (fun i H' => Same (upd H p (SetK P w p (inS (tx cs).cps.toList) (met (tx cs).cps.toList).length)) H' ∧ H' D = some (.lst (((cs.take i).map fun c => decide (c ∈ lett)).map V.bl))) ?_ ?_ ?_ ?_⟩
          · exact ⟨same_new nD, upd_same⟩
          · exact fun _ _ _ _ => trivial
          · rintro i x H1 H2 hi ⟨s1, hD⟩ ⟨rfl, c, hc, rfl⟩
            rw [tx_get] at hc
            refine ⟨rfl, _, rfl, c, _, rfl, rfl, _, hD, fitsLt (by rw [List.length_map, List.length_map, List.length_take]; omega), Same.put s1 nD, ?_⟩
            rw [upd_same, lett_text, List.take_add_one, hc, List.map_append, List.map_append]
            rfl
          · rintro H1 ⟨s1, hD⟩
            rw [tx_size, List.take_length] at hD
            refine ⟨D, cs.map fun c => decide (c ∈ lett), rfl, SqL.of hD, ?_⟩
            rw [show (cs.map fun c => decide (c ∈ lett)).all id = cs.all fun c => decide (c ∈ lett) by rw [List.all_map]; rfl]
            exact q H1 (sm.trans s1)
theorem ok_lpat {k : Nat} (T : Txt K mg) : FnOk P w K mg base CX0 (k + 1) T.aLIsPattern T.dLIsPattern ["_law_value"] (spAsk patD) := by
  refine T.fLIsPattern.ok scLIsPattern (fun vs H Q E h => ?_) (fun cdv A outer s H vs Q E hr h => ?_)
  · obtain ⟨_, _, _, rfl, _⟩ := h
    rfl
  · obtain ⟨N, x, d, rfl, hd, hb, q⟩ := h
    refine ⟨_, (pss_cons (ps_if (PW.pt (pw_or (pt_not (pt_val (pe_callB call_isi (by rfl) T.m_isinstance (by decide +kernel) (pa_cons (pv 0) (pa_cons (pe_bltn (v := .ty "str") (by rfl) T.m_str (by decide +kernel) rfl) pa_nil))))) (pw_or1 (pt_cmpR op_gt (pe_callB call_len_str (by rfl) T.m_len PySem.boot_len (pa_cons (pv 0) pa_nil)) pe_int (nomark _))))) (pss_one (ps_ret pe_bl)) pss_nil)
      (pss_cons (ps_set (i := 1) scLIsPattern.nd rfl (Or.inl rfl) pe_str)
      (pss_cons (ps_for PassesOwn.never rfl (pi_str (pv 0)) (pg_name (i := 2) scLIsPattern.nd rfl (Or.inl rfl)) (pss_cons (ps_if (pt_cmpR op_notIn_sign (pv 2) pe_str rfl) (pss_one (ps_ret pe_bl)) pss_nil)
      (pss_one (ps_if (pt_cmpR op_notIn_sign (pv 2) (pv 1) rfl) (pss_one (ps_set (i := 1) scLIsPattern.nd rfl (Or.inl rfl) (pe_op op_add_str (pv 1) (pv 2)))) pss_nil))))
      (pss_one (ps_ret (pe_cmpR op_le (pe_callB call_len_str (by rfl) T.m_len PySem.boot_len (pa_cons (pv 1) pa_nil)) pe_int (nomark _))))))), ?_⟩
    have ty := hd.ty (K := K)
    refine ⟨_, rfl, _, _, .type (tyD d), .type "str", isStrD d, rfl, .ty "str", ty, kit_ty (kit_str d), isStrD d, rfl, ?_⟩
    have q0 := q H (Same.refl H)
    clear q
    cases e : isStrD d with
    | false =>
      rw [notStr e] at q0
      exact iteT q0
    | true =>
      obtain ⟨cs, rfl, rfl⟩ := str_dx hd e
      simp only [PyData.bulk] at hb
      rw [tx_size] at hb
      have zp : patD (.str (tx cs)) = (decide (cs.length ≤ 40) && (decide ((met cs).length ≤ 8) && cs.all fun c => decide (c ∈ lett))) := rfl
      refine iteF ⟨_, rfl, _, rfl, Nat.le_trans (by rw [tx_len]; exact hb) (by decide), _, _, rfl, rfl, _, rfl, ite2 (fun e => ?_) (fun e => ?_)⟩
      · have h1 := of_decide_eq_true e
        rw [tx_len] at h1
        rw [zp, decide_eq_false (by omega)] at q0
        exact q0
      · have h1 : ¬ (40 : Int) < (tx cs).length := fun z => e (decide_eq_true z)
        rw [tx_len] at h1
        rw [zp, decide_eq_true (by omega), Bool.true_and] at q0
        refine ⟨_, rfl, tx cs, rfl, for_it walk_str (fun i σ H' => (∃ o, σ = [some (.str (tx cs)), some (.str (tx (met (cs.take i)))), o]) ∧ H' = H ∧ ((cs.take i).all fun c => decide (c ∈ lett)) = true) ?_ ?_ ?_ ?_⟩
        · exact ⟨⟨none, by rw [show met (cs.take 0) = [] from rfl, ← tx_nil]; rfl⟩, rfl, rfl⟩
        · exact fun _ _ _ _ _ => trivial
        · rintro i x σ H1 H2 hi ⟨⟨o, rfl⟩, rfl, hal⟩ ⟨rfl, c, hc, rfl⟩
          rw [tx_get] at hc
          have hml : (met (cs.take i)).length ≤ 40 := Nat.le_trans (met_length_le _) (by rw [List.length_take]; omega)
          refine ⟨_, rfl, c, _, rfl, rfl, _, rfl, ite2 (fun e => ?_) (fun e => ?_)⟩
          · rw [lett_text] at e
            have h2 : (cs.all fun c => decide (c ∈ lett)) = false := by
              rw [List.all_eq_false]
              exact ⟨c, List.mem_of_getElem? hc, by simpa using e⟩
            rw [h2, Bool.and_false] at q0
            exact q0
          · rw [lett_text] at e
            have hin : decide (c ∈ lett) = true := by simpa using e
            have hal2 : ((cs.take (i + 1)).all fun c => decide (c ∈ lett)) = true := by rw [all_take hc, hal, hin]; rfl
            refine ⟨_, rfl, _, rfl, c, _, rfl, rfl, _, rfl, ite2 (fun e => ?_) (fun e => ?_)⟩
            · rw [tx_list] at e
              have hno : c ∉ met (cs.take i) := by simpa using e
              refine ⟨_, rfl, _, rfl, tx (met (cs.take i)), ⟨#[c]⟩, rfl, rfl, fits5 (by rw [tx_len]; show _ + 1 ≤ _; omega), ⟨some (sg c), ?_⟩, rfl, hal2⟩
              rw [tx_app1, met_take_snoc hc]
              unfold metStep
              rw [if_neg hno]
              rfl
            · rw [tx_list] at e
              have hyes : c ∈ met (cs.take i) := by simpa using e
              refine ⟨⟨some (sg c), ?_⟩, rfl, hal2⟩
              rw [met_take_snoc hc]
              unfold metStep
              rw [if_pos hyes]
              rfl
        · rintro σ H1 ⟨⟨o, rfl⟩, rfl, hal⟩
          rw [tx_size, List.take_length] at *
          rw [hal, Bool.and_true] at q0
          have hml := met_length_le cs
          refine ⟨_, rfl, _, rfl, fits5 (by rw [tx_len]; omega), _, _, rfl, rfl, ?_⟩
          show Q (V.bl (decide ((((tx (met cs)).length : Nat) : Int) ≤ 8))) H1
          rw [show decide ((((tx (met cs)).length : Nat) : Int) ≤ 8) = decide ((met cs).length ≤ 8) from decide_eq_decide.mpr (by rw [tx_len]; omega)]
          exact q0
end
end Mo

namespace Mo
open PySem PySem.Spec PyProof.Rows L2
section
variable {P : Program} {w : World} {K : PySem.W.Frag} {mg : Str → Option Value} {base : Heap}
/-- text: a tuple of few ints -/
def spMk : Sp := fun vs H Q _ => ∃ (d c : Addr) (t : Nat), vs = [.ref d] ∧ Pen H d c t ∧ t < 1000000 ∧
  ∀ H' p (ns : List Int) t', But d H H' → Pen H' d c t' → t' ≤ t + 20 → H' p = some (.tup (ns.map V.int)) → ns.length ≤ 12 → (∀ n ∈ ns, n.natAbs ≤ 1000000) → Q (.ref p) H'
def nine (u v : Int) : List Int := [0, 1, 2, 999999, 999998, 10 ^ (6 : Int).toNat, -1, u, v]
theorem ok_mk {k : Nat} (T : Txt K mg) : FnOk P w K mg base CX0 (k + 3) T.aLText T.dLText ["_law_pen_here"] spMk := by
  have GLDraw : FnOk P w K mg base CX0 (k + 2) T.aLDraw T.dLDraw ["_law_pen_here", "_law_size"] spDraw := ok_draw T
  have GLPick : FnOk P w K mg base CX0 (k + 2) T.aLPick T.dLPick ["_law_pen_here", "_law_options"] (spPick K) := ok_pick T
  refine T.fLText.ok scLText (fun vs H Q E h => ?_) (fun cdv A outer s H vs Q E hr h => ?_)
  · obtain ⟨d, c, t, rfl, _⟩ := h
    rfl
  · obtain ⟨d, c, t, rfl, pen, ht, q⟩ := h
    refine ⟨_, (pss_cons (ps_set (i := 1) scLText.nd rfl (Or.inr rfl) (pe_lst (pa_cons pe_int (pa_cons pe_int (pa_cons pe_int (pa_cons pe_int (pa_cons pe_int (pa_cons (pe_op op_pow pe_int pe_int) (pa_cons (pe_un un_neg pe_int) (pa_cons (pe_call GLDraw hr (by rfl) T.gLDraw T.fLDraw.kp T.bLDraw .nil pass0 (pa_cons (pv 0) (pa_cons (pe_op op_pow pe_int pe_int) pa_nil))) (pa_cons (pe_call GLDraw hr (by rfl) T.gLDraw T.fLDraw.kp T.bLDraw .nil pass0 (pa_cons (pv 0) (pa_cons (pe_op op_pow pe_int pe_int) pa_nil))) pa_nil)))))))))))
      (pss_one (ps_ret (pe_callTy call_tuple_of (by rfl) T.m_tuple (by decide +kernel) (pa_cons (pe_lc (own := [("_law_k", 2)]) (g := gName 2) (tt := tYes) rfl scLText.nd (pi_range1 (by rfl) T.m_range (pa_cons (pe_call GLDraw hr (by rfl) T.gLDraw T.fLDraw.kp T.bLDraw .nil pass0 (pa_cons (pv 0) (pa_cons pe_int pa_nil))) pa_nil)) (blkOk_by (N := ["_law_pen_here", "_law_some", "_law_k"]) (sc := defScope sLText) (by decide +kernel)) (fun _ _ _ _ _ => pg_name (i := 2) scLText.nd rfl (Or.inl rfl)) (fun _ _ _ _ _ => pts_nil) (fun _ _ _ _ _ => (pe_call GLPick hr (by rfl) T.gLPick T.fLPick.kp T.bLPick .nil pass0 (pa_cons (pv 0) (pa_cons (pv 1) pa_nil))))) pa_nil))))), ?_⟩
    refine ⟨10, 6, rfl, rfl, ⟨by decide, by decide, by decide⟩, 1, rfl, _, rfl, 10, 6, rfl, rfl, ⟨by decide, by decide, by decide⟩, d, c, _, t, rfl, pen, by decide, by decide, by omega, fun H1 u t1 but1 pen1 ht1 u0 u1 => ?_⟩
    refine ⟨_, rfl, 10, 6, rfl, rfl, ⟨by decide, by decide, by decide⟩, d, c, _, t1, rfl, pen1, by decide, by decide, by omega, fun H2 v t2 but2 pen2 ht2 v0 v1 => ⟨by show 9 ≤ sizeLine; decide, fun l nl => ?_⟩⟩
    have s2 := same_new (o := .lst ((nine u v).map V.int)) nl
    have pen3 := pen2.same s2
    have nld := (pen2.new nl).1
    refine ⟨_, rfl, d, c, 13, t2, rfl, pen3, by decide, by decide, by omega, fun H4 n t4 but4 pen4 ht4 n0 n1 => ?_⟩
    obtain ⟨m, rfl⟩ := nat_of n0
    have hl4 : H4 l = some (.lst ((nine u v).map V.int)) := but4 _ _ nld upd_same
    have but04 : But d H H4 := ((but1.trans but2).trans (But.same s2)).trans but4
    refine ⟨m, rfl, by omega, by omega, fun D nD => ?_⟩
    have nDp := pen4.new nD
    refine lc_range (lo := 0) (n := m) (fun i H' => ∃ (ns : List Int) (t' : Nat), But d H4 H' ∧ Pen H' d c t' ∧ t' ≤ t4 + i ∧ H' D = some (.lst (ns.map V.int)) ∧ ns.length = i ∧ ∀ n ∈ ns, n.natAbs ≤ 1000000) ?_ ?_ ?_
    · exact ⟨[], t4, But.same (same_new nD), pen4.same (same_new nD), Nat.le_refl _, upd_same, rfl, by simp⟩
    · rintro i H5 hi ⟨ns, t5, bt, pn, ht5, hD, hlen, hsm⟩
      refine ⟨rfl, _, rfl, _, rfl, d, c, l, _, t5, rfl, pn, SqL.of (bt _ _ nld hl4), nld, by show 0 < 9; decide, by show 9 < _; decide, by omega, fun H6 y t6 b6 p6 h6 hy => ?_⟩
      obtain ⟨yi, hyi, rfl⟩ := List.mem_map.mp (show y ∈ (nine u v).map V.int from hy)
      refine ⟨_, b6 _ _ nDp.1 hD, fitsLt (by rw [List.length_map]; omega), ns ++ [yi], t6, (bt.trans b6).put nD, p6.upd nDp.1 nDp.2, by omega, by rw [upd_same, List.map_append]; rfl, by rw [List.length_append, hlen]; rfl, fun n hn => ?_⟩
      rcases List.mem_append.mp hn with hn | hn
      · exact hsm n hn
      · obtain rfl := List.mem_singleton.mp hn
        have e6 : (10 : Int) ^ (6 : Int).toNat = 1000000 := by decide
        rw [e6] at u1 v1
        simp only [nine, List.mem_cons, List.not_mem_nil, or_false] at hyi
        rcases hyi with rfl | rfl | rfl | rfl | rfl | rfl | rfl | rfl | rfl <;> first | decide | omega
    · rintro H5 ⟨ns, t5, bt, pn, ht5, hD, hlen, hsm⟩
      refine ⟨D, _, rfl, .inl ⟨SqL.of hD, fun p np => ?_⟩⟩
      have s5 := same_new (o := .tup (ns.map V.int)) np
      exact q _ p ns t5 ((but04.trans bt).trans (But.same s5)) (pn.same s5) (by omega) upd_same (by omega) hsm
end
end Mo

namespace Mo
open PySem PySem.Spec PyProof.Rows L2
section
variable {P : Program} {w : World} {K : PySem.W.Frag} {mg : Str → Option Value} {base : Heap}
theorem alloc_but {N : Addr → Prop} {H H' : Hp} {d c : Addr} {t : Nat} (hN : ∀ a, N a → H a ≠ none) (b : But d H H') (p : Pen H' d c t) : ∀ a, N a → H' a ≠ none := fun a na z => by
  by_cases e : a = d
  · subst e
    obtain ⟨ns, r, h, _⟩ := p
    rw [h] at z
    cases z
  · cases q : H a with
    | none => exact hN a na q
    | some o =>
      rw [b a o e q] at z
      cases z
theorem alloc_same {N : Addr → Prop} {H H' : Hp} (hN : ∀ a, N a → H a ≠ none) (s : Same H H') : ∀ a, N a → H' a ≠ none := fun a na z => hN a na (s.free z)
theorem but_N {N : Addr → Prop} {H H' : Hp} {d : Addr} (nd : N d) (b : But d H H') : ∀ x o, ¬ N x → H x = some o → H' x = some o := fun x o nx e => b x o (fun z => nx (z ▸ nd)) e
/-- odd: a value of any kind -/
def spOdd : Sp := fun vs H Q _ => ∃ (d c : Addr) (t : Nat) (N : Addr → Prop), vs = [.ref d] ∧ Pen H d c t ∧ t < 1000000 ∧ N d ∧ (∀ a, N a → H a ≠ none) ∧
  ∀ H' x dd t', But d H H' → Pen H' d c t' → t' ≤ t + 1 → Dx N H' x dd → Fit 21 20 3 dd → Q x H'
theorem ok_odd {k : Nat} (T : Txt K mg) : FnOk P w K mg base CX0 (k + 3) T.aLOdd T.dLOdd ["_law_pen_here"] spOdd := by
  have GLPick : FnOk P w K mg base CX0 (k + 2) T.aLPick T.dLPick ["_law_pen_here", "_law_options"] (spPick K) := ok_pick T
  refine T.fLOdd.ok scLOdd (fun vs H Q E h => ?_) (fun cdv A outer s H vs Q E hr h => ?_)
  · obtain ⟨d, c, t, N, rfl, _⟩ := h
    rfl
  · obtain ⟨d, c, t, N, rfl, pen, ht, nd, hN, q⟩ := h
    refine ⟨_, (pss_cons (ps_set (i := 1) scLOdd.nd rfl (Or.inl rfl) (pe_lst (pa_cons pe_non (pa_cons pe_bl (pa_cons pe_bl (pa_cons pe_int (pa_cons pe_int (pa_cons (pe_un un_neg pe_int) (pa_cons pe_int (pa_cons (pe_op op_pow pe_int pe_int) (pa_cons pe_str (pa_cons pe_str (pa_cons pe_str (pa_cons pe_str (pa_cons pe_str (pa_cons pe_str (pa_cons (pe_tup pa_nil) (pa_cons (pe_lst pa_nil) (pa_cons pe_dnewK (pa_cons (pe_tup (pa_cons pe_int pa_nil)) (pa_cons (pe_lst (pa_cons pe_int pa_nil)) pa_nil)))))))))))))))))))))
      (pss_one (ps_ret (pe_call GLPick hr (by rfl) T.gLPick T.fLPick.kp T.bLPick .nil pass0 (pa_cons (pv 0) (pa_cons (pe_op op_cat (pv 1) (pe_lst (pa_cons (pe_tup (pa_cons pe_str pa_nil)) (pa_cons (pe_lst (pa_cons pe_str pa_nil)) (pa_cons (pe_disp (pps_cons pe_str (pe_tup (pa_cons pe_int pa_nil)) pps_nil) (by rfl) (by rfl) (fun z => by cases z) (by decide)) (pa_cons (pe_tup (pa_cons (pe_tup (pa_cons pe_int pa_nil)) pa_nil)) (pa_cons (pe_tup (pa_cons pe_non pa_nil)) (pa_cons (pe_tup (pa_cons pe_bl pa_nil)) (pa_cons (pe_tup (pa_cons pe_int (pa_cons pe_int (pa_cons pe_str pa_nil)))) (pa_cons (pe_op op_pow pe_int pe_int) pa_nil)))))))))) pa_nil)))))), ?_⟩
    refine ⟨1, rfl, 10, 6, rfl, rfl, ⟨by decide, by decide, by decide⟩, ?_⟩
    refine ⟨Nat.zero_le _, fun p1 n1 => ⟨Nat.zero_le _, fun p2 n2 p3 n3 => ?_⟩⟩
    refine ⟨by show 1 ≤ sizeLine; decide, fun p4 n4 => ⟨by show 1 ≤ sizeLine; decide, fun p5 n5 => ⟨by show 19 ≤ sizeLine; decide, fun l nl => ?_⟩⟩⟩
    have s1 := same_new (o := .tup []) n1
    have s2 := same_new (o := .lst []) n2
    have s3 := same_new (o := .dK []) n3
    have s4 := same_new (o := .tup [.int 0]) n4
    have s5 := same_new (o := .lst [.int 0]) n5
    have s6 := same_new (o := .lst [.non, .bl true, .bl false, .int 0, .int 1, .int (-1), .int 7, .int (10 ^ (6 : Int).toNat), .str (Str.ofString ""), .str (Str.ofString "a"), .str (Str.ofString "A"), .str (Str.ofString "ab "), .str (Str.ofString "a1"), .str (Str.ofString "b\n"), .ref p1, .ref p2, .ref p3, .ref p4, .ref p5]) nl
    have pA := (((((pen.same s1).same s2).same s3).same s4).same s5).same s6
    have sA : Same H _ := ((((s1.trans s2).trans s3).trans s4).trans s5).trans s6
    have m1 := s6 _ _ (s5 _ _ (s4 _ _ (s3 _ _ (s2 _ _ (upd_same (H := H) (a := p1) (o := .tup []))))))
    have m2 := s6 _ _ (s5 _ _ (s4 _ _ (s3 _ _ (upd_same (a := p2) (o := .lst [])))))
    have m3 := s6 _ _ (s5 _ _ (s4 _ _ (upd_same (a := p3) (o := .dK []))))
    have m4 := s6 _ _ (s5 _ _ (upd_same (a := p4) (o := .tup [.int 0])))
    have m5 := s6 _ _ (upd_same (a := p5) (o := .lst [.int 0]))
    have w1 : ¬ N p1 := fun z => hN _ z n1
    have w2 : ¬ N p2 := fun z => hN _ z (s1.free n2)
    have w3 : ¬ N p3 := fun z => hN _ z ((s1.trans s2).free n3)
    have w4 : ¬ N p4 := fun z => hN _ z (((s1.trans s2).trans s3).free n4)
    have w5 : ¬ N p5 := fun z => hN _ z ((((s1.trans s2).trans s3).trans s4).free n5)
    have ml := (upd_same (H := upd (upd (upd (upd (upd H p1 (HO.tup [])) p2 (HO.lst [])) p3 (HO.dK [])) p4 (HO.tup [V.int 0])) p5 (HO.lst [V.int 0])) (a := l) (o := .lst [.non, .bl true, .bl false, .int 0, .int 1, .int (-1), .int 7, .int (10 ^ (6 : Int).toNat), .str (Str.ofString ""), .str (Str.ofString "a"), .str (Str.ofString "A"), .str (Str.ofString "ab "), .str (Str.ofString "a1"), .str (Str.ofString "b\n"), .ref p1, .ref p2, .ref p3, .ref p4, .ref p5]))
    generalize upd (upd (upd (upd (upd (upd H p1 (HO.tup [])) p2 (HO.lst [])) p3 (HO.dK [])) p4 (HO.tup [V.int 0])) p5 (HO.lst [V.int 0])) l _ = HA at *
    clear s1 s2 s3 s4 s5 s6 n1 n2 n3 n4 n5 nl
    refine ⟨_, rfl, _, rfl, by show 1 ≤ sizeLine; decide, fun q1 k1 => ⟨by show 1 ≤ sizeLine; decide, fun q2 k2 q3 k3 => ⟨by show 1 ≤ sizeLine; decide, fun q4 k4 => ?_⟩⟩⟩
    have u1 := same_new (o := .tup [.str (Str.ofString "a")]) k1
    have u2 := same_new (o := .lst [.str (Str.ofString "a")]) k2
    have u3 := same_new (o := .dK []) k3
    have u4 := same_new (o := .tup [.int 1]) k4
    have x1 : ¬ N q1 := fun z => hN _ z (sA.free k1)
    have x2 : ¬ N q2 := fun z => hN _ z ((sA.trans u1).free k2)
    have x3 : ¬ N q3 := fun z => hN _ z (((sA.trans u1).trans u2).free k3)
    have x4 : ¬ N q4 := fun z => hN _ z ((((sA.trans u1).trans u2).trans u3).free k4)
    refine ⟨u4 _ _ upd_same, [(.inr (Str.ofString "a"), .ref q4)], rfl, by show 1 ≤ 15; decide, ?_⟩
    have z1 : q1 ≠ q3 := ne_of_none (u2 _ _ upd_same) k3
    have z2 : q2 ≠ q3 := ne_of_none upd_same k3
    have z4 : q4 ≠ q3 := (ne_of_none upd_same k4).symm
    have uB : Same HA (upd (upd (upd (upd (upd HA q1 (.tup [.str (Str.ofString "a")])) q2 (.lst [.str (Str.ofString "a")])) q3 (.dK [])) q4 (.tup [.int 1])) q3 (.dK (mergeK [] [(.inr (Str.ofString "a"), .ref q4)]))) := fun b o e => by
      have e4 := u4 _ _ (u3 _ _ (u2 _ _ (u1 _ _ e)))
      rw [upd_ne (ne_of_none (u2 _ _ (u1 _ _ e)) k3)]
      exact e4
    have b1 : (upd (upd (upd (upd (upd HA q1 (.tup [.str (Str.ofString "a")])) q2 (.lst [.str (Str.ofString "a")])) q3 (.dK [])) q4 (.tup [.int 1])) q3 (.dK (mergeK [] [(.inr (Str.ofString "a"), .ref q4)]))) q1 = some (.tup [.str (Str.ofString "a")]) := by
      rw [upd_ne z1]
      exact u4 _ _ (u3 _ _ (u2 _ _ upd_same))
    have b2 : (upd (upd (upd (upd (upd HA q1 (.tup [.str (Str.ofString "a")])) q2 (.lst [.str (Str.ofString "a")])) q3 (.dK [])) q4 (.tup [.int 1])) q3 (.dK (mergeK [] [(.inr (Str.ofString "a"), .ref q4)]))) q2 = some (.lst [.str (Str.ofString "a")]) := by
      rw [upd_ne z2]
      exact u4 _ _ (u3 _ _ upd_same)
    have b3 : (upd (upd (upd (upd (upd HA q1 (.tup [.str (Str.ofString "a")])) q2 (.lst [.str (Str.ofString "a")])) q3 (.dK [])) q4 (.tup [.int 1])) q3 (.dK (mergeK [] [(.inr (Str.ofString "a"), .ref q4)]))) q3 = some (.dK [(.inr (Str.ofString "a"), .ref q4)]) := upd_same
    have b4 : (upd (upd (upd (upd (upd HA q1 (.tup [.str (Str.ofString "a")])) q2 (.lst [.str (Str.ofString "a")])) q3 (.dK [])) q4 (.tup [.int 1])) q3 (.dK (mergeK [] [(.inr (Str.ofString "a"), .ref q4)]))) q4 = some (.tup [.int 1]) := by
      rw [upd_ne z4]
      exact upd_same
    generalize upd (upd (upd (upd (upd HA q1 (.tup [.str (Str.ofString "a")])) q2 (.lst [.str (Str.ofString "a")])) q3 (.dK [])) q4 (.tup [.int 1])) q3 (.dK (mergeK [] [(.inr (Str.ofString "a"), .ref q4)])) = HB at *
    have pB := pA.same uB
    have sB := sA.trans uB
    replace m1 := uB _ _ m1
    replace m2 := uB _ _ m2
    replace m3 := uB _ _ m3
    replace m4 := uB _ _ m4
    replace m5 := uB _ _ m5
    replace ml := uB _ _ ml
    clear u1 u2 u3 u4 uB k1 k2 k3 k4 z1 z2 z4 pA sA
    refine ⟨by show 1 ≤ sizeLine; decide, fun r1 k1 => ⟨by show 1 ≤ sizeLine; decide, fun r2 k2 => ⟨by show 1 ≤ sizeLine; decide, fun r3 k3 => ⟨by show 1 ≤ sizeLine; decide, fun r4 k4 => ⟨by show 3 ≤ sizeLine; decide, fun r5 k5 => ?_⟩⟩⟩⟩⟩
    refine ⟨10, 20, rfl, rfl, ⟨by decide, by decide, by decide⟩, by show 8 ≤ sizeLine; decide, fun l2 k6 => ?_⟩
    have v1 := same_new (o := .tup [.int 0]) k1
    have v2 := same_new (o := .tup [.ref r1]) k2
    have v3 := same_new (o := .tup [.non]) k3
    have v4 := same_new (o := .tup [.bl true]) k4
    have v5 := same_new (o := .tup [.int 0, .int 1, .str (Str.ofString "a")]) k5
    have v6 := same_new (o := .lst [.ref q1, .ref q2, .ref q3, .ref r2, .ref r3, .ref r4, .ref r5, .int (10 ^ (20 : Int).toNat)]) k6
    have y1 : ¬ N r1 := fun z => hN _ z (sB.free k1)
    have y2 : ¬ N r2 := fun z => hN _ z ((sB.trans v1).free k2)
    have y3 : ¬ N r3 := fun z => hN _ z (((sB.trans v1).trans v2).free k3)
    have y4 : ¬ N r4 := fun z => hN _ z ((((sB.trans v1).trans v2).trans v3).free k4)
    have y5 : ¬ N r5 := fun z => hN _ z (((((sB.trans v1).trans v2).trans v3).trans v4).free k5)
    have vA := ((((v1.trans v2).trans v3).trans v4).trans v5).trans v6
    refine ⟨l, l2, _, _, rfl, rfl, vA _ _ ml, upd_same, by show 27 ≤ sizeLine; decide, fun L kL => ?_⟩
    have v7 := same_new (o := .lst ([.non, .bl true, .bl false, .int 0, .int 1, .int (-1), .int 7, .int (10 ^ (6 : Int).toNat), .str (Str.ofString ""), .str (Str.ofString "a"), .str (Str.ofString "A"), .str (Str.ofString "ab "), .str (Str.ofString "a1"), .str (Str.ofString "b\n"), .ref p1, .ref p2, .ref p3, .ref p4, .ref p5] ++ [.ref q1, .ref q2, .ref q3, .ref r2, .ref r3, .ref r4, .ref r5, .int (10 ^ (20 : Int).toNat)])) kL
    have pL := ((pB.same vA).new kL).1
    refine ⟨d, c, L, _, t, rfl, (pB.same vA).same v7, SqL.of upd_same, pL, by show 0 < 27; decide, by show 27 < _; decide, by omega, fun H9 y t9 b9 p9 h9 hy => ?_⟩
    have sAll := vA.trans v7
    have c1 := v7 _ _ (v6 _ _ (v5 _ _ (v4 _ _ (v3 _ _ (v2 _ _ (upd_same (H := HB) (a := r1) (o := .tup [.int 0])))))))
    have c2 := v7 _ _ (v6 _ _ (v5 _ _ (v4 _ _ (v3 _ _ (upd_same (a := r2) (o := .tup [.ref r1]))))))
    have c3 := v7 _ _ (v6 _ _ (v5 _ _ (v4 _ _ (upd_same (a := r3) (o := .tup [.non])))))
    have c4 := v7 _ _ (v6 _ _ (v5 _ _ (upd_same (a := r4) (o := .tup [.bl true]))))
    have c5 := v7 _ _ (v6 _ _ (upd_same (a := r5) (o := .tup [.int 0, .int 1, .str (Str.ofString "a")])))
    replace m1 := sAll _ _ m1
    replace m2 := sAll _ _ m2
    replace m3 := sAll _ _ m3
    replace m4 := sAll _ _ m4
    replace m5 := sAll _ _ m5
    replace b1 := sAll _ _ b1
    replace b2 := sAll _ _ b2
    replace b3 := sAll _ _ b3
    replace b4 := sAll _ _ b4
    generalize upd _ L _ = HL at *
    obtain ⟨dd, hx, hf⟩ : ∃ dd, Dx N HL y dd ∧ Fit 21 20 3 dd := by
      clear q h9 b9 p9 pen pB pL kL k1 k2 k3 k4 k5 k6 v1 v2 v3 v4 v5 v6 v7 vA sAll sB ml hN
      simp only [List.cons_append, List.nil_append, List.mem_cons, List.not_mem_nil, or_false] at hy
      rcases hy with rfl | rfl | rfl | rfl | rfl | rfl | rfl | rfl | rfl | rfl | rfl | rfl | rfl | rfl | rfl | rfl | rfl | rfl | rfl | rfl | rfl | rfl | rfl | rfl | rfl | rfl | rfl
      · exact ⟨_, .non, ⟨by (simp only [okD, okAll, okKv] <;> decide +kernel), by decide +kernel, by decide +kernel⟩⟩
      · exact ⟨_, .bl true, ⟨by (simp only [okD, okAll, okKv] <;> decide +kernel), by decide +kernel, by decide +kernel⟩⟩
      · exact ⟨_, .bl false, ⟨by (simp only [okD, okAll, okKv] <;> decide +kernel), by decide +kernel, by decide +kernel⟩⟩
      · exact ⟨_, .int 0, ⟨by (simp only [okD, okAll, okKv] <;> decide +kernel), by decide +kernel, by decide +kernel⟩⟩
      · exact ⟨_, .int 1, ⟨by (simp only [okD, okAll, okKv] <;> decide +kernel), by decide +kernel, by decide +kernel⟩⟩
      · exact ⟨_, .int (-1), ⟨by (simp only [okD, okAll, okKv] <;> decide +kernel), by decide +kernel, by decide +kernel⟩⟩
      · exact ⟨_, .int 7, ⟨by (simp only [okD, okAll, okKv] <;> decide +kernel), by decide +kernel, by decide +kernel⟩⟩
      · exact ⟨_, .int _, ⟨by (simp only [okD, okAll, okKv] <;> decide +kernel), by decide +kernel, by decide +kernel⟩⟩
      · exact ⟨_, .str _, ⟨by (simp only [okD, okAll, okKv] <;> decide +kernel), by decide +kernel, by decide +kernel⟩⟩
      · exact ⟨_, .str _, ⟨by (simp only [okD, okAll, okKv] <;> decide +kernel), by decide +kernel, by decide +kernel⟩⟩
      · exact ⟨_, .str _, ⟨by (simp only [okD, okAll, okKv] <;> decide +kernel), by decide +kernel, by decide +kernel⟩⟩
      · exact ⟨_, .str _, ⟨by (simp only [okD, okAll, okKv] <;> decide +kernel), by decide +kernel, by decide +kernel⟩⟩
      · exact ⟨_, .str _, ⟨by (simp only [okD, okAll, okKv] <;> decide +kernel), by decide +kernel, by decide +kernel⟩⟩
      · exact ⟨_, .str _, ⟨by (simp only [okD, okAll, okKv] <;> decide +kernel), by decide +kernel, by decide +kernel⟩⟩
      · exact ⟨_, .tup m1 w1 .nil, ⟨by (simp only [okD, okAll, okKv] <;> decide +kernel), by decide +kernel, by decide +kernel⟩⟩
      · exact ⟨_, .lst m2 w2 .nil, ⟨by (simp only [okD, okAll, okKv] <;> decide +kernel), by decide +kernel, by decide +kernel⟩⟩
      · exact ⟨.dict [], .dct m3 w3 .nil, ⟨by (simp only [okD, okAll, okKv] <;> decide +kernel), by decide +kernel, by decide +kernel⟩⟩
      · exact ⟨_, .tup m4 w4 (.cons (.int 0) .nil), ⟨by (simp only [okD, okAll, okKv] <;> decide +kernel), by decide +kernel, by decide +kernel⟩⟩
      · exact ⟨_, .lst m5 w5 (.cons (.int 0) .nil), ⟨by (simp only [okD, okAll, okKv] <;> decide +kernel), by decide +kernel, by decide +kernel⟩⟩
      · exact ⟨_, .tup b1 x1 (.cons (.str _) .nil), ⟨by (simp only [okD, okAll, okKv] <;> decide +kernel), by decide +kernel, by decide +kernel⟩⟩
      · exact ⟨_, .lst b2 x2 (.cons (.str _) .nil), ⟨by (simp only [okD, okAll, okKv] <;> decide +kernel), by decide +kernel, by decide +kernel⟩⟩
      · exact ⟨.dict [(.str (Str.ofString "a"), .tuple [.int 1])], .dct b3 x3 (.cons (.tup b4 x4 (.cons (.int 1) .nil)) .nil), ⟨by (simp only [okD, okAll, okKv] <;> decide +kernel), by decide +kernel, by decide +kernel⟩⟩
      · exact ⟨_, .tup c2 y2 (.cons (.tup c1 y1 (.cons (.int 0) .nil)) .nil), ⟨by (simp only [okD, okAll, okKv] <;> decide +kernel), by decide +kernel, by decide +kernel⟩⟩
      · exact ⟨_, .tup c3 y3 (.cons .non .nil), ⟨by (simp only [okD, okAll, okKv] <;> decide +kernel), by decide +kernel, by decide +kernel⟩⟩
      · exact ⟨_, .tup c4 y4 (.cons (.bl true) .nil), ⟨by (simp only [okD, okAll, okKv] <;> decide +kernel), by decide +kernel, by decide +kernel⟩⟩
      · exact ⟨_, .tup c5 y5 (.cons (.int 0) (.cons (.int 1) (.cons (.str _) .nil))), ⟨by (simp only [okD, okAll, okKv] <;> decide +kernel), by decide +kernel, by decide +kernel⟩⟩
      · exact ⟨_, .int _, ⟨by (simp only [okD, okAll, okKv] <;> decide +kernel), by decide +kernel, by decide +kernel⟩⟩
    exact q H9 y dd t9 ((But.same (sB.trans sAll)).trans b9) p9 h9 (hx.but (but_N nd b9)) hf
end
end Mo

namespace Mo
open PySem PySem.Spec PyProof.Rows L2
section
variable {P : Program} {w : World} {K : PySem.W.Frag} {mg : Str → Option Value} {base : Heap}
theorem DxAll.takes {N : Addr → Prop} {H : Hp} : ∀ {n : Nat} {vs : List V} {ds : List PyData}, DxAll N H vs ds → DxAll N H (vs.take n) (ds.take n)
  | 0, _, _, _ => by simp only [List.take_zero]; exact .nil
  | _ + 1, _, _, .nil => by simp only [List.take_nil]; exact .nil
  | n + 1, _, _, .cons h t => by simp only [List.take_succ_cons]; exact .cons h t.takes
theorem DxAll.drops {N : Addr → Prop} {H : Hp} : ∀ {n : Nat} {vs : List V} {ds : List PyData}, DxAll N H vs ds → DxAll N H (vs.drop n) (ds.drop n)
  | 0, _, _, h => by simp only [List.drop_zero]; exact h
  | _ + 1, _, _, .nil => by simp only [List.drop_nil]; exact .nil
  | n + 1, _, _, .cons h t => by simp only [List.drop_succ_cons]; exact t.drops
theorem cut_txTo (zs : List Nat) (n : Nat) : cutS (tx zs) none (some (n : Int)) = tx (zs.take n) := by
  rw [cut_tx, HT.sIx_none, HT.sIx_nat, List.drop_zero, Nat.sub_zero]
  congr 1
  rw [List.take_eq_take_iff]
  omega
theorem cut_txFrom (zs : List Nat) (n : Nat) : cutS (tx zs) (some (n : Int)) none = tx (zs.drop n) := by
  rw [cut_tx, HT.sIx_none, HT.sIx_nat]
  have e : zs.drop (min n zs.length) = zs.drop n := by
    by_cases h : n ≤ zs.length
    · rw [Nat.min_eq_left h]
    · rw [List.drop_of_length_le (by omega), List.drop_of_length_le (by omega)]
  rw [e, List.take_of_length_le (by rw [List.length_drop]; omega)]
theorem signs_dx {N : Addr → Prop} {H : Hp} : ∀ cs : List Nat, DxAll N H (cs.map sg) (cs.map fun c => PyData.str ⟨#[c]⟩)
  | [] => .nil
  | c :: cs => .cons (.str _) (signs_dx cs)
theorem ints_dx {N : Addr → Prop} {H : Hp} : ∀ ns : List Int, DxAll N H (ns.map V.int) (ns.map PyData.int)
  | [] => .nil
  | n :: ns => .cons (.int n) (ints_dx ns)
theorem signs_bulk : ∀ cs : List Nat, PyData.bulkAll (cs.map fun c => PyData.str ⟨#[c]⟩) = 2 * cs.length
  | [] => rfl
  | c :: cs => by
    rw [List.map_cons]
    simp only [PyData.bulkAll, PyData.bulk]
    rw [signs_bulk cs]
    show 1 + 1 + _ = _
    rw [List.length_cons]
    omega
/-- changed: a value with one change, at any depth -/
def spChg (n : Nat) : Sp := fun vs H Q _ => ∃ (d c : Addr) (x : V) (dd : PyData) (t B W D : Nat) (N : Addr → Prop), vs = [.ref d, x] ∧ Pen H d c t ∧ t + 5 * (n + 1) < 1000000 ∧ N d ∧ (∀ a, N a → H a ≠ none) ∧ Dx N H x dd ∧ Fit B W D dd ∧ dd.depth ≤ n ∧ 21 ≤ B ∧ B ≤ 38 ∧ W ≤ 40000 ∧ n ≤ 40 ∧
  ∀ H' y d' t', But d H H' → Pen H' d c t' → t' ≤ t + 5 * (n + 1) → Dx N H' y d' → Fit (B + 1) (2 * W + 40) (D + 3) d' → Q y H'
def spChgR : Nat → Sp
  | 0 => fun _ _ _ _ => False
  | n + 1 => spChg n
theorem few_signs {v : V} (hv : v ∈ [V.str (Str.ofString "a"), .str (Str.ofString "z"), .str (Str.ofString "A"), .str (Str.ofString " "), .str (Str.ofString "0"), .str (Str.ofString ""), .str (Str.ofString "yy"), .str (Str.ofString "{")]) :
    ∃ ss : List Nat, v = .str (tx ss) ∧ ss.length ≤ 2 ∧ ∀ c ∈ ss, c < 128 := by
  simp only [List.mem_cons, List.not_mem_nil, or_false] at hv
  rcases hv with rfl | rfl | rfl | rfl | rfl | rfl | rfl | rfl <;> exact ⟨_, rfl, by decide +kernel, by decide +kernel⟩
theorem fit_str {B W D : Nat} {cs : List Nat} (h : cs.length ≤ W) (hc : ∀ c ∈ cs, c < 128) : Fit B W D (.str (tx cs)) :=
  ⟨by simp only [okD]; exact hc, by simp only [PyData.bulk]; rw [tx_size]; exact h, by simp only [PyData.depth]; exact Nat.zero_le _⟩
theorem fit_signs {B W D : Nat} {cs : List Nat} (h : 2 * cs.length ≤ W) (hc : ∀ c ∈ cs, c < 128) : FitAll B W D (cs.map fun c => PyData.str ⟨#[c]⟩) := by
  refine ⟨okAll_iff.mpr fun d hd => ?_, by rw [signs_bulk]; exact h, depthAll_le.mpr fun d hd => ?_⟩
  · obtain ⟨c, hc1, rfl⟩ := List.mem_map.mp hd
    simp only [okD]
    intro c' hc'
    have : c' = c := by simpa using hc'
    rw [this]
    exact hc c hc1
  · obtain ⟨c, hc1, rfl⟩ := List.mem_map.mp hd
    simp only [PyData.depth]
    exact Nat.zero_le _
theorem mulS_two (cs : List Nat) : mulS cs 2 = cs ++ cs := by
  unfold mulS
  simp [List.replicate_succ]
theorem chg_step {k n : Nat} (T : Txt K mg) (GLChanged : FnOk P w K mg base CX0 (k + n + 4) T.aLChanged T.dLChanged ["_law_pen_here", "_law_value"] (spChgR n)) :
    FnOk P w K mg base CX0 (k + n + 5) T.aLChanged T.dLChanged ["_law_pen_here", "_law_value"] (spChg n) := by
  have GLDraw : FnOk P w K mg base CX0 (k + n + 4) T.aLDraw T.dLDraw ["_law_pen_here", "_law_size"] spDraw := ok_draw T
  have GLPick : FnOk P w K mg base CX0 (k + n + 4) T.aLPick T.dLPick ["_law_pen_here", "_law_options"] (spPick K) := ok_pick T
  have GLOdd : FnOk P w K mg base CX0 (k + n + 4) T.aLOdd T.dLOdd ["_law_pen_here"] spOdd := ok_odd T
  refine T.fLChanged.ok scLChanged (fun vs H Q E h => ?_) (fun cdv A outer s H vs Q E hr h => ?_)
  · obtain ⟨d, c, x, dd, t, B, W, D, N, rfl, _⟩ := h
    rfl
  · obtain ⟨d, c, x, dd, t, B, W, D, N, rfl, pen, ht, nd, hN, hd, hf, hn, hB, hB2, hW, hn2, q⟩ := h
    refine ⟨_, (pss_cons (ps_set (i := 2) scLChanged.nd rfl (Or.inl rfl) (pe_call GLDraw hr (by rfl) T.gLDraw T.fLDraw.kp T.bLDraw .nil pass0 (pa_cons (pv 0) (pa_cons pe_int pa_nil))))
      (pss_cons (ps_if (PW.pt (pw_and (pt_val (pe_callB call_isi (by rfl) T.m_isinstance (by decide +kernel) (pa_cons (pv 1) (pa_cons (pe_bltn (v := .ty "str") (by rfl) T.m_str (by decide +kernel) rfl) pa_nil)))) (pw_and1 (pt_cmpR op_lt (pv 2) pe_int (nomark _))))) (pss_cons (ps_par (i := 3) (j := 4) (by rfl) scLChanged.nd rfl rfl (by decide) rfl rfl (pa_cons (pe_call GLDraw hr (by rfl) T.gLDraw T.fLDraw.kp T.bLDraw .nil pass0 (pa_cons (pv 0) (pa_cons (pe_op op_add (pe_callB call_len_str (by rfl) T.m_len PySem.boot_len (pa_cons (pv 1) pa_nil)) pe_int) pa_nil))) (pa_cons (pe_call GLPick hr (by rfl) T.gLPick T.fLPick.kp T.bLPick .nil pass0 (pa_cons (pv 0) (pa_cons (pe_lst (pa_cons pe_str (pa_cons pe_str (pa_cons pe_str (pa_cons pe_str (pa_cons pe_str (pa_cons pe_str (pa_cons pe_str (pa_cons pe_str pa_nil))))))))) pa_nil))) pa_nil)) (by rfl))
      (pss_one (ps_ret (pe_call GLPick hr (by rfl) T.gLPick T.fLPick.kp T.bLPick .nil pass0 (pa_cons (pv 0) (pa_cons (pe_lst (pa_cons (pe_op op_add_str (pe_op op_add_str (pe_slice sl_str (pv 1) po_none (po_some (pv 3))) (pv 4)) (pe_slice sl_str (pv 1) (po_some (pv 3)) po_none)) (pa_cons (pe_op op_add_str (pe_slice sl_str (pv 1) po_none (po_some (pv 3))) (pe_slice sl_str (pv 1) (po_some (pe_op op_add (pv 3) pe_int)) po_none)) (pa_cons (pe_callTy (Mo.cr_tupS rfl) (by rfl) T.m_tuple (by decide +kernel) (pa_cons (pv 1) pa_nil)) (pa_cons (pe_op Mo.op_mulS (pv 1) pe_int) pa_nil))))) pa_nil)))))) pss_nil)
      (pss_cons (ps_if (PW.pt (pw_and (pt_val (pe_callB call_isi (by rfl) T.m_isinstance (by decide +kernel) (pa_cons (pv 1) (pa_cons (pe_bltn (v := .ty "tuple") (by rfl) T.m_tuple (by decide +kernel) rfl) pa_nil)))) (pw_and (pt_cmpR (Mo.op_neNilT hr.units) (pv 1) (pe_tup pa_nil) (nomark _)) (pw_and1 (pt_cmpR op_lt (pv 2) pe_int (nomark _)))))) (pss_cons (ps_set (i := 3) scLChanged.nd rfl (Or.inl rfl) (pe_call GLDraw hr (by rfl) T.gLDraw T.fLDraw.kp T.bLDraw .nil pass0 (pa_cons (pv 0) (pa_cons (pe_callB call_len_seq (by rfl) T.m_len PySem.boot_len (pa_cons (pv 1) pa_nil)) pa_nil))))
      (pss_one (ps_ret (pe_op op_catA (pe_op op_catA (pe_slice sl_tupA (pv 1) po_none (po_some (pv 3))) (pe_tup (pa_cons (pe_call GLChanged hr (by rfl) T.gLChanged T.fLChanged.kp T.bLChanged .nil pass0 (pa_cons (pv 0) (pa_cons (pe_ix ix_tup (pv 1) (pv 3) (fun _ _ => rfl)) pa_nil))) pa_nil))) (pe_slice sl_tupA (pv 1) (po_some (pe_op op_add (pv 3) pe_int)) po_none))))) pss_nil)
      (pss_cons (ps_if (PW.pt (pw_and (pt_val (pe_callB call_isi (by rfl) T.m_isinstance (by decide +kernel) (pa_cons (pv 1) (pa_cons (pe_bltn (v := .ty "tuple") (by rfl) T.m_tuple (by decide +kernel) rfl) pa_nil)))) (pw_and1 (pt_cmpR op_lt (pv 2) pe_int (nomark _))))) (pss_one (ps_ret (pe_call GLPick hr (by rfl) T.gLPick T.fLPick.kp T.bLPick .nil pass0 (pa_cons (pv 0) (pa_cons (pe_lst (pa_cons (pe_callTy call_list_of (by rfl) T.m_list (by decide +kernel) (pa_cons (pv 1) pa_nil)) (pa_cons (pe_op op_catA (pv 1) (pe_tup (pa_cons pe_int pa_nil))) (pa_cons (pe_slice sl_tupA (pv 1) (po_some pe_int) po_none) (pa_cons (pe_op op_catA (pv 1) (pe_tup (pa_cons pe_bl pa_nil))) (pa_cons (pe_op op_catA (pv 1) (pe_tup (pa_cons (pe_tup (pa_cons pe_int pa_nil)) pa_nil))) pa_nil)))))) pa_nil))))) pss_nil)
      (pss_cons (ps_if (PW.pt (pw_and (pt_val (pe_callB call_isi (by rfl) T.m_isinstance (by decide +kernel) (pa_cons (pv 1) (pa_cons (pe_bltn (v := .ty "int") (by rfl) T.m_int (by decide +kernel) rfl) pa_nil)))) (pw_and1 (pt_not (pt_val (pe_callB call_isi (by rfl) T.m_isinstance (by decide +kernel) (pa_cons (pv 1) (pa_cons (pe_bltn (v := .ty "bool") (by rfl) T.m_bool (by decide +kernel) rfl) pa_nil)))))))) (pss_one (ps_ret (pe_call GLPick hr (by rfl) T.gLPick T.fLPick.kp T.bLPick .nil pass0 (pa_cons (pv 0) (pa_cons (pe_lst (pa_cons (pe_op op_add (pv 1) pe_int) (pa_cons (pe_op op_sub (pv 1) pe_int) (pa_cons (pe_op op_sub pe_int (pv 1)) (pa_cons (pe_cmpR op_eq (pv 1) pe_int (nomark _)) (pa_cons (pe_callTy call_str_int (by rfl) T.m_str (by decide +kernel) (pa_cons (pv 1) pa_nil)) (pa_cons (pe_tup (pa_cons (pv 1) pa_nil)) (pa_cons (pe_op op_mul (pv 1) pe_int) pa_nil)))))))) pa_nil))))) pss_nil)
      (pss_one (ps_ret (pe_call GLOdd hr (by rfl) T.gLOdd T.fLOdd.kp T.bLOdd .nil pass0 (pa_cons (pv 0) pa_nil))))))))), ?_⟩
    refine ⟨_, rfl, d, c, 8, t, rfl, pen, by decide, by decide, by omega, fun H1 way t1 but1 pen1 ht1 w0 w1 => ?_⟩
    have hd1 := hd.but (but_N nd but1)
    have hN1 := alloc_but hN but1 pen1
    have ty := hd1.ty (K := K)
    have oddQ : ∀ H2 x2 d2 t2, But d H1 H2 → Pen H2 d c t2 → t2 ≤ t1 + 1 → Dx N H2 x2 d2 → Fit 21 20 3 d2 → Q x2 H2 := fun H2 x2 d2 t2 b2 p2 h2 hx2 hf2 => q H2 x2 d2 t2 (but1.trans b2) p2 (by omega) hx2 (hf2.mono (by omega) (by omega) (by omega))
    replace q : ∀ H' y d' t', But d H1 H' → Pen H' d c t' → t' ≤ t + 5 * (n + 1) → Dx N H' y d' → Fit (B + 1) (2 * W + 40) (D + 3) d' → Q y H' := fun H' y d' t' b p h1 h2 h3 => q H' y d' t' (but1.trans b) p h1 h2 h3
    clear but1 pen hd hN
    refine ⟨_, rfl, _, _, .type (tyD dd), .type "str", isStrD dd, rfl, .ty "str", ty, kit_ty (kit_str dd), isStrD dd, rfl, ?_⟩
    cases eS : isStrD dd with
    | true =>
      obtain ⟨cs, rfl, rfl⟩ := str_dx hd1 eS
      have hlen : cs.length ≤ W := by have := hf.bulk; simp only [PyData.bulk] at this; rw [tx_size] at this; exact this
      have hsg : ∀ c ∈ cs, c < 128 := by have := hf.ok; simp only [okD] at this; exact this
      refine iteT ⟨_, rfl, _, _, rfl, rfl, _, rfl, ite2 (fun e => ?_) (fun e => ?_)⟩
      · refine ⟨_, rfl, _, rfl, tx cs, rfl, fits5 (by rw [tx_len]; omega), _, _, rfl, rfl, d, c, _, t1, rfl, pen1, by omega, by rw [tx_len]; omega, by omega, fun H2 u t2 but2 pen2 ht2 u0 u1 => ?_⟩
        rw [tx_len] at u1
        obtain ⟨m, rfl⟩ := nat_of u0
        refine ⟨_, rfl, by show 8 ≤ sizeLine; decide, fun l nl => ?_⟩
        have s2 := same_new (o := .lst [V.str (Str.ofString "a"), .str (Str.ofString "z"), .str (Str.ofString "A"), .str (Str.ofString " "), .str (Str.ofString "0"), .str (Str.ofString ""), .str (Str.ofString "yy"), .str (Str.ofString "{")]) nl
        refine ⟨d, c, l, _, t2, rfl, pen2.same s2, SqL.of upd_same, (pen2.new nl).1, by show 0 < 8; decide, by show 8 < _; decide, by omega, fun H3 v t3 but3 pen3 ht3 hv => ?_⟩
        obtain ⟨ss, rfl, hss, hsc⟩ := few_signs hv
        have but13 : But d H1 H3 := (but2.trans (But.same s2)).trans but3
        clear but2 but3 s2 pen2 nl
        have ltk : (cs.take m).length ≤ cs.length := by rw [List.length_take]; omega
        have ldr : (cs.drop m).length ≤ cs.length := by rw [List.length_drop]; omega
        have ldr1 : (cs.drop (m + 1)).length ≤ cs.length := by rw [List.length_drop]; omega
        refine ⟨_, _, rfl, _, rfl, ?_⟩
        refine ⟨_, rfl, _, rfl, m, rfl, tx cs, rfl, fits5 (by rw [tx_len]; omega), _, rfl, tx (cs.take m), tx ss, congrArg V.str (cut_txTo cs m), rfl, fits5 (by rw [tx_len, tx_len]; omega), ?_⟩
        refine ⟨_, rfl, _, rfl, m, rfl, tx cs, rfl, fits5 (by rw [tx_len]; omega), tx (cs.take m ++ ss), tx (cs.drop m), congrArg V.str (tx_app _ _), congrArg V.str (cut_txFrom cs m), fits5 (by rw [tx_len, tx_len, List.length_append]; omega), ?_⟩
        refine ⟨_, rfl, _, rfl, m, rfl, tx cs, rfl, fits5 (by rw [tx_len]; omega), ?_⟩
        refine ⟨_, rfl, _, rfl, m, 1, rfl, rfl, ((m + 1 : Nat) : Int), congrArg V.int (by omega), tx cs, rfl, fits5 (by rw [tx_len]; omega), tx (cs.take m), tx (cs.drop (m + 1)), congrArg V.str (cut_txTo cs m), congrArg V.str (cut_txFrom cs (m + 1)), fits5 (by rw [tx_len, tx_len]; omega), ?_⟩
        refine ⟨_, rfl, cs, rfl, by omega, fun p np => ?_⟩
        refine ⟨_, rfl, cs, 2, rfl, rfl, by omega, by decide, by show 4 ≤ sizeLine; decide, fun L nL => ?_⟩
        rw [tx_app, tx_app, mulS_two]
        have s3 := same_new (o := .tup (cs.map sg)) np
        have s4 := same_new (o := .lst [.str (tx (cs.take m ++ ss ++ cs.drop m)), .str (tx (cs.take m ++ cs.drop (m + 1))), .ref p, .str (tx (cs ++ cs))]) nL
        refine ⟨d, c, L, _, t3, rfl, (pen3.same s3).same s4, SqL.of upd_same, ((pen3.same s3).new nL).1, by show 0 < 4; decide, by show 4 < _; decide, by omega, fun H5 y t5 but5 pen5 ht5 hy => ?_⟩
        have hp5 : H5 p = some (.tup (cs.map sg)) := but5 _ _ (pen3.new np).1 (s4 _ _ upd_same)
        have wp : ¬ N p := fun z => alloc_but hN1 but13 pen3 _ z np
        have hin : ∀ {zs : List Nat}, (∀ c ∈ zs, c ∈ cs ∨ c ∈ ss) → ∀ c ∈ zs, c < 128 := fun h c hc => (h c hc).elim (hsg c) (hsc c)
        obtain ⟨d', hx, hf'⟩ : ∃ d', Dx N H5 y d' ∧ Fit (B + 1) (2 * W + 40) (D + 3) d' := by
          simp only [List.mem_cons, List.not_mem_nil, or_false] at hy
          rcases hy with rfl | rfl | rfl | rfl
          · exact ⟨_, .str _, fit_str (by rw [List.length_append, List.length_append]; omega) (hin fun c hc => by
              rcases List.mem_append.mp hc with hc | hc
              · exact (List.mem_append.mp hc).elim (fun z => .inl (List.mem_of_mem_take z)) .inr
              · exact .inl (List.mem_of_mem_drop hc))⟩
          · exact ⟨_, .str _, fit_str (by rw [List.length_append]; omega) (hin fun c hc => .inl ((List.mem_append.mp hc).elim List.mem_of_mem_take List.mem_of_mem_drop))⟩
          · exact ⟨_, .tup hp5 wp (signs_dx cs), (fit_signs (B := B + 1) (W := 2 * W + 40) (D := 0) (by omega) hsg).tup.mono (Nat.le_refl _) (Nat.le_refl _) (by omega)⟩
          · exact ⟨_, .str _, fit_str (by rw [List.length_append]; omega) (hin fun c hc => .inl ((List.mem_append.mp hc).elim id id))⟩
        exact q H5 y d' t5 ((but13.trans (But.same (s3.trans s4))).trans but5) pen5 (by omega) hx hf'
      · refine ⟨_, rfl, _, _, .type "str", .type "tuple", false, rfl, .ty "tuple", ty, kit_ty (by decide +kernel), false, rfl, iteF ?_⟩
        refine ⟨_, rfl, _, _, .type "str", .type "tuple", false, rfl, .ty "tuple", ty, kit_ty (by decide +kernel), false, rfl, iteF ?_⟩
        refine ⟨_, rfl, _, _, .type "str", .type "int", false, rfl, .ty "int", ty, kit_ty (by decide +kernel), false, rfl, iteF ?_⟩
        exact ⟨_, rfl, d, c, t1, N, rfl, pen1, by omega, nd, hN1, oddQ⟩
    | false =>
      refine iteF ⟨_, rfl, _, _, .type (tyD dd), .type "tuple", isTupD dd, rfl, .ty "tuple", ty, kit_ty (kit_tup dd), isTupD dd, rfl, ?_⟩
      cases eT : isTupD dd with
      | true =>
        obtain ⟨a, xs, ds, rfl, rfl, ha, wa, hx⟩ := tup_dx hd1 eT
        have hl := hx.length
        obtain ⟨D0, rfl⟩ : ∃ D0, D = D0 + 1 := by
          have := hf.deep
          simp only [PyData.depth] at this
          exact ⟨D - 1, by omega⟩
        have hfa := hf.of_tup
        have hlw : ds.length ≤ W := hfa.len
        refine iteT ⟨_, rfl, Nat.zero_le _, fun p0 n0 => ?_⟩
        have s0 := same_new (o := .tup []) n0
        have pen2 := pen1.same s0
        have ha2 := s0 _ _ ha
        have hx2 := hx.same s0
        refine ⟨a, p0, xs, rfl, rfl, SqT.of ha2, SqT.of upd_same, _, rfl, ite2 (fun e1 => ⟨_, rfl, _, _, rfl, rfl, _, rfl, ite2 (fun e2 => ?A) (fun e2 => ?B)⟩) (fun e1 => ?C)⟩
        case A =>
          have hne : 0 < xs.length := by
            cases xs with
            | nil => exact absurd (show false = true from e1) (by decide)
            | cons _ _ => exact Nat.succ_pos _
          obtain ⟨m, rfl⟩ : ∃ m, n = m + 1 := by
            simp only [PyData.depth] at hn
            exact ⟨n - 1, by omega⟩
          have hdn : PyData.depthAll ds ≤ m := by
            simp only [PyData.depth] at hn
            omega
          generalize upd H1 p0 (.tup []) = H2 at *
          refine ⟨_, rfl, _, rfl, a, xs, rfl, .inr (SqT.of ha2), d, c, _, t1, rfl, pen2, by omega, by omega, by omega, fun H3 u t3 but3 pen3 ht3 u0 u1 => ?_⟩
          obtain ⟨j, rfl⟩ := nat_of u0
          have hj : j < xs.length := by omega
          have nad : a ≠ d := fun z => wa (z ▸ nd)
          have hN3 := alloc_but (alloc_same hN1 s0) but3 pen3
          have ha3 := but3 _ _ nad ha2
          have hx3 := hx2.but (but_N nd but3)
          refine ⟨_, rfl, _, rfl, j, rfl, slA_any ha3 fun p1 H4 s4 h4 o1 => ?_⟩
          rw [cut_to] at h4
          have hx4 := hx3.same s4
          obtain ⟨dj, hdj, hxj⟩ := hx4.get (List.getElem?_eq_getElem hj)
          have pen4 := pen3.same s4
          have hN4 := alloc_same hN3 s4
          have wp1 : ¬ N p1 := o1.elim (fun z => z ▸ wa) fun z h => hN3 _ h z
          have fj : Fit B dj.bulk D0 dj := ⟨okAll_iff.mp hfa.ok _ (List.mem_of_getElem? hdj), Nat.le_refl _, depthAll_le.mp hfa.deep _ (List.mem_of_getElem? hdj)⟩
          have hbj := bulk_mem (List.mem_of_getElem? hdj)
          have hfb := hfa.bulk
          refine ⟨_, rfl, _, rfl, _, rfl, a, xs, j, xs[j], rfl, rfl, SqT.of (s4 _ _ ha3), atI_nat (List.getElem?_eq_getElem hj), ?_⟩
          refine ⟨d, c, xs[j], dj, t3, B, dj.bulk, D0, N, rfl, pen4, by omega, nd, hN4, hxj, fj, depthAll_le.mp hdn _ (List.mem_of_getElem? hdj), hB, hB2, by omega, by omega, fun H5 y dy t5 but5 pen5 ht5 hy fy => ?_⟩
          have np1 : p1 ≠ d := fun z => wp1 (z ▸ nd)
          have hN5 := alloc_but hN4 but5 pen5
          have h5 := but5 _ _ np1 h4
          have ha5 := but5 _ _ nad (s4 _ _ ha3)
          have hx5 := hx4.but (but_N nd but5)
          refine ⟨by show 1 ≤ sizeLine; decide, fun p2 n2 => ?_⟩
          have s6 := same_new (o := .tup [y]) n2
          refine catA_any (s6 _ _ h5) upd_same (fits5 (by rw [List.length_take]; show _ + 1 ≤ _; omega)) fun p3 H7 s7 h7 o3 => ?_
          have wp2 : ¬ N p2 := fun z => hN5 _ z n2
          have wp3 : ¬ N p3 := o3.elim (fun z => z ▸ wp1) fun z => z.elim (fun z => z ▸ wp2) fun z h => alloc_same hN5 s6 _ h z
          have s57 := s6.trans s7
          refine ⟨_, rfl, _, rfl, j, 1, rfl, rfl, ((j + 1 : Nat) : Int), congrArg V.int (by omega), ?_⟩
          unfold tNoPart
          refine slA_any (s57 _ _ ha5) fun p4 H8 s8 h8 o4 => ?_
          have wp4 : ¬ N p4 := o4.elim (fun z => z ▸ wa) fun z h => alloc_same hN5 s57 _ h z
          rw [cut_from] at h8
          refine catA_any (s8 _ _ h7) h8 (fits5 (by rw [List.length_append, List.length_take, List.length_drop]; show _ + 1 + _ ≤ _; omega)) fun p5 H9 s9 h9 o5 => ?_
          have wp5 : ¬ N p5 := o5.elim (fun z => z ▸ wp3) fun z => z.elim (fun z => z ▸ wp4) fun z h => alloc_same hN5 (s57.trans s8) _ h z
          have s59 := (s57.trans s8).trans s9
          have hx9 := hx5.same s59
          have hsplit : ds = ds.take j ++ dj :: ds.drop (j + 1) := by
            have hj2 : j < ds.length := by omega
            have e1 : dj = ds[j] := by
              rw [List.getElem?_eq_getElem hj2] at hdj
              exact (Option.some.inj hdj).symm
            rw [e1, List.getElem_cons_drop, List.take_append_drop]
          have hbs : PyData.bulkAll ds = PyData.bulkAll (ds.take j) + (dj.bulk + 1 + PyData.bulkAll (ds.drop (j + 1))) := by
            conv => lhs; rw [hsplit]
            rw [bulkAll_app]
            simp only [PyData.bulkAll]
          have f1 := (hfa.sub (List.take_sublist j ds)).mono (Nat.le_succ B) (Nat.le_refl _) (Nat.le_add_right D0 3)
          have f2 := (hfa.sub (List.drop_sublist (j + 1) ds)).mono (Nat.le_succ B) (Nat.le_refl _) (Nat.le_add_right D0 3)
          have f3 := ((f1.app fy.one).app f2).tup.mono (W' := 2 * W + 40) (D' := D0 + 1 + 3) (Nat.le_refl _) (by omega) (by omega)
          exact q H9 (.ref p5) _ t5 ((((But.same s0).trans but3).trans ((But.same s4).trans but5)).trans (But.same s59)) (pen5.same s59) (by omega) (.tup h9 wp5 ((hx9.takes.append (.cons (hy.same s59) .nil)).append hx9.drops)) f3
        all_goals
          generalize upd H1 p0 (.tup []) = H2 at *
          have ty2 : TyX K H2 (V.ref a) (.type "tuple") := .base (.tup ha2)
          refine ⟨_, rfl, _, _, .type "tuple", .type "tuple", true, rfl, .ty "tuple", ty2, kit_ty (by decide +kernel), true, rfl, iteT ⟨_, rfl, _, _, rfl, rfl, _, rfl, ite2 (fun e3 => ?_) (fun e3 => ?_)⟩⟩
          · refine ⟨_, rfl, _, rfl, a, xs, rfl, .inr (SqT.of ha2), fun l1 m1 => ?_⟩
            have s3 := same_new (o := .lst xs) m1
            refine ⟨_, rfl, by show 1 ≤ sizeLine; decide, fun p1 m2 => ?_⟩
            have s4 := s3.trans (same_new (o := .tup [.int 0]) m2)
            refine catA_any (s4 _ _ ha2) upd_same (fits5 (by show _ + 1 ≤ _; omega)) fun p2 H5 s5 h5 o2 => ?_
            have hN2 := alloc_same hN1 s0
            have wl1 : ¬ N l1 := fun z => hN2 _ z m1
            have wp1 : ¬ N p1 := fun z => alloc_same hN2 s3 _ z m2
            have wp2 : ¬ N p2 := o2.elim (fun z => z ▸ wa) fun z => z.elim (fun z => z ▸ wp1) fun z h => alloc_same hN2 s4 _ h z
            have s6 := s4.trans s5
            refine ⟨_, rfl, 1, rfl, ?_⟩
            unfold tNoPart
            refine slA_any (s6 _ _ ha2) fun p3 H6 s7 h6 o3 => ?_
            have wp3 : ¬ N p3 := o3.elim (fun z => z ▸ wa) fun z h => alloc_same hN2 s6 _ h z
            rw [show cutV xs (some (1 : Int)) none = xs.drop 1 from cut_from xs 1] at h6
            have s8 := s6.trans s7
            refine ⟨_, rfl, by show 1 ≤ sizeLine; decide, fun p4 m4 => ?_⟩
            have s9 := same_new (o := .tup [.bl true]) m4
            refine catA_any (s9 _ _ (s8 _ _ ha2)) upd_same (fits5 (by show _ + 1 ≤ _; omega)) fun p5 H8 s10 h8 o5 => ?_
            have wp4 : ¬ N p4 := fun z => alloc_same hN2 s8 _ z m4
            have wp5 : ¬ N p5 := o5.elim (fun z => z ▸ wa) fun z => z.elim (fun z => z ▸ wp4) fun z h => alloc_same hN2 (s8.trans s9) _ h z
            have s11 := (s8.trans s9).trans s10
            refine ⟨_, rfl, by show 1 ≤ sizeLine; decide, fun p6 m6 => ⟨by show 1 ≤ sizeLine; decide, fun p7 m7 => ?_⟩⟩
            have s12 := same_new (o := .tup [.int 0]) m6
            have s13 := same_new (o := .tup [.ref p6]) m7
            refine catA_any (s13 _ _ (s12 _ _ (s11 _ _ ha2))) upd_same (fits5 (by show _ + 1 ≤ _; omega)) fun p8 H10 s14 h10 o8 => ?_
            have wp6 : ¬ N p6 := fun z => alloc_same hN2 s11 _ z m6
            have wp7 : ¬ N p7 := fun z => alloc_same hN2 (s11.trans s12) _ z m7
            have wp8 : ¬ N p8 := o8.elim (fun z => z ▸ wa) fun z => z.elim (fun z => z ▸ wp7) fun z h => alloc_same hN2 ((s11.trans s12).trans s13) _ h z
            have s15 := ((s11.trans s12).trans s13).trans s14
            refine ⟨by show 5 ≤ sizeLine; decide, fun L mL => ?_⟩
            have s16 := same_new (o := .lst [.ref l1, .ref p2, .ref p3, .ref p5, .ref p8]) mL
            refine ⟨d, c, L, _, t1, rfl, (pen2.same s15).same s16, SqL.of upd_same, ((pen2.same s15).new mL).1, by show 0 < 5; decide, by show 5 < _; decide, by omega, fun H11 y t11 but11 pen11 ht11 hy => ?_⟩
            have bAll : But d H10 H11 := (But.same s16).trans but11
            have hx10 := hx2.same s15
            have k1 : H10 l1 = some (.lst xs) := s14 _ _ (s13 _ _ (s12 _ _ (s10 _ _ (s9 _ _ (s7 _ _ (s5 _ _ (same_new (o := .tup [.int 0]) m2 _ _ upd_same)))))))
            have k2 : H10 p2 = some (.tup (xs ++ [.int 0])) := s14 _ _ (s13 _ _ (s12 _ _ (s10 _ _ (s9 _ _ (s7 _ _ h5)))))
            have k3 : H10 p3 = some (.tup (xs.drop 1)) := s14 _ _ (s13 _ _ (s12 _ _ (s10 _ _ (s9 _ _ h6))))
            have k5 : H10 p5 = some (.tup (xs ++ [.bl true])) := s14 _ _ (s13 _ _ (s12 _ _ h8))
            have k6 : H10 p6 = some (.tup [.int 0]) := s14 _ _ (s13 _ _ upd_same)
            have fa := hfa.mono (B' := B + 1) (W' := W) (D' := D0 + 1) (by omega) (Nat.le_refl _) (by omega)
            have g0 : Fit (B + 1) 0 0 (.int 0) := ⟨by simp only [okD]; exact Nat.pos_of_ne_zero (by simp), by decide, by decide⟩
            have g1 : Fit (B + 1) 0 0 (.bool true) := ⟨by simp only [okD], by decide, by decide⟩
            obtain ⟨d', hxy, hf'⟩ : ∃ d', Dx N H10 y d' ∧ Fit (B + 1) (2 * W + 40) (D0 + 1 + 3) d' := by
              simp only [List.mem_cons, List.not_mem_nil, or_false] at hy
              rcases hy with rfl | rfl | rfl | rfl | rfl
              · exact ⟨_, .lst k1 wl1 hx10, fa.lst.mono (Nat.le_refl _) (by omega) (by omega)⟩
              · exact ⟨_, .tup k2 wp2 (hx10.append (.cons (.int 0) .nil)), (fa.app (g0.one.mono (Nat.le_refl _) (Nat.le_refl _) (by omega))).tup.mono (Nat.le_refl _) (by omega) (by omega)⟩
              · exact ⟨_, .tup k3 wp3 hx10.drops, ((fa.sub (List.drop_sublist 1 ds)).mono (Nat.le_refl _) (Nat.le_trans (by
                  have hb := bulkAll_app (ds.take 1) (ds.drop 1)
                  rw [List.take_append_drop] at hb
                  omega) hfa.bulk) (Nat.le_refl _)).tup.mono (Nat.le_refl _) (by omega) (by omega)⟩
              · exact ⟨_, .tup k5 wp5 (hx10.append (.cons (.bl true) .nil)), (fa.app (g1.one.mono (Nat.le_refl _) (Nat.le_refl _) (by omega))).tup.mono (Nat.le_refl _) (by omega) (by omega)⟩
              · exact ⟨_, .tup h10 wp8 (hx10.append (.cons (.tup k6 wp6 (.cons (.int 0) .nil)) .nil)), (fa.app (g0.one.tup.one.mono (Nat.le_refl _) (Nat.le_refl _) (by omega))).tup.mono (Nat.le_refl _) (by omega) (by omega)⟩
            exact q H11 y d' t11 ((But.same (s0.trans s15)).trans bAll) pen11 (by omega) (hxy.but (but_N nd bAll)) hf'
          · refine ⟨_, rfl, _, _, .type "tuple", .type "int", false, rfl, .ty "int", ty2, kit_ty (by decide +kernel), false, rfl, iteF ?_⟩
            exact ⟨_, rfl, d, c, t1, N, rfl, pen2, by omega, nd, alloc_same hN1 s0, fun H2 x2 d2 t2 b2 p2 h2 hx2 hf2 => oddQ H2 x2 d2 t2 ((But.same s0).trans b2) p2 h2 hx2 hf2⟩
      | false =>
        refine iteF ⟨_, rfl, _, _, .type (tyD dd), .type "tuple", isTupD dd, rfl, .ty "tuple", ty, kit_ty (kit_tup dd), isTupD dd, rfl, ?_⟩
        rw [eT]
        refine iteF ⟨_, rfl, _, _, .type (tyD dd), .type "int", isIntD dd, rfl, .ty "int", ty, kit_ty (kit_int dd), isIntD dd, rfl, ?_⟩
        cases eI : isIntD dd with
        | false => exact iteF ⟨_, rfl, d, c, t1, N, rfl, pen1, by omega, nd, hN1, oddQ⟩
        | true =>
          refine iteT ⟨_, rfl, _, _, .type (tyD dd), .type "bool", isBoolD dd, rfl, .ty "bool", ty, kit_ty (kit_bool dd), isBoolD dd, rfl, ?_⟩
          cases eB : isBoolD dd with
          | true => exact iteF ⟨_, rfl, d, c, t1, N, rfl, pen1, by omega, nd, hN1, oddQ⟩
          | false =>
            obtain ⟨i, rfl, rfl⟩ := plain_int hd1 (by unfold plainD; rw [eI, eB]; rfl)
            have hi : i.natAbs < 10 ^ B := by have := hf.ok; simp only [okD] at this; exact this
            have fint : ∀ {j : Int}, j.natAbs < 10 * 10 ^ B → Fit (B + 1) (2 * W + 40) (D + 3) (.int j) := fun {j} hj => ⟨by simp only [okD]; rw [Nat.pow_succ]; omega, by simp only [PyData.bulk]; exact Nat.zero_le _, by simp only [PyData.depth]; exact Nat.zero_le _⟩
            have hp : 0 < 10 ^ B := Nat.pos_of_ne_zero (by simp)
            refine iteT ⟨_, rfl, _, rfl, i, 1, rfl, rfl, _, rfl, i, 1, rfl, rfl, _, rfl, 0, i, rfl, rfl, _, rfl, rfl, ?_⟩
            refine ⟨_, rfl, i, rfl, log_small (by omega) hi, ?_⟩
            refine ⟨_, rfl, by show 1 ≤ sizeLine; decide, fun p np => ?_⟩
            refine ⟨_, rfl, i, 10, rfl, rfl, .inr ⟨by decide, by decide⟩, by show 7 ≤ sizeLine; decide, fun L nL => ?_⟩
            have s3 := same_new (o := .tup [.int i]) np
            have s4 := same_new (o := .lst [.int (i + 1), .int (i - 1), .int (0 - i), .bl (decide (V.int i = V.int 1)), .str (Str.ofString (toString i)), .ref p, .int (i * 10)]) nL
            refine ⟨d, c, L, _, t1, rfl, (pen1.same s3).same s4, SqL.of upd_same, ((pen1.same s3).new nL).1, by show 0 < 7; decide, by show 7 < _; decide, by omega, fun H5 y t5 but5 pen5 ht5 hy => ?_⟩
            have hp5 : H5 p = some (.tup [.int i]) := but5 _ _ (pen1.new np).1 (s4 _ _ upd_same)
            have wp : ¬ N p := fun z => hN1 _ z np
            generalize hM : 10 ^ B = M at *
            obtain ⟨d', hxy, hf'⟩ : ∃ d', Dx N H5 y d' ∧ Fit (B + 1) (2 * W + 40) (D + 3) d' := by
              simp only [List.mem_cons, List.not_mem_nil, or_false] at hy
              rcases hy with rfl | rfl | rfl | rfl | rfl | rfl | rfl
              · exact ⟨_, .int _, fint (by omega)⟩
              · exact ⟨_, .int _, fint (by omega)⟩
              · exact ⟨_, .int _, fint (by omega)⟩
              · exact ⟨_, .bl _, ⟨by simp only [okD], by simp only [PyData.bulk]; exact Nat.zero_le _, by simp only [PyData.depth]; exact Nat.zero_le _⟩⟩
              · rw [← hM] at hi
                have hz := int_text_size (by omega) hi
                refine ⟨_, .str _, ⟨by simp only [okD]; exact int_signs i, ?_, by simp only [PyData.depth]; exact Nat.zero_le _⟩⟩
                simp only [PyData.bulk]
                omega
              · exact ⟨_, .tup hp5 wp (.cons (.int i) .nil), (Fit.one (W := 0) (D := 0) (B := B + 1) ⟨by simp only [okD]; rw [Nat.pow_succ, hM]; omega, by simp only [PyData.bulk]; exact Nat.zero_le _, by simp only [PyData.depth]; exact Nat.zero_le _⟩).tup.mono (Nat.le_refl _) (by omega) (by omega)⟩
              · exact ⟨_, .int _, fint (by omega)⟩
            exact q H5 y d' t5 ((But.same (s3.trans s4)).trans but5) pen5 (by omega) hxy hf'
theorem ok_chg {k : Nat} (T : Txt K mg) : ∀ n : Nat, FnOk P w K mg base CX0 (k + n + 5) T.aLChanged T.dLChanged ["_law_pen_here", "_law_value"] (spChg n)
  | 0 => chg_step (n := 0) T ⟨fun _ _ _ _ h => h.elim, fun _ _ _ _ _ _ _ _ _ _ _ _ _ h => h.elim⟩
  | n + 1 => chg_step (n := n + 1) T (ok_chg T n)
end
end Mo

namespace Mo
open PySem PySem.Spec PyProof.Rows L2
section
variable {P : Program} {w : World} {K : PySem.W.Frag} {mg : Str → Option Value} {base : Heap}
/-- pen(script): a new pen -/
def spPen (K : PySem.W.Frag) : Sp := fun vs H Q _ => ∃ (a : Addr) (ns : List Int), vs = [.ref a] ∧ SqL K H a (ns.map V.int) ∧ ns.length ≤ 63 ∧ ∀ H' d c, Same H H' → H d = none → Pen H' d c 0 → Q (.ref d) H'
theorem ok_pen {k : Nat} (T : Txt K mg) : FnOk P w K mg base CX0 (k + 1) T.aLPen T.dLPen ["_law_script"] (spPen K) := by
  refine T.fLPen.ok scLPen (fun vs H Q E h => ?_) (fun cdv A outer s H vs Q E hr h => ?_)
  · obtain ⟨a, ns, rfl, _⟩ := h
    rfl
  · obtain ⟨a, ns, rfl, hs, hn, q⟩ := h
    refine ⟨_, (pss_one (ps_ret (pe_disp (pps_cons pe_str (pe_callTy call_list_of (by rfl) T.m_list (by decide +kernel) (pa_cons (pe_slice sl_list (pv 0) po_none (po_some pe_int)) pa_nil)) (pps_cons pe_str pe_int (pps_cons pe_str pe_int pps_nil))) (by rfl) (by rfl) (fun z => by cases z) (by decide)))), ?_⟩
    intro d nd
    have s1 := same_new (o := .dK []) nd
    refine ⟨_, rfl, 63, rfl, a, _, rfl, s1.seq hs, fun p np => ?_⟩
    have s2 := same_new (o := .lst (cutV (ns.map V.int) none (some 63))) np
    refine ⟨p, _, rfl, .inl (SqL.of upd_same), fun c nc => ?_⟩
    have s3 := same_new (o := .lst (cutV (ns.map V.int) none (some 63))) nc
    have ec : cutV (ns.map V.int) none (some 63) = ns.map V.int := by
      unfold cutV
      rw [HT.sIx_none, show (some (63 : Int)) = some ((63 : Nat) : Int) from rfl, HT.sIx_nat, List.drop_zero, Nat.sub_zero, List.length_map]
      exact List.take_of_length_le (by rw [List.length_map]; omega)
    rw [ec] at nc s2 s3 ⊢
    have hd3 := s3 _ _ (s2 _ _ (upd_same (H := H) (a := d) (o := .dK [])))
    refine ⟨hd3, penD c 0 0, rfl, by show 3 ≤ 15; decide, ?_⟩
    rw [pen_merge]
    have ncd : c ≠ d := (ne_of_none (s2 _ _ (upd_same (H := H) (a := d) (o := .dK []))) nc).symm
    refine q _ d c (Same.put ((s1.trans s2).trans s3) nd) nd ⟨ns, 0, upd_same, by rw [upd_ne ncd, upd_same], hn, Int.le_refl 0⟩

def Wf (j : Nat) : Nat := 5040 * 2 ^ j - 40
theorem Wf_succ (j : Nat) : 2 * Wf j + 40 = Wf (j + 1) := by
  unfold Wf
  have := Nat.pos_of_ne_zero (show 2 ^ j ≠ 0 by simp)
  rw [Nat.pow_succ]
  omega
theorem Wf_le {j : Nat} (h : j ≤ 3) : Wf j ≤ 40280 := by
  match j, h with
  | 0, _ => decide
  | 1, _ => decide
  | 2, _ => decide
  | 3, _ => decide
/-- the values of a turn -/
structure VL (N : Addr → Prop) (H : Hp) (l : Addr) (j : Nat) (vs : List V) : Prop where
  at_ : H l = some (.lst vs)
  len : vs.length ≤ 4 + j
  pos : 0 < vs.length
  dat : ∀ v ∈ vs, ∃ dd, Dx N H v dd ∧ Fit (21 + j) (Wf j) (3 + 3 * j) dd
theorem VL.same {N : Addr → Prop} {H H' : Hp} {l : Addr} {j : Nat} {vs : List V} (h : VL N H l j vs) (s : Same H H') : VL N H' l j vs :=
  ⟨s _ _ h.at_, h.len, h.pos, fun v hv => (h.dat v hv).elim fun dd z => ⟨dd, z.1.same s, z.2⟩⟩
theorem VL.but {N : Addr → Prop} {H H' : Hp} {l d : Addr} {j : Nat} {vs : List V} (h : VL N H l j vs) (b : But d H H') (nd : N d) (ne : l ≠ d) : VL N H' l j vs :=
  ⟨b _ _ ne h.at_, h.len, h.pos, fun v hv => (h.dat v hv).elim fun dd z => ⟨dd, z.1.but (but_N nd b), z.2⟩⟩
/-- one value more -/
theorem VL.add {N : Addr → Prop} {H : Hp} {l : Addr} {j j' : Nat} {vs : List V} {y : V} {dd : PyData} (h : VL N H l j vs) (nl : N l) (hj : j ≤ j') (hl : vs.length + 1 ≤ 4 + j') (hy : Dx N H y dd) (hf : Fit (21 + j') (Wf j') (3 + 3 * j') dd) : VL N (upd H l (.lst (vs ++ [y]))) l j' (vs ++ [y]) := by
  have hs : ∀ b o, ¬ N b → H b = some o → upd H l (.lst (vs ++ [y])) b = some o := fun b o nb e => by
    rw [upd_ne (show b ≠ l from fun z => nb (by rw [z]; exact nl))]
    exact e
  refine ⟨upd_same, by rw [List.length_append]; exact hl, by rw [List.length_append]; exact Nat.succ_pos _, fun v hv => ?_⟩
  rcases List.mem_append.mp hv with hv | hv
  · obtain ⟨dv, h1, h2⟩ := h.dat v hv
    refine ⟨dv, h1.but hs, h2.mono (by omega) ?_ (by omega)⟩
    unfold Wf
    have := Nat.pow_le_pow_right (show 0 < 2 by decide) hj
    omega
  · rw [List.mem_singleton.mp hv]
    exact ⟨dd, hy.but hs, hf⟩
theorem bool_fits (b : Bool) : (PyData.bool b).showable = true ∧ (PyData.bool b).depth ≤ 40 ∧ (PyData.bool b).shown.length ≤ sizeLine := by
  cases b <;> exact ⟨rfl, by decide, by decide +kernel⟩
def spLaw (K : PySem.W.Frag) : Sp := fun vs H Q _ => ∃ (a : Addr) (ns : List Int), vs = [.ref a] ∧ SqL K H a (ns.map V.int) ∧ ns.length ≤ 63 ∧ ∀ H', Q (.bl true) H'
theorem same_ne (x : V) : V.bl (!decide (x = x)) = V.bl false := by simp
theorem fit_ints {B W D : Nat} {ns : List Int} (h : ns.length ≤ W) (hB : 7 ≤ B) (hc : ∀ n ∈ ns, n.natAbs ≤ 1000000) : FitAll B W D (ns.map PyData.int) := by
  refine ⟨okAll_iff.mpr fun d hd => ?_, ?_, depthAll_le.mpr fun d hd => ?_⟩
  · obtain ⟨n, hn, rfl⟩ := List.mem_map.mp hd
    simp only [okD]
    exact Nat.lt_of_le_of_lt (hc n hn) (Nat.lt_of_lt_of_le (by decide) (Nat.pow_le_pow_right (show 0 < 10 by decide) hB))
  · have key : ∀ ns : List Int, PyData.bulkAll (ns.map PyData.int) = ns.length := by
      intro ns
      induction ns with
      | nil => rfl
      | cons n ns ih =>
        rw [List.map_cons]
        simp only [PyData.bulkAll, PyData.bulk, List.length_cons]
        omega
    rw [key]
    exact h
  · obtain ⟨n, hn, rfl⟩ := List.mem_map.mp hd
    simp only [PyData.depth]
    exact Nat.zero_le _
theorem ok_law {k : Nat} (T : Txt K mg) (hbm : ∃ mm, base.Ns sysModules mm) : FnG P w K mg base CX0 (k + 26) T.aLaw T.dLaw ["_law_script"] (spLaw K) := by
  have GLPen : FnOk P w K mg base CX0 (k + 25) T.aLPen T.dLPen ["_law_script"] (spPen K) := ok_pen T
  have GLDraw : FnOk P w K mg base CX0 (k + 25) T.aLDraw T.dLDraw ["_law_pen_here", "_law_size"] spDraw := ok_draw T
  have GLPick : FnOk P w K mg base CX0 (k + 25) T.aLPick T.dLPick ["_law_pen_here", "_law_options"] (spPick K) := ok_pick T
  have GLPattern : FnOk P w K mg base CX0 (k + 25) T.aLPattern T.dLPattern ["_law_pen_here", "_law_size", "_law_count"] spPattern := ok_pattern T
  have GLText : FnOk P w K mg base CX0 (k + 25) T.aLText T.dLText ["_law_pen_here"] spMk := ok_mk T
  have GLOdd : FnOk P w K mg base CX0 (k + 25) T.aLOdd T.dLOdd ["_law_pen_here"] spOdd := ok_odd T
  have GLChanged : FnOk P w K mg base CX0 (k + 25) T.aLChanged T.dLChanged ["_law_pen_here", "_law_value"] (spChg 20) := ok_chg T 20
  have GIsPattern : FnOk P w K mg base CX0 (k + 25) T.aIsPattern T.dIsPattern ["value"] (spAsk patD) := ok_pat T
  have GLIsPattern : FnOk P w K mg base CX0 (k + 25) T.aLIsPattern T.dLIsPattern ["_law_value"] (spAsk patD) := ok_lpat T
  have GIsText : FnOk P w K mg base CX0 (k + 25) T.aIsText T.dIsText ["value"] (spAsk textD) := ok_text T
  have GLIsText : FnOk P w K mg base CX0 (k + 25) T.aLIsText T.dLIsText ["_law_value"] (spAsk textD) := ok_ltext T
  refine okG T.fLaw scLaw (fun vs H Q E h => ?_) (fun cdv A outer s H vs Q E hr hgd h => ?_)
  · obtain ⟨a, ns, rfl, _⟩ := h
    rfl
  · obtain ⟨a, ns, rfl, hs, hn, q⟩ := h
    refine ⟨_, (pss_cons (ps_set (i := 1) scLaw.nd rfl (Or.inl rfl) (pe_call GLPen hr (by rfl) T.gLPen T.fLPen.kp T.bLPen .nil pass0 (pa_cons (pv 0) pa_nil)))
      (pss_cons (ps_for PassesOwn.never rfl (pi_range1 (by rfl) T.m_range (pa_cons pe_int pa_nil)) (pg_name (i := 2) scLaw.nd rfl (Or.inl rfl)) (pss_cons (ps_set (i := 3) scLaw.nd rfl (Or.inl rfl) (pe_lst (pa_cons (pe_call GLPattern hr (by rfl) T.gLPattern T.fLPattern.kp T.bLPattern .nil pass0 (pa_cons (pv 1) (pa_cons pe_int (pa_cons pe_int pa_nil)))) (pa_cons (pe_call GLText hr (by rfl) T.gLText T.fLText.kp T.bLText .nil pass0 (pa_cons (pv 1) pa_nil)) (pa_cons (pe_call GLOdd hr (by rfl) T.gLOdd T.fLOdd.kp T.bLOdd .nil pass0 (pa_cons (pv 1) pa_nil)) pa_nil)))))
      (Evl.pss_cut (ps_if (PW.pt (pw_and (pt_cmpR op_eq (pv 2) pe_int (nomark _)) (pw_and1 (pt_cmpR op_eq (pe_call GLDraw hr (by rfl) T.gLDraw T.fLDraw.kp T.bLDraw .nil pass0 (pa_cons (pv 1) (pa_cons pe_int pa_nil))) pe_int (nomark _))))) (pss_one (ps_expr (pe_bm PySem.F.plainAttrs_list PySem.F.slot_list_append PySem.F.type_list_append mt_append (pv 3) (pa_cons (pe_op Mo.op_repN (pe_tup (pa_cons (pe_call GLDraw hr (by rfl) T.gLDraw T.fLDraw.kp T.bLDraw .nil pass0 (pa_cons (pv 1) (pa_cons (pe_op op_pow pe_int pe_int) pa_nil))) pa_nil)) (pe_op op_add pe_int (pe_call GLDraw hr (by rfl) T.gLDraw T.fLDraw.kp T.bLDraw .nil pass0 (pa_cons (pv 1) (pa_cons pe_int pa_nil))))) pa_nil)))) pss_nil)
      (pss_cons (ps_for PassesOwn.never rfl (pi_range1 (by rfl) T.m_range (pa_cons pe_int pa_nil)) (pg_name (i := 4) scLaw.nd rfl (Or.inl rfl)) (pss_one (ps_expr (pe_bm PySem.F.plainAttrs_list PySem.F.slot_list_append PySem.F.type_list_append mt_append (pv 3) (pa_cons (pe_call GLChanged hr (by rfl) T.gLChanged T.fLChanged.kp T.bLChanged .nil pass0 (pa_cons (pv 1) (pa_cons (pe_call GLPick hr (by rfl) T.gLPick T.fLPick.kp T.bLPick .nil pass0 (pa_cons (pv 1) (pa_cons (pv 3) pa_nil))) pa_nil))) pa_nil)))))
      (pss_one (ps_for PassesOwn.never rfl (pi_list (pv 3)) (pg_name (i := 5) scLaw.nd rfl (Or.inl rfl)) (pss_cons (ps_set (i := 6) scLaw.nd rfl (Or.inl rfl) (pe_callB (Mo.cr_reprX hbm hgd hr.units) (by rfl) T.m_repr (by decide +kernel) (pa_cons (pv 5) pa_nil)))
      (pss_cons (ps_if (pt_cmpR op_ne (pe_callB (Mo.cr_reprX hbm hgd hr.units) (by rfl) T.m_repr (by decide +kernel) (pa_cons (pe_call GIsPattern hr (by rfl) T.gIsPattern T.fIsPattern.kp T.bIsPattern .nil pass0 (pa_cons (pv 5) pa_nil)) pa_nil)) (pe_callB (Mo.cr_reprX hbm hgd hr.units) (by rfl) T.m_repr (by decide +kernel) (pa_cons (pe_call GLIsPattern hr (by rfl) T.gLIsPattern T.fLIsPattern.kp T.bLIsPattern .nil pass0 (pa_cons (pv 5) pa_nil)) pa_nil)) (nomark _)) (pss_one (ps_ret pe_bl)) pss_nil)
      (pss_one (ps_if (PW.pt (pw_or (pt_cmpR op_ne (pe_callB (Mo.cr_reprX hbm hgd hr.units) (by rfl) T.m_repr (by decide +kernel) (pa_cons (pe_call GIsText hr (by rfl) T.gIsText T.fIsText.kp T.bIsText .nil pass0 (pa_cons (pv 5) pa_nil)) pa_nil)) (pe_callB (Mo.cr_reprX hbm hgd hr.units) (by rfl) T.m_repr (by decide +kernel) (pa_cons (pe_call GLIsText hr (by rfl) T.gLIsText T.fLIsText.kp T.bLIsText .nil pass0 (pa_cons (pv 5) pa_nil)) pa_nil)) (nomark _)) (pw_or1 (pt_cmpR op_ne (pe_callB (Mo.cr_reprX hbm hgd hr.units) (by rfl) T.m_repr (by decide +kernel) (pa_cons (pv 5) pa_nil)) (pv 6) (nomark _))))) (pss_one (ps_ret pe_bl)) pss_nil))))))))))
      (pss_one (ps_ret pe_bl)))), ?_⟩
    refine ⟨_, rfl, a, ns, rfl, hs, hn, fun H0 d c s0 nd pen0 => ?_⟩
    refine ⟨10, rfl, by decide, by decide, for_range (lo := 0) (n := 10) (fun i σ H' => ∃ (t : Nat) (o2 o3 o4 o5 o6 : Option V), σ = [some (.ref a), some (.ref d), o2, o3, o4, o5, o6] ∧ Pen H' d c t ∧ t ≤ 1000 * i) ?_ ?_ ?_⟩
    · exact ⟨0, none, none, none, none, none, rfl, pen0, Nat.zero_le _⟩
    · rintro i σ H1 hi ⟨t, o2, o3, o4, o5, o6, rfl, pen1, ht⟩
      refine ⟨_, rfl, d, c, 42, 10, t, rfl, pen1, by decide, by decide, by decide, by omega, fun H2 zs t2 but2 pen2 ht2 hz1 hz2 hz3 => ?_⟩
      refine ⟨_, rfl, d, c, t2, rfl, pen2, by omega, fun H3 p ms t3 but3 pen3 ht3 hp hms hsm => ?_⟩
      refine ⟨_, rfl, d, c, t3, (fun x => x = d), rfl, pen3, by omega, rfl, ?_, fun H4 x dd t4 but4 pen4 ht4 hx hf => ⟨by show 3 ≤ sizeLine; decide, fun l nl => ?_⟩⟩
      · rintro b rfl z
        obtain ⟨_, _, e, _⟩ := pen3
        rw [e] at z
        cases z
      have npd : p ≠ d := by
        obtain ⟨_, _, e, _⟩ := pen3
        exact ne_of hp e (by intro z; cases z)
      have s5 := same_new (o := .lst [.str (tx zs), .ref p, x]) nl
      have pen5 := pen4.same s5
      have npl : p ≠ l := ne_of_none (but4 _ _ npd hp) nl
      have v5 : VL (fun x => x = d ∨ x = l) (upd H4 l (.lst [.str (tx zs), .ref p, x])) l 0 [.str (tx zs), .ref p, x] := by
        refine ⟨upd_same, by show 3 ≤ 4; decide, by show 0 < 3; decide, fun v hv => ?_⟩
        simp only [List.mem_cons, List.not_mem_nil, or_false] at hv
        rcases hv with rfl | rfl | rfl
        · exact ⟨_, .str _, fit_str (Nat.le_trans hz1 (by decide)) (fun c hc => by have := hz2 c hc; omega)⟩
        · exact ⟨_, .tup (s5 _ _ (but4 _ _ npd hp)) (fun z => z.elim npd npl) (ints_dx ms), (fit_ints (W := Wf 0) (D := 2) (Nat.le_trans hms (by decide)) (by decide) hsm).tup⟩
        · exact ⟨dd, (hx.more (fun b hb z => z.elim id fun z => absurd nl (z ▸ hb))).same s5, hf.mono (Nat.le_refl _) (by decide) (Nat.le_refl _)⟩
      have nld := (pen4.new nl).1
      have nlc := (pen4.new nl).2
      generalize upd H4 l (.lst [.str (tx zs), .ref p, x]) = H5 at *
      clear s5 hx hf hp hsm npl npd hz1 hz2 hz3 nl but2 but3 but4 pen2 pen3 pen4
      refine ⟨fun σ' H' => ∃ (vs : List V) (t' : Nat), σ' = [some (.ref a), some (.ref d), some (.int (0 + (i : Int))), some (.ref l), o4, o5, o6] ∧ Pen H' d c t' ∧ t' ≤ t4 + 3 ∧ VL (fun x => x = d ∨ x = l) H' l 0 vs, ?_, ?_⟩
      · have stay : ∃ (vs : List V) (t' : Nat), [some (V.ref a), some (V.ref d), some (V.int (0 + (i : Int))), some (V.ref l), o4, o5, o6] = [some (V.ref a), some (V.ref d), some (V.int (0 + (i : Int))), some (V.ref l), o4, o5, o6] ∧ Pen H5 d c t' ∧ t' ≤ t4 + 3 ∧ VL (fun x => x = d ∨ x = l) H5 l 0 vs := ⟨_, t4, rfl, pen5, by omega, v5⟩
        refine ⟨_, rfl, rfl, _, rfl, ite2 (fun e1 => ?_) (fun e1 => stay)⟩
        refine ⟨_, rfl, d, c, 4, t4, rfl, pen5, by decide, by decide, by omega, fun H6 k6 t6 but6 pen6 ht6 k60 k61 => ⟨rfl, _, rfl, ite2 (fun e2 => ?_) (fun e2 => ?_)⟩⟩
        · refine ⟨_, rfl, .inl ⟨rfl, _, SqL.of (but6 _ _ nld v5.at_)⟩, _, rfl, 10, 6, rfl, rfl, ⟨by decide, by decide, by decide⟩, d, c, _, t6, rfl, pen6, by decide, by decide, by omega, fun H7 u t7 but7 pen7 ht7 u0 u1 => ⟨by show 1 ≤ sizeLine; decide, fun p np => ?_⟩⟩
          have s7 := same_new (o := .tup [.int u]) np
          refine ⟨_, rfl, d, c, 4, t7, rfl, pen7.same s7, by decide, by decide, by omega, fun H8 v t8 but8 pen8 ht8 v0 v1 => ?_⟩
          obtain ⟨m, rfl⟩ := nat_of v0
          have hp8 : H8 p = some (.tup [.int u]) := but8 _ _ (pen7.new np).1 upd_same
          refine ⟨4095, m, rfl, rfl, p, 4095 + m, [.int u], rfl, congrArg V.int (by omega), SqT.of hp8, by simp, by omega, by omega, by show 1 ≤ 10; decide, fun r nr => ?_⟩
          have s8 := same_new (o := .tup (List.replicate (4095 + m) [.int u]).flatten) nr
          have b58 : But d H5 (upd H8 r (.tup (List.replicate (4095 + m) [.int u]).flatten)) := (((but6.trans but7).trans (But.same s7)).trans but8).trans (But.same s8)
          have v8 := v5.but b58 (.inl rfl) nld
          have e6 : (10 : Int) ^ (6 : Int).toNat = 1000000 := by decide
          rw [e6] at u1
          have erep : (List.replicate (4095 + m) [V.int u]).flatten = (List.replicate (4095 + m) u).map V.int := by
            rw [List.flatten_replicate_singleton, List.map_replicate]
          have h8l : H8 l ≠ none := by
            have := (((but6.trans but7).trans (But.same s7)).trans but8) _ _ nld v5.at_
            rw [this]
            exact Option.some_ne_none _
          have wr : ¬ (fun x => x = d ∨ x = l) r := fun z => z.elim (fun z => (pen8.new nr).1 z) fun z => h8l (z ▸ nr)
          refine ⟨l, _, .ref r, rfl, rfl, v8.at_, by show 3 < sizeLine; decide, ?_⟩
          refine ⟨_, t8, rfl, (pen8.same s8).upd nld nlc, by omega, v8.add (dd := .tuple ((List.replicate (4095 + m) u).map .int)) (.inr rfl) (Nat.le_refl _) (by show 4 ≤ 4; decide) (.tup (by rw [upd_same, erep]) wr (ints_dx _)) ?_⟩
          exact (fit_ints (W := Wf 0) (D := 2) (by rw [List.length_replicate]; show _ ≤ 5000; omega) (by decide) (fun n hn => by rw [List.eq_of_mem_replicate hn]; omega)).tup
        · exact ⟨_, t6, rfl, pen6, by omega, v5.but but6 (.inl rfl) nld⟩
      · rintro σ' H6 ⟨vs, t6, rfl, pen6, ht6, v6⟩
        refine ⟨3, rfl, by decide, by decide, for_range (lo := 0) (n := 3) (fun j σ H' => ∃ (vs : List V) (t' : Nat) (o4 : Option V), σ = [some (.ref a), some (.ref d), some (.int (0 + (i : Int))), some (.ref l), o4, o5, o6] ∧ Pen H' d c t' ∧ t' ≤ t4 + 3 + 110 * j ∧ VL (fun x => x = d ∨ x = l) H' l j vs) ?_ ?_ ?_⟩
        · exact ⟨vs, t6, o4, rfl, pen6, by omega, v6⟩
        · rintro j σ H7 hj ⟨vs, t7, o4, rfl, pen7, ht7, v7⟩
          have hlen := v7.len
          refine ⟨_, rfl, .inl ⟨rfl, _, SqL.of v7.at_⟩, _, rfl, _, rfl, _, rfl, d, c, l, vs, t7, rfl, pen7, SqL.of v7.at_, nld, v7.pos, by omega, by omega, fun H8 v t8 but8 pen8 ht8 hv => ?_⟩
          have v8 := v7.but but8 (.inl rfl) nld
          obtain ⟨dv, hdv, hfv⟩ := v8.dat v hv
          have hW2 : Wf j ≤ 40000 := by
            match j, hj with
            | 0, _ => decide
            | 1, _ => decide
            | 2, _ => decide
          have hal : ∀ b, (fun x => x = d ∨ x = l) b → H8 b ≠ none := by
            rintro b (rfl | rfl) z
            · obtain ⟨_, _, e, _⟩ := pen8
              rw [e] at z
              cases z
            · rw [v8.at_] at z
              cases z
          refine ⟨d, c, v, dv, t8, 21 + j, Wf j, 3 + 3 * j, (fun x => x = d ∨ x = l), rfl, pen8, by omega, .inl rfl, hal, hdv, hfv, Nat.le_trans hfv.deep (by omega), by omega, by omega, hW2, by decide, fun H9 y dy t9 but9 pen9 ht9 hy hfy => ?_⟩
          have v9 := v8.but but9 (.inl rfl) nld
          exact ⟨l, vs, y, rfl, rfl, v9.at_, fitsLt (by omega), vs ++ [y], t9, _, rfl, pen9.upd nld nlc, by omega, v9.add (.inr rfl) (Nat.le_succ j) (by omega) hy (hfy.mono (by omega) (Nat.le_of_eq (Wf_succ j)) (by omega))⟩
        · rintro σ H7 ⟨vs, t7, o4, rfl, pen7, ht7, v7⟩
          refine ⟨_, rfl, l, rfl, ⟨vs, SqL.of v7.at_⟩, for_list (xs := vs) (fun m σ H' => ∃ (o5 o6 : Option V), σ = [some (.ref a), some (.ref d), some (.int (0 + (i : Int))), some (.ref l), o4, o5, o6] ∧ Same H7 H') ?_ ?_ ?_ ?_⟩
          · exact ⟨o5, o6, rfl, Same.refl _⟩
          · rintro m σ H8 _ ⟨o5, o6, rfl, s8⟩
            exact SqL.of (s8 _ _ v7.at_)
          · rintro m v σ H8 hv ⟨o5, o6, rfl, s8⟩
            obtain ⟨dv, hdv, hfv⟩ := v7.dat v (List.mem_of_getElem? hv)
            have hw3 : Wf 3 = 40280 := by decide
            have R := hfv.repr (by decide) (by decide) (by omega) (by decide)
            have hb : dv.bulk ≤ 1000000 := Nat.le_trans hfv.bulk (by omega)
            have bf := bool_fits
            refine ⟨_, rfl, _, v, dv, rfl, hdv.same s8, R.1, R.2.1, R.2.2, ?_⟩
            refine ⟨_, rfl, _, v, dv, rfl, hdv.same s8, hb, fun H9 s9 => ?_⟩
            refine ⟨fun _ => True, _, _, rfl, .bl _, (bf _).1, (bf _).2.1, (bf _).2.2, ?_⟩
            refine ⟨_, rfl, _, v, dv, rfl, hdv.same (s8.trans s9), hb, fun H10 s10 => ?_⟩
            refine ⟨fun _ => True, _, _, rfl, .bl _, (bf _).1, (bf _).2.1, (bf _).2.2, rfl, false, same_ne _, iteF ?_⟩
            have s810 := (s8.trans s9).trans s10
            refine ⟨_, rfl, _, v, dv, rfl, hdv.same s810, hb, fun H11 s11 => ?_⟩
            refine ⟨fun _ => True, _, _, rfl, .bl _, (bf _).1, (bf _).2.1, (bf _).2.2, ?_⟩
            refine ⟨_, rfl, _, v, dv, rfl, hdv.same (s810.trans s11), hb, fun H12 s12 => ?_⟩
            refine ⟨fun _ => True, _, _, rfl, .bl _, (bf _).1, (bf _).2.1, (bf _).2.2, rfl, false, same_ne _, iteF ?_⟩
            have s812 := (s810.trans s11).trans s12
            refine ⟨_, rfl, _, v, dv, rfl, hdv.same s812, R.1, R.2.1, R.2.2, _, rfl, rfl, false, same_ne _, iteF ?_⟩
            exact ⟨_, _, rfl, s812⟩
          · rintro σ H8 ⟨o5, o6, rfl, s8⟩
            exact ⟨t7, _, _, _, _, _, rfl, pen7.same s8, by omega⟩
    · rintro σ H1 ⟨t, o2, o3, o4, o5, o6, rfl, _⟩
      exact q H1
end
end Mo

namespace Mo
open PySem PySem.Spec PyProof.Rows L2
theorem txt_mk {K : PySem.W.Frag} {h : Heap} {mg : Str → Option Value} {fa : Addr} (X : K.In h) (G : h.Ns mainGlobals mg) (hfa : mg "law" = some (.ref fa))
    {od0 an0 : Option Addr} {sl0 : Array (Option Value)} {oc0 kV0 dc0 pm0 cd0 ct0 : Value} {f0 : Addr}
    (a0 : PySem.W.nsIn K mainGlobals "is_pattern" = some (some (.ref f0))) (l0 : K.lookup f0 = some ⟨oc0, od0, .func (PySem.W.fnOf "is_pattern" "is_pattern" (defArgs sIsPattern) (defBody sIsPattern) (defScope sIsPattern) .none kV0 dc0 pm0 an0 cd0 ct0), sl0⟩) (c0 : PySem.W.codeIn K cd0 "is_pattern" = true) (k0 : PySem.W.keepIn K (.ref f0) = true)
    {od1 an1 : Option Addr} {sl1 : Array (Option Value)} {oc1 kV1 dc1 pm1 cd1 ct1 : Value} {f1 : Addr}
    (a1 : PySem.W.nsIn K mainGlobals "is_plain_integer" = some (some (.ref f1))) (l1 : K.lookup f1 = some ⟨oc1, od1, .func (PySem.W.fnOf "is_plain_integer" "is_plain_integer" (defArgs sIsPlainInteger) (defBody sIsPlainInteger) (defScope sIsPlainInteger) .none kV1 dc1 pm1 an1 cd1 ct1), sl1⟩) (c1 : PySem.W.codeIn K cd1 "is_plain_integer" = true) (k1 : PySem.W.keepIn K (.ref f1) = true)
    {od2 an2 : Option Addr} {sl2 : Array (Option Value)} {oc2 kV2 dc2 pm2 cd2 ct2 : Value} {f2 : Addr}
    (a2 : PySem.W.nsIn K mainGlobals "is_letter" = some (some (.ref f2))) (l2 : K.lookup f2 = some ⟨oc2, od2, .func (PySem.W.fnOf "is_letter" "is_letter" (defArgs sIsLetter) (defBody sIsLetter) (defScope sIsLetter) .none kV2 dc2 pm2 an2 cd2 ct2), sl2⟩) (c2 : PySem.W.codeIn K cd2 "is_letter" = true) (k2 : PySem.W.keepIn K (.ref f2) = true)
    {od3 an3 : Option Addr} {sl3 : Array (Option Value)} {oc3 kV3 dc3 pm3 cd3 ct3 : Value} {f3 : Addr}
    (a3 : PySem.W.nsIn K mainGlobals "is_text" = some (some (.ref f3))) (l3 : K.lookup f3 = some ⟨oc3, od3, .func (PySem.W.fnOf "is_text" "is_text" (defArgs sIsText) (defBody sIsText) (defScope sIsText) .none kV3 dc3 pm3 an3 cd3 ct3), sl3⟩) (c3 : PySem.W.codeIn K cd3 "is_text" = true) (k3 : PySem.W.keepIn K (.ref f3) = true)
    {od4 an4 : Option Addr} {sl4 : Array (Option Value)} {oc4 kV4 dc4 pm4 cd4 ct4 : Value} {f4 : Addr}
    (a4 : PySem.W.nsIn K mainGlobals "_law_pen" = some (some (.ref f4))) (l4 : K.lookup f4 = some ⟨oc4, od4, .func (PySem.W.fnOf "_law_pen" "_law_pen" (defArgs sLPen) (defBody sLPen) (defScope sLPen) .none kV4 dc4 pm4 an4 cd4 ct4), sl4⟩) (c4 : PySem.W.codeIn K cd4 "_law_pen" = true) (k4 : PySem.W.keepIn K (.ref f4) = true)
    {od5 an5 : Option Addr} {sl5 : Array (Option Value)} {oc5 kV5 dc5 pm5 cd5 ct5 : Value} {f5 : Addr}
    (a5 : PySem.W.nsIn K mainGlobals "_law_draw" = some (some (.ref f5))) (l5 : K.lookup f5 = some ⟨oc5, od5, .func (PySem.W.fnOf "_law_draw" "_law_draw" (defArgs sLDraw) (defBody sLDraw) (defScope sLDraw) .none kV5 dc5 pm5 an5 cd5 ct5), sl5⟩) (c5 : PySem.W.codeIn K cd5 "_law_draw" = true) (k5 : PySem.W.keepIn K (.ref f5) = true)
    {od6 an6 : Option Addr} {sl6 : Array (Option Value)} {oc6 kV6 dc6 pm6 cd6 ct6 : Value} {f6 : Addr}
    (a6 : PySem.W.nsIn K mainGlobals "_law_pick" = some (some (.ref f6))) (l6 : K.lookup f6 = some ⟨oc6, od6, .func (PySem.W.fnOf "_law_pick" "_law_pick" (defArgs sLPick) (defBody sLPick) (defScope sLPick) .none kV6 dc6 pm6 an6 cd6 ct6), sl6⟩) (c6 : PySem.W.codeIn K cd6 "_law_pick" = true) (k6 : PySem.W.keepIn K (.ref f6) = true)
    {od7 an7 : Option Addr} {sl7 : Array (Option Value)} {oc7 kV7 dc7 pm7 cd7 ct7 : Value} {f7 : Addr}
    (a7 : PySem.W.nsIn K mainGlobals "_law_names" = some (some (.ref f7))) (l7 : K.lookup f7 = some ⟨oc7, od7, .func (PySem.W.fnOf "_law_names" "_law_names" (defArgs sLNames) (defBody sLNames) (defScope sLNames) .none kV7 dc7 pm7 an7 cd7 ct7), sl7⟩) (c7 : PySem.W.codeIn K cd7 "_law_names" = true) (k7 : PySem.W.keepIn K (.ref f7) = true)
    {od8 an8 : Option Addr} {sl8 : Array (Option Value)} {oc8 kV8 dc8 pm8 cd8 ct8 : Value} {f8 : Addr}
    (a8 : PySem.W.nsIn K mainGlobals "_law_nested" = some (some (.ref f8))) (l8 : K.lookup f8 = some ⟨oc8, od8, .func (PySem.W.fnOf "_law_nested" "_law_nested" (defArgs sLNested) (defBody sLNested) (defScope sLNested) .none kV8 dc8 pm8 an8 cd8 ct8), sl8⟩) (c8 : PySem.W.codeIn K cd8 "_law_nested" = true) (k8 : PySem.W.keepIn K (.ref f8) = true)
    {od9 an9 : Option Addr} {sl9 : Array (Option Value)} {oc9 kV9 dc9 pm9 cd9 ct9 : Value} {f9 : Addr}
    (a9 : PySem.W.nsIn K mainGlobals "_law_pattern" = some (some (.ref f9))) (l9 : K.lookup f9 = some ⟨oc9, od9, .func (PySem.W.fnOf "_law_pattern" "_law_pattern" (defArgs sLPattern) (defBody sLPattern) (defScope sLPattern) .none kV9 dc9 pm9 an9 cd9 ct9), sl9⟩) (c9 : PySem.W.codeIn K cd9 "_law_pattern" = true) (k9 : PySem.W.keepIn K (.ref f9) = true)
    {od10 an10 : Option Addr} {sl10 : Array (Option Value)} {oc10 kV10 dc10 pm10 cd10 ct10 : Value} {f10 : Addr}
    (a10 : PySem.W.nsIn K mainGlobals "_law_is_letter" = some (some (.ref f10))) (l10 : K.lookup f10 = some ⟨oc10, od10, .func (PySem.W.fnOf "_law_is_letter" "_law_is_letter" (defArgs sLIsLetter) (defBody sLIsLetter) (defScope sLIsLetter) .none kV10 dc10 pm10 an10 cd10 ct10), sl10⟩) (c10 : PySem.W.codeIn K cd10 "_law_is_letter" = true) (k10 : PySem.W.keepIn K (.ref f10) = true)
    {od11 an11 : Option Addr} {sl11 : Array (Option Value)} {oc11 kV11 dc11 pm11 cd11 ct11 : Value} {f11 : Addr}
    (a11 : PySem.W.nsIn K mainGlobals "_law_is_text" = some (some (.ref f11))) (l11 : K.lookup f11 = some ⟨oc11, od11, .func (PySem.W.fnOf "_law_is_text" "_law_is_text" (defArgs sLIsText) (defBody sLIsText) (defScope sLIsText) .none kV11 dc11 pm11 an11 cd11 ct11), sl11⟩) (c11 : PySem.W.codeIn K cd11 "_law_is_text" = true) (k11 : PySem.W.keepIn K (.ref f11) = true)
    {od12 an12 : Option Addr} {sl12 : Array (Option Value)} {oc12 kV12 dc12 pm12 cd12 ct12 : Value} {f12 : Addr}
    (a12 : PySem.W.nsIn K mainGlobals "_law_is_pattern" = some (some (.ref f12))) (l12 : K.lookup f12 = some ⟨oc12, od12, .func (PySem.W.fnOf "_law_is_pattern" "_law_is_pattern" (defArgs sLIsPattern) (defBody sLIsPattern) (defScope sLIsPattern) .none kV12 dc12 pm12 an12 cd12 ct12), sl12⟩) (c12 : PySem.W.codeIn K cd12 "_law_is_pattern" = true) (k12 : PySem.W.keepIn K (.ref f12) = true)
    {od13 an13 : Option Addr} {sl13 : Array (Option Value)} {oc13 kV13 dc13 pm13 cd13 ct13 : Value} {f13 : Addr}
    (a13 : PySem.W.nsIn K mainGlobals "_law_text" = some (some (.ref f13))) (l13 : K.lookup f13 = some ⟨oc13, od13, .func (PySem.W.fnOf "_law_text" "_law_text" (defArgs sLText) (defBody sLText) (defScope sLText) .none kV13 dc13 pm13 an13 cd13 ct13), sl13⟩) (c13 : PySem.W.codeIn K cd13 "_law_text" = true) (k13 : PySem.W.keepIn K (.ref f13) = true)
    {od14 an14 : Option Addr} {sl14 : Array (Option Value)} {oc14 kV14 dc14 pm14 cd14 ct14 : Value} {f14 : Addr}
    (a14 : PySem.W.nsIn K mainGlobals "_law_odd" = some (some (.ref f14))) (l14 : K.lookup f14 = some ⟨oc14, od14, .func (PySem.W.fnOf "_law_odd" "_law_odd" (defArgs sLOdd) (defBody sLOdd) (defScope sLOdd) .none kV14 dc14 pm14 an14 cd14 ct14), sl14⟩) (c14 : PySem.W.codeIn K cd14 "_law_odd" = true) (k14 : PySem.W.keepIn K (.ref f14) = true)
    {od15 an15 : Option Addr} {sl15 : Array (Option Value)} {oc15 kV15 dc15 pm15 cd15 ct15 : Value} {f15 : Addr}
    (a15 : PySem.W.nsIn K mainGlobals "_law_changed" = some (some (.ref f15))) (l15 : K.lookup f15 = some ⟨oc15, od15, .func (PySem.W.fnOf "_law_changed" "_law_changed" (defArgs sLChanged) (defBody sLChanged) (defScope sLChanged) .none kV15 dc15 pm15 an15 cd15 ct15), sl15⟩) (c15 : PySem.W.codeIn K cd15 "_law_changed" = true) (k15 : PySem.W.keepIn K (.ref f15) = true)
    {od16 an16 : Option Addr} {sl16 : Array (Option Value)} {oc16 kV16 dc16 pm16 cd16 ct16 : Value} {f16 : Addr}
    (a16 : PySem.W.nsIn K mainGlobals "law" = some (some (.ref f16))) (l16 : K.lookup f16 = some ⟨oc16, od16, .func (PySem.W.fnOf "law" "law" (defArgs sLaw) (defBody sLaw) (defScope sLaw) .none kV16 dc16 pm16 an16 cd16 ct16), sl16⟩) (c16 : PySem.W.codeIn K cd16 "law" = true) (k16 : PySem.W.keepIn K (.ref f16) = true)
    {t_VARIABLES : Tok} (z_VARIABLES : PySem.W.nsIn K mainGlobals "VARIABLES" = some (some (.str "abcdefghijklmnopqrstuvwxyz" t_VARIABLES)))
    {t_LONGEST_PATTERN : Tok} (z_LONGEST_PATTERN : PySem.W.nsIn K mainGlobals "LONGEST_PATTERN" = some (some (.int 40 t_LONGEST_PATTERN)))
    {t_MOST_VARIABLES : Tok} (z_MOST_VARIABLES : PySem.W.nsIn K mainGlobals "MOST_VARIABLES" = some (some (.int 8 t_MOST_VARIABLES)))
    {t_LONGEST_TEXT : Tok} (z_LONGEST_TEXT : PySem.W.nsIn K mainGlobals "LONGEST_TEXT" = some (some (.int 4096 t_LONGEST_TEXT)))
    {t_GREATEST_LETTER : Tok} (z_GREATEST_LETTER : PySem.W.nsIn K mainGlobals "GREATEST_LETTER" = some (some (.int 999999 t_GREATEST_LETTER)))
    (z_all : PySem.W.nsIn K mainGlobals "all" = some none)
    (z_len : PySem.W.nsIn K mainGlobals "len" = some none)
    (z_set : PySem.W.nsIn K mainGlobals "set" = some none)
    (z_isinstance : PySem.W.nsIn K mainGlobals "isinstance" = some none)
    (z_str : PySem.W.nsIn K mainGlobals "str" = some none)
    (z_bool : PySem.W.nsIn K mainGlobals "bool" = some none)
    (z_int : PySem.W.nsIn K mainGlobals "int" = some none)
    (z_tuple : PySem.W.nsIn K mainGlobals "tuple" = some none)
    (z_list : PySem.W.nsIn K mainGlobals "list" = some none)
    (z_abs : PySem.W.nsIn K mainGlobals "abs" = some none)
    (z_range : PySem.W.nsIn K mainGlobals "range" = some none)
    (z_repr : PySem.W.nsIn K mainGlobals "repr" = some none) :
    ∃ T : Txt K mg, T.aLaw = fa ∧ ∀ (s : Shared) (v : Value), BindsTo s T.dLaw ⟨[v], []⟩ [("_law_script", v)] := by
  have e := hfa.symm.trans (PySem.W.mg_of X G a16)
  cases e
  have F0 := fun_mk (st := sIsPattern) l0 c0 k0
  have F1 := fun_mk (st := sIsPlainInteger) l1 c1 k1
  have F2 := fun_mk (st := sIsLetter) l2 c2 k2
  have F3 := fun_mk (st := sIsText) l3 c3 k3
  have F4 := fun_mk (st := sLPen) l4 c4 k4
  have F5 := fun_mk (st := sLDraw) l5 c5 k5
  have F6 := fun_mk (st := sLPick) l6 c6 k6
  have F7 := fun_mk (st := sLNames) l7 c7 k7
  have F8 := fun_mk (st := sLNested) l8 c8 k8
  have F9 := fun_mk (st := sLPattern) l9 c9 k9
  have F10 := fun_mk (st := sLIsLetter) l10 c10 k10
  have F11 := fun_mk (st := sLIsText) l11 c11 k11
  have F12 := fun_mk (st := sLIsPattern) l12 c12 k12
  have F13 := fun_mk (st := sLText) l13 c13 k13
  have F14 := fun_mk (st := sLOdd) l14 c14 k14
  have F15 := fun_mk (st := sLChanged) l15 c15 k15
  have F16 := fun_mk (st := sLaw) l16 c16 k16
  exact ⟨⟨_, _, F0, F0.binds (ps := ["value"]) fun _ _ _ _ _ _ us hl => match us, hl with | [_], _ => rfl, PySem.W.mg_of X G a0, _, _, F1, F1.binds (ps := ["value"]) fun _ _ _ _ _ _ us hl => match us, hl with | [_], _ => rfl, PySem.W.mg_of X G a1, _, _, F2, F2.binds (ps := ["value"]) fun _ _ _ _ _ _ us hl => match us, hl with | [_], _ => rfl, PySem.W.mg_of X G a2, _, _, F3, F3.binds (ps := ["value"]) fun _ _ _ _ _ _ us hl => match us, hl with | [_], _ => rfl, PySem.W.mg_of X G a3, _, _, F4, F4.binds (ps := ["_law_script"]) fun _ _ _ _ _ _ us hl => match us, hl with | [_], _ => rfl, PySem.W.mg_of X G a4, _, _, F5, F5.binds (ps := ["_law_pen_here", "_law_size"]) fun _ _ _ _ _ _ us hl => match us, hl with | [_, _], _ => rfl, PySem.W.mg_of X G a5, _, _, F6, F6.binds (ps := ["_law_pen_here", "_law_options"]) fun _ _ _ _ _ _ us hl => match us, hl with | [_, _], _ => rfl, PySem.W.mg_of X G a6, _, _, F7, F7.binds (ps := ["_law_pen_here", "_law_count"]) fun _ _ _ _ _ _ us hl => match us, hl with | [_, _], _ => rfl, PySem.W.mg_of X G a7, _, _, F8, F8.binds (ps := ["_law_names_here"]) fun _ _ _ _ _ _ us hl => match us, hl with | [_], _ => rfl, PySem.W.mg_of X G a8, _, _, F9, F9.binds (ps := ["_law_pen_here", "_law_size", "_law_count"]) fun _ _ _ _ _ _ us hl => match us, hl with | [_, _, _], _ => rfl, PySem.W.mg_of X G a9, _, _, F10, F10.binds (ps := ["_law_value"]) fun _ _ _ _ _ _ us hl => match us, hl with | [_], _ => rfl, PySem.W.mg_of X G a10, _, _, F11, F11.binds (ps := ["_law_value"]) fun _ _ _ _ _ _ us hl => match us, hl with | [_], _ => rfl, PySem.W.mg_of X G a11, _, _, F12, F12.binds (ps := ["_law_value"]) fun _ _ _ _ _ _ us hl => match us, hl with | [_], _ => rfl, PySem.W.mg_of X G a12, _, _, F13, F13.binds (ps := ["_law_pen_here"]) fun _ _ _ _ _ _ us hl => match us, hl with | [_], _ => rfl, PySem.W.mg_of X G a13, _, _, F14, F14.binds (ps := ["_law_pen_here"]) fun _ _ _ _ _ _ us hl => match us, hl with | [_], _ => rfl, PySem.W.mg_of X G a14, _, _, F15, F15.binds (ps := ["_law_pen_here", "_law_value"]) fun _ _ _ _ _ _ us hl => match us, hl with | [_, _], _ => rfl, PySem.W.mg_of X G a15, _, _, F16, F16.binds (ps := ["_law_script"]) fun _ _ _ _ _ _ us hl => match us, hl with | [_], _ => rfl, PySem.W.mg_of X G a16, _, PySem.W.mg_of X G z_VARIABLES, _, PySem.W.mg_of X G z_LONGEST_PATTERN, _, PySem.W.mg_of X G z_MOST_VARIABLES, _, PySem.W.mg_of X G z_LONGEST_TEXT, _, PySem.W.mg_of X G z_GREATEST_LETTER, PySem.W.mg_none_of X G z_all, PySem.W.mg_none_of X G z_len, PySem.W.mg_none_of X G z_set, PySem.W.mg_none_of X G z_isinstance, PySem.W.mg_none_of X G z_str, PySem.W.mg_none_of X G z_bool, PySem.W.mg_none_of X G z_int, PySem.W.mg_none_of X G z_tuple, PySem.W.mg_none_of X G z_list, PySem.W.mg_none_of X G z_abs, PySem.W.mg_none_of X G z_range, PySem.W.mg_none_of X G z_repr⟩, rfl, fun s v => .of_eq rfl⟩
theorem all_mk {l : PySem.W.OpenLaw} {w : World} {K : PySem.W.Frag} {mg : Str → Option Value} {fa : Addr} (hT : ∃ T : Txt K mg, T.aLaw = fa ∧ ∀ (s : Shared) (v : Value), BindsTo s T.dLaw ⟨[v], []⟩ [("_law_script", v)]) :
    ∃ fd : FuncData, (∀ (s : Shared) (v : Value), BindsTo s fd ⟨[v], []⟩ [("_law_script", v)]) ∧ ∀ base : Heap, K.In base → base.Ns mainGlobals mg → (∃ mm, base.Ns sysModules mm) → FnG l.prog w K mg base CX0 26 fa fd ["_law_script"] (spLaw K) := by
  obtain ⟨T, rfl, hb⟩ := hT
  exact ⟨T.dLaw, hb, fun base _ _ hm => ok_law (k := 0) T hm⟩
end Mo
open PySem PySem.W PyProof.Rows
set_option maxHeartbeats 0 in
theorem PySem.Challenge.cw_mustoccur_k01_patterns_and_texts_or_not_holds : PySem.Challenge.rw_mustoccur_k01_patterns_and_texts_or_not.Holds := by
  w_on; o_law; k_head; (case hw => w_witness2)
  k_fill
  refine Mo.walkM (l := PySem.Challenge.rw_mustoccur_k01_patterns_and_texts_or_not) (n := 63) (k := 26) (x := "_law_script") (CX := fun _ => L2.CX0) (sp := fun w => Mo.spLaw _) rfl (by decide) rfl ⟨rfl, by decide, by decide⟩ (fun w h Y => PySem.W.kIn_of Y) (by decide +kernel) ?F (fun _ _ a ns hl _ hS => ⟨a, ns, rfl, hS, hl, fun _ => rfl⟩) (fun _ _ _ _ _ h => h)
  case F =>
    intro w mg fa h KX G hmg
    refine Mo.all_mk ?_
    refine' Mo.txt_mk KX G hmg ?a0 ?l0 ?c0 ?k0 ?a1 ?l1 ?c1 ?k1 ?a2 ?l2 ?c2 ?k2 ?a3 ?l3 ?c3 ?k3 ?a4 ?l4 ?c4 ?k4 ?a5 ?l5 ?c5 ?k5 ?a6 ?l6 ?c6 ?k6 ?a7 ?l7 ?c7 ?k7 ?a8 ?l8 ?c8 ?k8 ?a9 ?l9 ?c9 ?k9 ?a10 ?l10 ?c10 ?k10 ?a11 ?l11 ?c11 ?k11 ?a12 ?l12 ?c12 ?k12 ?a13 ?l13 ?c13 ?k13 ?a14 ?l14 ?c14 ?k14 ?a15 ?l15 ?c15 ?k15 ?a16 ?l16 ?c16 ?k16 ?z_VARIABLES ?z_LONGEST_PATTERN ?z_MOST_VARIABLES ?z_LONGEST_TEXT ?z_GREATEST_LETTER ?z_all ?z_len ?z_set ?z_isinstance ?z_str ?z_bool ?z_int ?z_tuple ?z_list ?z_abs ?z_range ?z_repr
    (case a0 => k_is); (case l0 => k_is); (case c0 => k_is); (case k0 => k_is); (case a1 => k_is); (case l1 => k_is); (case c1 => k_is); (case k1 => k_is); (case a2 => k_is); (case l2 => k_is); (case c2 => k_is); (case k2 => k_is); (case a3 => k_is); (case l3 => k_is); (case c3 => k_is); (case k3 => k_is); (case a4 => k_is); (case l4 => k_is); (case c4 => k_is); (case k4 => k_is); (case a5 => k_is); (case l5 => k_is); (case c5 => k_is); (case k5 => k_is); (case a6 => k_is); (case l6 => k_is); (case c6 => k_is); (case k6 => k_is); (case a7 => k_is); (case l7 => k_is); (case c7 => k_is); (case k7 => k_is); (case a8 => k_is); (case l8 => k_is); (case c8 => k_is); (case k8 => k_is); (case a9 => k_is); (case l9 => k_is); (case c9 => k_is); (case k9 => k_is); (case a10 => k_is); (case l10 => k_is); (case c10 => k_is); (case k10 => k_is); (case a11 => k_is); (case l11 => k_is); (case c11 => k_is); (case k11 => k_is); (case a12 => k_is); (case l12 => k_is); (case c12 => k_is); (case k12 => k_is); (case a13 => k_is); (case l13 => k_is); (case c13 => k_is); (case k13 => k_is); (case a14 => k_is); (case l14 => k_is); (case c14 => k_is); (case k14 => k_is); (case a15 => k_is); (case l15 => k_is); (case c15 => k_is); (case k15 => k_is); (case a16 => k_is); (case l16 => k_is); (case c16 => k_is); (case k16 => k_is); (case z_VARIABLES => k_is); (case z_LONGEST_PATTERN => k_is); (case z_MOST_VARIABLES => k_is); (case z_LONGEST_TEXT => k_is); (case z_GREATEST_LETTER => k_is); (case z_all => k_is); (case z_len => k_is); (case z_set => k_is); (case z_isinstance => k_is); (case z_str => k_is); (case z_bool => k_is); (case z_int => k_is); (case z_tuple => k_is); (case z_list => k_is); (case z_abs => k_is); (case z_range => k_is); (case z_repr => k_is)
