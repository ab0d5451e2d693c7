import PyProof.Rows.All
import Wide.All
import OpenK.AllK
import Wide.FinOn
import HandS.ForMost
import HandS.SetKeys
import HandS.Walk
import HandS.Style
import HandS.SetFor
import HandS.IsInst
import HandS.Wide
import PyProof.Draws
import PyProof.EnumMake
import HandS.Replace
import HandS.Exc
import HandS.WordsExc
import HandS.ExcInit
import HandS.ExcField
import HandS.ExcIs
import HandS.TryOnly
import HandS.CallSlots
import HandS.ExcOwn
import PyProof.ReprRoads
import HandS.Ends
import HandS.Evl
import KE.KEqSeq
import PyProof.Rows.TmSorted
import PySem.Challenge.RW_mustoccur_k03_deletion
set_option Elab.async false
set_option linter.all false
set_option maxRecDepth 100000
set_option maxHeartbeats 8000000
/-! Rules that the laws of this program want and the layer lacks: repr and reversal of a text, enumerate of a text, the set of a text's signs and its size. -/
namespace Mo
open PySem PySem.Spec PyProof.Rows L2
/-! ### signs met, in the order of first occurrence -/
def metStep (acc : List Nat) (c : Nat) : List Nat := if c ∈ acc then acc else acc ++ [c]
def met (cs : List Nat) : List Nat := cs.foldl metStep []
theorem met_snoc (cs : List Nat) (c : Nat) : met (cs ++ [c]) = metStep (met cs) c := by
  unfold met
  rw [List.foldl_append]
  rfl
theorem mem_metStep {acc : List Nat} {c d : Nat} : d ∈ metStep acc c ↔ d ∈ acc ∨ d = c := by
  unfold metStep
  by_cases h : c ∈ acc
  · rw [if_pos h]
    constructor
    · exact Or.inl
    · rintro (q | q)
      · exact q
      · rw [q]; exact h
  · rw [if_neg h, List.mem_append, List.mem_singleton]
theorem mem_fold : ∀ (cs acc : List Nat) (d : Nat), d ∈ cs.foldl metStep acc ↔ d ∈ acc ∨ d ∈ cs
  | [], acc, d => by simp
  | c :: cs, acc, d => by
    rw [List.foldl_cons, mem_fold cs (metStep acc c) d, mem_metStep, List.mem_cons, or_assoc]
theorem mem_met {cs : List Nat} {d : Nat} : d ∈ met cs ↔ d ∈ cs := by
  unfold met
  rw [mem_fold]
  simp
theorem metStep_length (acc : List Nat) (c : Nat) : (metStep acc c).length = if c ∈ acc then acc.length else acc.length + 1 := by
  unfold metStep
  split <;> simp
theorem metStep_nodup {acc : List Nat} (h : acc.Nodup) (c : Nat) : (metStep acc c).Nodup := by
  unfold metStep
  by_cases q : c ∈ acc
  · rw [if_pos q]; exact h
  · rw [if_neg q]
    exact List.nodup_append.mpr ⟨h, by simp, by rintro a ha b hb rfl; exact q (by rw [← List.mem_singleton.mp hb]; exact ha)⟩
theorem fold_nodup : ∀ (cs acc : List Nat), acc.Nodup → (cs.foldl metStep acc).Nodup
  | [], _, h => h
  | c :: cs, _, h => fold_nodup cs _ (metStep_nodup h c)
theorem met_nodup (cs : List Nat) : (met cs).Nodup := fold_nodup cs [] List.nodup_nil
theorem met_length_le : ∀ cs : List Nat, (met cs).length ≤ cs.length := fun cs => by
  have key : ∀ (cs acc : List Nat), (cs.foldl metStep acc).length ≤ acc.length + cs.length := by
    intro cs
    induction cs with
    | nil => intro acc; simp
    | cons c cs ih =>
      intro acc
      rw [List.foldl_cons]
      have h1 := ih (metStep acc c)
      have h2 := metStep_length acc c
      rw [List.length_cons]
      split at h2 <;> omega
  have h := key cs []
  simpa [met] using h
/-- the keys that are signs of cs -/
def inS (cs : List Nat) (k : Key) : Bool := cs.any fun c => decide (k = Sum.inr (⟨#[c]⟩ : Str))
theorem sign_inj {c d : Nat} (h : (⟨#[c]⟩ : Str) = ⟨#[d]⟩) : c = d := by
  injection h with h
  simpa using h
theorem inS_sign (cs : List Nat) (c : Nat) : inS cs (Sum.inr ⟨#[c]⟩) = decide (c ∈ cs) := by
  unfold inS
  by_cases h : c ∈ cs
  · rw [decide_eq_true h]
    exact List.any_eq_true.mpr ⟨c, h, decide_eq_true rfl⟩
  · rw [decide_eq_false h]
    cases q : cs.any fun d => decide ((Sum.inr ⟨#[c]⟩ : Key) = Sum.inr ⟨#[d]⟩) with
    | false => rfl
    | true =>
      obtain ⟨d, hd, e⟩ := List.any_eq_true.mp q
      exact absurd (by rw [sign_inj (Sum.inr.inj (of_decide_eq_true e))]; exact hd) h
section
variable {P : Program} {w : World} {A : Around} {E : Value → Shared → Prop} {s : Shared}
theorem signs_loop {I : Addr} {fp wr : List Addr} {G : Array GenState → Array GenState → Prop} {n : Nat} {Pv : Nat → Value → Prop} {St : Nat → Shared → Prop} {R : Result → Shared → Prop}
    (W : WalksS P w A.in1 I fp wr G n Pv St) (D : Addr) (hD : D ∉ fp) (cs : List Nat) (hn : n = cs.length) (hb : cs.length + 1 < scanBound)
    (hval : ∀ i v, Pv i v → ∃ c t, cs[i]? = some c ∧ v = .str ⟨#[c]⟩ t) :
    ∀ (k i : Nat) (s : Shared), n - i = k → i ≤ n → St i s → s.heap.SetOf (mixKind P w) D (inS (cs.take i)) (met (cs.take i)).length →
      (∀ s', Moved (D :: wr) G s s' → s'.heap.SetOf (mixKind P w) D (inS cs) (met cs).length → R (.ok (.ret .none)) s') →
      codeAny (model P w) A (.builtin "set.update.loop" ⟨[.ref D, .ref I], []⟩) R s := by
  have hDw : D ∉ wr := fun h => hD (W.sub _ h)
  have up : ∀ b ∈ wr, b ∈ D :: wr := fun b q => List.mem_cons_of_mem _ q
  intro k
  induction k with
  | zero =>
    intro i s hk hi hst hS hR
    obtain rfl : i = n := by omega
    refine codeAny_builtin PyProof.Rows.F.entry_set_update_loop (by
      rw [Around.under_plainId PyProof.Rows.F.plain_set_update_loop _]
      show wpAny _ A.in1 (pyNext (.ref I) >>= _) _ _ s
      refine wpAny_bind (W.done s _ _ hst fun s' hm => wpAny_pure (hR s' (hm.mono up) ?_))
      rw [List.take_of_length_le (by omega)] at hS
      obtain ⟨o, es, ep, t, ho, rest⟩ := hS
      exact ⟨o, es, ep, t, hm.heap D _ hDw ho, rest⟩)
  | succ k ih =>
    intro i s hk hi hst hS hR
    have hlt : i < n := by omega
    refine codeAny_builtin PyProof.Rows.F.entry_set_update_loop (by
      rw [Around.under_plainId PyProof.Rows.F.plain_set_update_loop _]
      show wpAny _ A.in1 (pyNext (.ref I) >>= _) _ _ s
      refine wpAny_bind (W.item i s _ _ hlt hst fun v s' hP hst' hm => ?_)
      obtain ⟨c, t, hc, rfl⟩ := hval i v hP
      have hS' : s'.heap.SetOf (mixKind P w) D (inS (cs.take i)) (met (cs.take i)).length := by
        obtain ⟨o, es, ep, tb, ho, rest⟩ := hS
        exact ⟨o, es, ep, tb, hm.heap D _ hDw ho, rest⟩
      show wpAny _ A.in1 (holding [Value.str ⟨#[c]⟩ t] (setAdd D (.str ⟨#[c]⟩ t)) >>= _) _ _ s'
      refine wpAny_bind (wpAny_holding (by
        unfold setAdd
        refine wpAny_holding (wpAny_bind ((mixKind P w).pyHash (k := Sum.inr ⟨#[c]⟩) (mixKind_str _ _ _ _) ?_))
        have room : (met (cs.take i)).length + 1 < scanBound := by
          have h1 := met_length_le (cs.take i)
          rw [List.length_take] at h1
          omega
        refine wpAny_setAddHashed_of (knd := mixKind P w) (s := { s' with toks := s'.toks + 1 }) (mixKind_str _ _ _ _) rfl hS' room fun h' hsb hS2 => ?_
        have e3 : cs.take (i + 1) = cs.take i ++ [c] := by
          rw [List.take_add_one, hc]
          rfl
        have hS3 : h'.SetOf (mixKind P w) D (inS (cs.take (i + 1))) (met (cs.take (i + 1))).length := by
          have f1 : (fun k' => inS (cs.take i) k' || decide (k' = Sum.inr (⟨#[c]⟩ : Str))) = inS (cs.take (i + 1)) := by
            funext k'
            rw [e3]
            unfold inS
            rw [List.any_append]
            simp
          have f2 : (if inS (cs.take i) (Sum.inr ⟨#[c]⟩) = true then (met (cs.take i)).length else (met (cs.take i)).length + 1) = (met (cs.take (i + 1))).length := by
            rw [e3, met_snoc, metStep_length, inS_sign]
            by_cases q : c ∈ cs.take i
            · rw [if_pos (decide_eq_true q), if_pos (mem_met.mpr q)]
            · rw [if_neg (by rw [decide_eq_false q]; exact Bool.false_ne_true), if_neg (fun z => q (mem_met.mp z))]
          rw [← f1, ← f2]
          exact hS2
        refine wpAny_pure ⟨plainId_quiet PyProof.Rows.F.plain_set_update_loop _, ih (i + 1) _ (by omega) hlt (W.frame _ s' _ _ hst' (Nat.le_succ _) fun b q o e => ?_) hS3 fun s2 hm2 hS4 => ?_⟩
        · rw [hsb.2 b (fun z : b = D => hD (by rw [← z]; exact q))]
          exact e
        · refine hR s2 (Moved.trans W.gtrans ((hm.mono up).then_heap (Nat.le_succ _) fun b o q e => ?_) hm2) hS4
          rw [hsb.2 b (fun z : b = D => q (by rw [z]; exact List.mem_cons_self))]
          exact e)))

set_option maxHeartbeats 8000000 in
/-- set(a text) -/
theorem call_set_signs {z : Str} {t : Tok} {Q : Value → Shared → Prop} (hh : A.handled = none) (hb : z.cps.size + 1 < scanBound)
    (h : ∀ (h' : Heap) (tk : Nat), h'.SetOf (mixKind P w) s.heap.objs.size (inS z.cps.toList) (met z.cps.toList).length → (∀ b o, s.heap.get? b = some o → h'.get? b = some o) → Q (.ref s.heap.objs.size) { s with heap := h', toks := tk }) :
    wpAny (model P w) A (call (.type "set") [.str z t]) Q E s := by
  obtain ⟨c, tl, hmro⟩ := PySem.F.called_set.mro
  have hmade := PySem.F.called_set.made; have hsub := PySem.F.called_set.sub
  refine wpAny_call (codeAny_of_tree (by
    show wpAny _ _ (callAny (.type "set") _) _ _ _
    refine wpAny_pure ⟨Code.quiet_builtin _ (by decide +kernel), codeAny_builtin PySem.F.entry_type_call ?_⟩
    rw [Around.under_plain (weight_type_call_type "set" [.str z t] []) rfl]
    have h1 := PySem.F.called_set.notType; have h2 := PySem.F.called_set.canCreate
    have hct := PySem.F.typeCall_set_1 (.str z t)
    repeat (any_goals (first | assumption | wp_step))
    refine codeAny_mono (code_set_new_1 (.str z t) (E := E) (Q₁ := fun obj s₁ => ∃ led : Bool, obj = .ref s.heap.objs.size ∧ s₁ = { s with heap := s.heap.push { cls := .type "set", dict := none, data := .set #[] 0 (.fresh 0 0 led) } }) fun led => ⟨led, rfl, rfl⟩) fun r s₁ hr => ?_
    cases r with
    | error e => exact hr
    | ok fl =>
      cases fl with
      | ret obj =>
        obtain ⟨led, rfl, rfl⟩ := hr
        generalize hNew : ({ cls := .type "set", dict := none, data := .set #[] 0 (.fresh 0 0 led) } : Obj) = nw
        have hfr : ∀ (h : Heap) (a : Addr), h.get? a = some nw → h.SetOf (mixKind P w) a (inS []) (met []).length := by
          intro h a e
          rw [← hNew] at e
          exact ⟨_, #[], 0, _, e, ⟨rfl, rfl, rfl⟩, rfl, (fun e he => by simp at he), (fun k => by simp [inS]), (by decide), (by rfl), rfl⟩
        have hcls : nw.cls = .type "set" := by rw [← hNew]
        have hnf : nw.isFreed = false := by rw [← hNew]; rfl
        have hS : (s.heap.push nw).get? s.heap.objs.size = some nw := Heap.get?_push_size _ hnf
        have hT : Shared.TypeIs { s with heap := s.heap.push nw } (.ref s.heap.objs.size) "set" := ⟨_, hS, hcls⟩
        have hli := PySem.F.called_set.init.lookup; have hbi := PySem.F.called_set.init.bind (.ref s.heap.objs.size)
        repeat (any_goals (first | assumption | wp_step))
        refine codeAny_mono (codeAny_call_builtin (R := wants (fun r s₂ => r = .none ∧ ∃ h' tk, s₂ = { s with heap := h', toks := tk } ∧ h'.SetOf (mixKind P w) s.heap.objs.size (inS z.cps.toList) (met z.cps.toList).length ∧
          (∀ b o, s.heap.get? b = some o → h'.get? b = some o)) E) PySem.F.called_set.init.plain PySem.F.entry_set_init (check_set_init_1 hT ?_)) fun r₂ s₂ hr₂ => ?_
        · subst hNew
          have n1 : isSubtype (.type "str") (.type "set") = pure false := by rw [isSubtype_type]; kernel_rfl
          have n2 : isSubtype (.type "str") (.type "frozenset") = pure false := by rw [isSubtype_type]; kernel_rfl
          have n3 : (Value.type "str" == Value.type "dict") = false := by decide
          unfold Builtin.«set.__init__» noKeywords Builtin.Frozenset.updateFrom
          generalize hPI : pyIter = PI
          wp_walk
          subst hPI
          have hh3 : A.in1.in1.in1.handled = none := by simp [hh]
          generalize hNew : ({ cls := .type "set", data := .set #[] 0 (.fresh 0 0 led) } : Obj) = nw at *
          have hz1 : (s.heap.push nw).objs.size = s.heap.objs.size + 1 := Heap.size_push ..
          have fin : ∀ (ty : String) (wk : Walks P w A.in1.in1.in1 (s.heap.push nw).objs.size [(s.heap.push nw).objs.size] [(s.heap.push nw).objs.size] z.cps.size (SignAt z) (fun i h => h.IsStrIter (s.heap.push nw).objs.size ty z t i))
              (Rk : Result → Shared → Prop), (∀ h' tk, h'.SetOf (mixKind P w) s.heap.objs.size (inS z.cps.toList) (met z.cps.toList).length → (∀ b o, s.heap.get? b = some o → h'.get? b = some o) → Rk (.ok (.ret .none)) { s with heap := h', toks := tk }) →
              codeAny (model P w) A.in1.in1 (.builtin "set.update.loop" ⟨[.ref s.heap.objs.size, .ref (s.heap.push nw).objs.size], []⟩) Rk
                { s with heap := (s.heap.push nw).push { cls := .type ty, data := .fields #[.str z t, .int 0 0] } } := by
            intro ty wk Rk hR
            refine signs_loop (wk.toS) s.heap.objs.size (by rw [hz1]; simp) z.cps.toList (by simp) (by simpa using hb) (fun i v hv => ?_) (z.cps.size - 0) 0 _ (by omega) (Nat.zero_le _) ⟨_, Heap.get?_push_size _ rfl, rfl, rfl⟩ ?_ ?_
            · obtain ⟨c, u, hc, rfl⟩ := hv
              exact ⟨c, u, by rw [Array.getElem?_toList]; exact hc, rfl⟩
            · exact hfr _ _ (Heap.get?_push_of_some _ hS)
            · intro s' hm hS'
              obtain ⟨h', g', d', tk', os'⟩ := s'
              obtain rfl : g' = s.gens := hm.gens
              obtain rfl : d' = s.drawn := hm.drawn
              obtain rfl : os' = s.os := hm.os
              refine hR h' tk' hS' fun b o e => ?_
              have hb0 : b < s.heap.objs.size := Heap.lt_size e
              have n1 : b ∉ s.heap.objs.size :: [(s.heap.push nw).objs.size] := by
                rw [hz1]
                intro q
                rcases List.mem_cons.mp q with q | q
                · exact Nat.ne_of_lt hb0 q
                · exact Nat.ne_of_lt (Nat.lt_succ_of_lt hb0) (List.mem_singleton.mp q)
              exact hm.heap b o n1 (Heap.get?_push_of_some _ (Heap.get?_push_of_some _ e))
          cases ha : z.cps.all (· < 128)
          · refine wpAny_pyIter_wide ha (wpAny_bind (wpAny_runValue (fin _ (Walks.strWide hh3 _ z t) _ fun h' tk hS2 hk2 => wpAny_pure ?_)))
            exact wpAny_pure ⟨rfl, h', tk, rfl, hS2, hk2⟩
          · refine wpAny_pyIter_ascii ha (wpAny_bind (wpAny_runValue (fin _ (Walks.strAscii hh3 _ z t) _ fun h' tk hS2 hk2 => wpAny_pure ?_)))
            exact wpAny_pure ⟨rfl, h', tk, rfl, hS2, hk2⟩
        · cases r₂ with
          | error e => exact hr₂
          | ok fl₂ =>
            cases fl₂ with
            | ret r =>
              obtain ⟨rfl, h', tk, rfl, hS', hk'⟩ := hr₂
              repeat (any_goals (first | assumption | wp_step))
              exact h _ _ hS' hk'
            | _ => exact hr₂.elim
      | _ => exact hr.elim))
end
end Mo

namespace Mo
open PySem PySem.Spec PyProof.Rows L2
/-! ### the rules over the layer -/
section
variable {X : Cx}
def rSetS (P : Program) (w : World) : List V → Hp → VK → Prop := fun xs H Q => ∃ z : Str, xs = [.str z] ∧ z.cps.size ≤ 4000 ∧ ∀ p, H p = none → Q (.ref p) (upd H p (SetK P w p (inS z.cps.toList) (met z.cps.toList).length))
/-- set(z), z a text -/
theorem cr_setS (hc : X.calm = true) : CallR X (.type "set") (rSetS X.prog X.w) := by
  intro pins s σ H xs us Q I r h
  obtain ⟨z, rfl, hz, q⟩ := h
  obtain ⟨u, rfl, t, rfl⟩ := vals1 r
  refine call_set_signs (I.ok.hd hc) (by unfold scanBound; omega) fun h' tk hS hk => ?_
  exact ⟨.ref _, _, I.laid (t' := tk) hk (Nat.le_refl _) (setK_new hS), rfl, q _ (I.hok.fresh (Nat.le_refl _))⟩
def rLenK (P : Program) (w : World) : List V → Hp → VK → Prop := fun xs H Q => ∃ a S n, xs = [V.ref a] ∧ H a = some (SetK P w a S n) ∧ (n : Int) < 2 ^ 62 ∧ Q (.int (n : Nat)) H
/-- len(a set) -/
theorem cr_lenK : CallR X (.builtin "len") (rLenK X.prog X.w) := by
  intro pins s σ H xs us Q I r h
  obtain ⟨a, S, n, rfl, ha, hn, q⟩ := h
  obtain ⟨u, rfl, ru⟩ := vals1 r
  cases ru
  obtain ⟨o, es, ep, t, ho, hex, hd, _, _, _, hf, hes⟩ := setK_get I ha
  refine call_len_set ho hex hd hf (by rw [hes]; omega) ⟨.int (n : Nat), H, I.tok _, ⟨_, by rw [hes]⟩, q⟩
/-- repr(z), z a text -/
theorem cr_reprS : CallR X (.builtin "repr") (fun xs H Q => ∃ z : Str, xs = [.str z] ∧ (reprText z).length ≤ sizeLine ∧ Q (.str (reprText z)) H) := by
  intro pins s σ H xs us Q I r h
  obtain ⟨z, rfl, hz, q⟩ := h
  obtain ⟨u, rfl, t, rfl⟩ := vals1 r
  exact PySem.P.repr_of_str ⟨.str _, H, I.tok _, ⟨_, rfl⟩, q⟩ hz
/-! rules within a comprehension's block: the written part named, so that the reading is the same in every block -/
def rLenSq (K : PySem.W.Frag) : List V → Hp → VK → Prop := fun xs H Q => ∃ p ys, xs = [.ref p] ∧ (SqL K H p ys ∨ SqT K H p ys) ∧ Q (.int ys.length) H
theorem call_len_seqK {K : PySem.W.Frag} (h : X.K = K) : CallR X (.builtin "len") (rLenSq K) := by
  subst h
  exact call_len_seq
theorem ix_listK {K : PySem.W.Frag} (h : X.K = K) : IxR X (rIxL K) := by
  subst h
  exact ix_list
theorem op_notIn_seqK {K : PySem.W.Frag} (h : X.K = K) : OpR X (compareOp .NotIn) (rIn K true) := by
  subst h
  exact op_notIn_seq
theorem op_in_seqK {K : PySem.W.Frag} (h : X.K = K) : OpR X (compareOp .In) (rIn K false) := by
  subst h
  exact op_in_seq
theorem pg_tupK {K : PySem.W.Frag} {es : List Expr} {t : TGs} {k n : Nat} {pos : Pos} (h : X.K = K) (hc : X.calm = true) (hs : PGs X es t)
    (hn : (assignEach es X.env).length = n := by rfl) (hst : (assignEach es X.env).findIdx? (·.1) = none := by rfl) : PG X (.Tuple es k pos) (gTup K n t) := by
  subst h
  exact pg_tup hc hs hn hst
/-- z[::-1], z a text -/
def revS (z : Str) : Str := ⟨z.cps.toList.reverse.toArray⟩
def tRevS (te : TE) : TE := fun σ H Q => te σ H fun x H1 => ∃ z, x = .str z ∧ z.length ≤ sizeLine ∧ Q (.str (revS z)) H1
theorem back_idx (n : Nat) : Builtin.Str.strSliceIndices none none (-1) n = (List.range n).reverse := by
  show sliceRange ((n : Int) - 1) (-1) (-1) = _
  rw [PySem.W.krv_sliceRange, PySem.W.krv_range]
theorem back_pick (z : Str) : ((Builtin.Str.strSliceIndices none none (-1) z.length).filterMap (z.cps[·]?)).toArray = z.cps.toList.reverse.toArray := by
  rw [back_idx, List.filterMap_reverse]
  show ((List.range z.cps.size).filterMap (z.cps[·]?)).reverse.toArray = _
  rw [PySem.W.krv_all]
theorem pe_revS {e : Expr} {te : TE} {k : Nat} {p1 p2 p3 pos : Pos} (he : PE X e te) : PE X (.Subscript e (.Slice none none (some (.UnaryOp .USub (.Constant (.int 1) k p1) p2)) p3) pos) (tRevS te) := by
  refine ⟨fun pins s σ H Q I h => ?_⟩
  refine Subscript_ (thn (he.run pins s σ H _ I h) fun v s1 ⟨x, H1, I1, r1, z, ez, hz, q⟩ => ?_)
  subst ez
  obtain ⟨t, rfl⟩ := r1
  have hst : PO X (some (.UnaryOp .USub (.Constant (.int 1) k p1) p2)) (tPart (tUn (rU fun i => .int (-i)) (tC (.int 1)))) := po_some (pe_un un_neg pe_int)
  refine wpAny_Slice (thn (po_none.run pins s1 σ H1 (fun o H2 => o = none ∧ H2 = H1) I1 ⟨rfl, rfl⟩) fun vl s2 ⟨l, H2, I2, pl, el, e2⟩ => ?_)
  subst el e2
  refine thn (po_none.run pins s2 σ H2 (fun o H3 => o = none ∧ H3 = H2) I2 ⟨rfl, rfl⟩) fun vu s3 ⟨u, H3, I3, pu, eu, e3⟩ => ?_
  subst eu e3
  refine thn (hst.run pins s3 σ H3 (fun o H4 => o = some (-1) ∧ H4 = H3) I3 ⟨1, rfl, -1, rfl, rfl, rfl⟩) fun vs s4 ⟨o, H4, I4, ps, eo, e4⟩ => ?_
  subst eo e4
  have I5 : Inv X pins σ H4 { s4 with heap := s4.heap.push { cls := .type "slice", data := .fields #[vl, vu, vs] } } := I4.kept (t' := s4.toks) fun b ob q => Heap.get?_push_of_some _ q
  obtain ⟨l, rfl, el⟩ := IsPart.raw pl
  obtain ⟨u, rfl, eu⟩ := IsPart.raw pu
  obtain ⟨sp, rfl, es⟩ := IsPart.raw ps
  show wpAny (model X.prog X.w) X.A (subscriptTail e (.Slice none none (some (.UnaryOp .USub (.Constant (.int 1) k p1) p2)) p3) (.str z t) (.ref s4.heap.objs.size)) (EP X pins σ Q) X.xe { s4 with heap := s4.heap.push { cls := .type "slice", data := .fields #[partValue l, partValue u, partValue sp] } }
  refine tail_any (ops := [.str z t, .ref s4.heap.objs.size]) (typeIs_str _ _ _) (F.slot_str_getitem.lookup) ?_ (by with_unfolding_all rfl)
  refine wpAny_getItem_str_slice (l := l) (u := u) (st := sp) ⟨_, Heap.get?_push_size _ rfl, rfl, rfl⟩ (by rw [es]; rfl) ?_
  unfold sliceMade slicePicked
  rw [el, eu, es]
  show Made.post (Made.str ⟨((Builtin.Str.strSliceIndices none none (-1) z.length).filterMap (z.cps[·]?)).toArray⟩) (EP X pins σ Q) _
  rw [back_pick]
  refine ⟨?_, .str (revS z), H4, I5.tok _, ⟨_, rfl⟩, q⟩
  show (z.cps.toList.reverse.toArray).size ≤ sizeLine
  rw [List.size_toArray, List.length_reverse, Array.length_toList]
  exact hz
/-! ### enumerate(z), z a text -/
def IteS (z : Str) : It := ⟨fun i _ => i < z.cps.size, fun i H v H' => ∃ T c, v = .ref T ∧ H T = none ∧ z.cps[i]? = some c ∧ H' = upd H T (.tup [.int (i : Nat), .str ⟨#[c]⟩]), fun i _ => z.cps.size ≤ i⟩
theorem strIter_kind (z : Str) : strIterType z = "str_ascii_iterator" ∨ strIterType z = "str_iterator" := by
  unfold strIterType
  split
  · exact .inl rfl
  · exact .inr rfl
theorem draws_str {P : Program} {w : World} {A : Around} (hh : A.handled = none) (it : Addr) (z : Str) (t : Tok) :
    Draws P w A it [it] z.cps.size (fun i v => ∃ c u, z.cps[i]? = some c ∧ v = .str ⟨#[c]⟩ u) (fun i h => h.IsStrIter it (strIterType z) z t i) := by
  rcases strIter_kind z with e | e
  · rw [e]; exact Draws.strAscii hh it z t
  · rw [e]; exact Draws.strWide hh it z t
theorem turn_enumS {P : Program} {w : World} {K : PySem.W.Frag} {elts : List Expr} {kk : Nat} {tpos : Pos} (z : Str) (t : Tok) (e it : Addr) :
    Turn P w K (.Tuple elts kk tpos) (IteS z) [e, it] e (fun i h => (∃ old, IsEnum h e it ((i : Nat) : Int) old) ∧ h.IsStrIter it (strIterType z) z t i ∧ e ≠ it ∧ i ≤ z.cps.size) where
  mem := by simp
  obj := fun i h st b hb => by
    obtain ⟨⟨old, he⟩, ⟨o, ho, hc, hd⟩, _⟩ := st
    rcases (by simpa using hb : b = e ∨ b = it) with q | q
    · rw [q]; exact ⟨_, he, fun v q => nomatch q⟩
    · rw [q]; exact ⟨o, ho, fun v q => by rw [hd] at q; cases q⟩
  keep := fun i h h' st k => let ⟨⟨old, he⟩, ⟨o, ho, r⟩, hne⟩ := st; ⟨⟨old, k e (by simp) _ he⟩, ⟨o, k it (by simp) o ho, r⟩, hne⟩
  item := by
    intro X hP hw hK hc i pins s σ H E I hf st hg
    subst hP hw hK
    obtain ⟨⟨old, he⟩, hit, hne, hle⟩ := st
    have hi : i < z.cps.size := hg
    have hel : e < s.heap.objs.size := Heap.lt_size he
    have hil : it < s.heap.objs.size := by obtain ⟨_, q, _⟩ := hit; exact Heap.lt_size q
    have hh : X.A.in1.handled = none := by simpa using I.ok.hd hc
    refine wpAny_pyNext_enum_itemD (draws_str hh it z t) he hit hi hne (by simpa using hne) fun x h' tk hP ho hit' hT hsz hk => ?_
    obtain ⟨c, u, hcx, rfl⟩ := hP
    refine ⟨_, rfl, wpAny_letOwnedTupleGo_enum (s := { s with heap := h', toks := tk + 1 }) ho fun h2 he' sb => ?_⟩
    have hT2 := (sb.2 _ (Nat.ne_of_gt hel)).trans hT
    have new : ObjOk X.prog X.w (upd H s.heap.objs.size (.tup [.int (i : Nat), .str ⟨#[c]⟩])) h2 s.heap.objs.size (.tup [.int (i : Nat), .str ⟨#[c]⟩]) :=
      ⟨by show 2 ≤ sizeLine; decide, [.int i tk, .str ⟨#[c]⟩ u], .cons ⟨_, rfl⟩ (.cons ⟨_, rfl⟩ .nil), ⟨_, hT2, rfl, _, rfl⟩⟩
    have I1 : Inv X pins σ (upd H s.heap.objs.size (.tup [.int (i : Nat), .str ⟨#[c]⟩])) { s with heap := h2, toks := tk + 1 } :=
      I.turnedNew (ch := [e, it]) (fun b ob hb q => (sb.2 b (fun z => hb (by simp [z]))).trans (hk b ob (fun z => hb (by simp [z])) (fun z => hb (by simp [z])) q)) hf (Nat.le_refl _) new
    obtain ⟨oi, hoi, r⟩ := hit'
    refine ⟨.ref s.heap.objs.size, _, I1, rfl, ⟨_, c, rfl, I.hok.fresh (Nat.le_refl _), hcx, rfl⟩, ⟨⟨.str ⟨#[c]⟩ u, ?_⟩, ⟨oi, (sb.2 it (Ne.symm hne)).trans hoi, r⟩, hne, hi⟩, fun b hb => ?_⟩
    · have e1 : ((i + 1 : Nat) : Int) = (i : Int) + 1 := by omega
      rw [e1]; exact he'
    · have hb' : b < s.heap.objs.size := by
        rcases (by simpa using hb : b = e ∨ b = it) with q | q
        · rw [q]; exact hel
        · rw [q]; exact hil
      rw [upd_ne (Nat.ne_of_lt hb')]
      exact (hf b hb).1
  done := by
    intro X hP hw hK hc i pins s σ H E I hf st hg
    subst hP hw hK
    obtain ⟨⟨old, he⟩, hit, hne, hle⟩ := st
    have hi : i = z.cps.size := Nat.le_antisymm hle hg
    subst hi
    obtain ⟨f0, f1, f2, f3, f4, f5⟩ := hf it (by simp)
    have hh : X.A.in1.handled = none := by simpa using I.ok.hd hc
    exact wpAny_pyNext_enum_endD (draws_str hh it z t) he hit fun h' eb => ⟨rfl, I.turned (t' := s.toks) (fun b o hb q => eb b o hb q) f0 f1 f3 f4 f5⟩
  self := fun A i s Q E st h => let ⟨⟨_, he⟩, _⟩ := st; wpAny_pyIter_enum he h
def iEnumS (ta : TA) : TI := fun σ H R => ta σ H fun vs H1 => ∃ z : Str, vs = [.str z] ∧ R (IteS z) H1
theorem pi_enumS {e : Expr} {ta : TA} {p pos tpos : Pos} {elts : List Expr} {kk : Nat} (hg : Gl X "enumerate") (hm : X.mg "enumerate" = none) (ha : PA X [e] ta) (hs : starEach [e] X.env = [(false, eval e X.env)] := by rfl) :
    PI X (.Tuple elts kk tpos) (.Call (.Name "enumerate" p) [e] [] pos) (iEnumS ta) := by
  refine ⟨fun pins s σ H R I h => ?_⟩
  refine Call_ (ld_blt I hg hm boot_enumerate (PyProof.Rows.callWith_type1 (thn (ha.run pos pins s σ H _ I h) fun us s1 ⟨vs, H1, I1, r1, q1⟩ => ?_) hs rfl))
  obtain ⟨z, rfl, q⟩ := q1
  obtain ⟨u, rfl, t, rfl⟩ := vals1 r1
  refine call_enumerate_str fun h' he hit hsz hk => wpAny_pyIter_enum he ?_
  have I2 : Inv X pins σ H1 { s1 with heap := h' } := I1.kept (t' := s1.toks) hk
  refine ⟨s1.heap.objs.size + 1, [s1.heap.objs.size + 1, s1.heap.objs.size], _, _, H1, rfl, I2, turn_enumS z t (s1.heap.objs.size + 1) s1.heap.objs.size, ⟨⟨.none, he⟩, hit, Nat.succ_ne_self _, Nat.zero_le _⟩, fun b hb => ?_, q⟩
  have hle : s1.heap.objs.size ≤ b := by
    rcases (by simpa using hb : b = s1.heap.objs.size + 1 ∨ b = s1.heap.objs.size) with q | q
    · rw [q]; exact Nat.le_add_right _ _
    · rw [q]; exact Nat.le_refl _
  exact I1.fpOk hle (I1.hok.fresh hle)
theorem walk_enumS {z : Str} : Walk (IteS z) z.cps.size (fun _ => True) (YPair (fun i => some (.int (i : Nat))) (fun i => z.cps[i]?.map fun c => .str ⟨#[c]⟩)) :=
  ⟨fun _ _ hi _ => hi, fun _ _ => Nat.le_refl _, fun i H v H' _ _ ⟨T, c, h1, h2, h3, h4⟩ => ⟨T, .int (i : Nat), .str ⟨#[c]⟩, h1, h2, h4, rfl, by show Option.map _ z.cps[i]? = _; rw [h3]; rfl⟩⟩
end
end Mo

namespace Mo
open PySem PySem.Spec PyProof.Rows L2
/-! ### texts as lists of codes -/
def tx (cs : List Nat) : Str := ⟨cs.toArray⟩
abbrev sg (c : Nat) : V := .str ⟨#[c]⟩
theorem tx_eta (z : Str) : tx z.cps.toList = z := rfl
theorem tx_list (cs : List Nat) : (tx cs).cps.toList = cs := rfl
theorem tx_len (cs : List Nat) : (tx cs).length = cs.length := by show cs.toArray.size = _; simp
theorem tx_size (cs : List Nat) : (tx cs).cps.size = cs.length := by show cs.toArray.size = _; simp
theorem tx_inj {a b : List Nat} (h : tx a = tx b) : a = b := by
  have q := congrArg (fun z : Str => z.cps.toList) h
  exact q
theorem tx_app (a b : List Nat) : tx a ++ tx b = tx (a ++ b) := by
  show (⟨a.toArray ++ b.toArray⟩ : Str) = ⟨(a ++ b).toArray⟩
  simp
theorem tx_app1 (a : List Nat) (c : Nat) : tx a ++ (⟨#[c]⟩ : Str) = tx (a ++ [c]) := tx_app a [c]
theorem tx_get {cs : List Nat} {i : Nat} : (tx cs).cps[i]? = cs[i]? := by
  show cs.toArray[i]? = cs[i]?
  simp
theorem fits5 {n : Nat} (h : n ≤ 100000) : n ≤ sizeLine := Nat.le_trans h (by decide)
theorem fitsLt {n : Nat} (h : n ≤ 100000) : n < sizeLine := Nat.lt_of_le_of_lt h (by decide)
/-- small letters alone -/
def Low (cs : List Nat) : Prop := ∀ c ∈ cs, 97 ≤ c ∧ c ≤ 122
theorem tx_nil : Str.ofString "" = tx [] := by decide +kernel
theorem join_signs : ∀ cs : List Nat, Txt.join (Str.ofString "") (cs.map fun c => (⟨#[c]⟩ : Str)) = tx cs := by
  have key : ∀ cs : List Nat, Str.join (tx []) (cs.map fun c => (⟨#[c]⟩ : Str)) = tx cs := by
    intro cs
    induction cs with
    | nil => rfl
    | cons c r ih =>
      cases r with
      | nil => rfl
      | cons e r =>
        show (⟨#[c]⟩ : Str) ++ tx [] ++ Str.join (tx []) ((e :: r).map fun c => (⟨#[c]⟩ : Str)) = tx (c :: e :: r)
        rw [ih]
        show tx [c] ++ tx [] ++ tx (e :: r) = _
        rw [tx_app, tx_app]
        rfl
  intro cs
  show Builtin.Str.glued _ _ = _
  rw [StrLaws.glued_eq_join, tx_nil]
  exact key cs
/-! ### the pen -/
def penD (c : Addr) (t r : Int) : List (Key × V) := [(.inr "cells", .ref c), (.inr "turn", .int t), (.inr "rest", .int r)]
theorem k_ct : ¬ ((Sum.inr "cells" : Key) = (Sum.inr "turn" : Key)) := by decide +kernel
theorem k_cr : ¬ ((Sum.inr "cells" : Key) = (Sum.inr "rest" : Key)) := by decide +kernel
theorem k_tr : ¬ ((Sum.inr "turn" : Key) = (Sum.inr "rest" : Key)) := by decide +kernel
theorem pen_cells (c : Addr) (t r : Int) : valV (penD c t r) (Sum.inr "cells") = some (.ref c) := valV_pos rfl
theorem pen_turn (c : Addr) (t r : Int) : valV (penD c t r) (Sum.inr "turn") = some (.int t) := by
  unfold penD
  rw [valV_neg k_ct, valV_pos rfl]
theorem pen_rest (c : Addr) (t r : Int) : valV (penD c t r) (Sum.inr "rest") = some (.int r) := by
  unfold penD
  rw [valV_neg k_cr, valV_neg k_tr, valV_pos rfl]
theorem put_turn (c : Addr) (t r u : Int) : putK (penD c t r) (Sum.inr "turn") (.int u) = penD c u r := by
  unfold putK penD
  have k1 := k_ct
  have k2 : ¬ ((Sum.inr "rest" : Key) = (Sum.inr "turn" : Key)) := fun e => k_tr e.symm
  simp only [List.any_cons, List.map_cons, List.map_nil, k1, k2, if_false, if_true, decide_true, decide_false, Bool.true_or, Bool.or_true, Bool.false_or]
theorem put_rest (c : Addr) (t r u : Int) : putK (penD c t r) (Sum.inr "rest") (.int u) = penD c t u := by
  unfold putK penD
  have k1 := k_cr
  have k2 := k_tr
  simp only [List.any_cons, List.map_cons, List.map_nil, k1, k2, if_false, if_true, decide_true, decide_false, Bool.true_or, Bool.or_true, Bool.false_or]
theorem pen_merge (c : Addr) (t r : Int) : mergeK [] (penD c t r) = penD c t r := by
  have k1 := k_ct
  have k2 := k_cr
  have k3 := k_tr
  simp only [mergeK, penD, putK, List.foldl_cons, List.foldl_nil, List.any_nil, List.any_cons, List.nil_append, List.cons_append, k1, k2, k3, decide_false, Bool.or_false, Bool.false_eq_true, if_false]
/-- the pen at d, its cells at c, t draws done -/
def Pen (H : Hp) (d c : Addr) (t : Nat) : Prop := ∃ (ns : List Int) (r : Int), H d = some (.dK (penD c t r)) ∧ H c = some (.lst (ns.map V.int)) ∧ ns.length ≤ 63 ∧ 0 ≤ r
theorem Pen.ne {H : Hp} {d c : Addr} {t : Nat} (h : Pen H d c t) : d ≠ c := by
  obtain ⟨ns, r, h1, h2, _⟩ := h
  exact ne_of h1 h2 (by intro z; cases z)
/-- all but d is as it was -/
def But (d : Addr) (H H' : Hp) : Prop := ∀ b o, b ≠ d → H b = some o → H' b = some o
theorem But.refl (d : Addr) (H : Hp) : But d H H := fun _ _ _ h => h
theorem But.trans {d : Addr} {H H1 H2 : Hp} (a : But d H H1) (b : But d H1 H2) : But d H H2 := fun c o n h => b c o n (a c o n h)
theorem But.same {d : Addr} {H H1 : Hp} (a : Same H H1) : But d H H1 := fun c o _ h => a c o h
theorem But.none {d : Addr} {H H1 : Hp} (a : But d H H1) {p : Addr} (h : H1 p = none) (n : p ≠ d) : H p = none := by
  cases q : H p with
  | none => rfl
  | some o =>
    rw [a p o n q] at h
    cases h
theorem Pen.new {H : Hp} {d c : Addr} {t : Nat} (h : Pen H d c t) {p : Addr} (hp : H p = none) : p ≠ d ∧ p ≠ c := by
  obtain ⟨ns, r, h1, h2, _⟩ := h
  exact ⟨(ne_of_none h1 hp).symm, (ne_of_none h2 hp).symm⟩
theorem Pen.upd {H : Hp} {d c : Addr} {t : Nat} (h : Pen H d c t) {p : Addr} {o : HO} (h1 : p ≠ d) (h2 : p ≠ c) : Pen (upd H p o) d c t := by
  obtain ⟨ns, r, e1, e2, e3⟩ := h
  exact ⟨ns, r, by rw [upd_ne h1.symm]; exact e1, by rw [upd_ne h2.symm]; exact e2, e3⟩
theorem Pen.same {H H' : Hp} {d c : Addr} {t : Nat} (h : Pen H d c t) (s : Same H H') : Pen H' d c t := by
  obtain ⟨ns, r, e1, e2, e3⟩ := h
  exact ⟨ns, r, s _ _ e1, s _ _ e2, e3⟩
theorem same_new {H : Hp} {p : Addr} {o : HO} (h : H p = none) : Same H (L2.upd H p o) := fun b x e => by
  rw [upd_ne (ne_of_none e h)]
  exact e
theorem But.set {d : Addr} {H : Hp} {o : HO} : But d H (L2.upd H d o) := fun b x n e => by
  rw [upd_ne n]
  exact e
theorem But.put {d : Addr} {H H' : Hp} {o : HO} (b : But d H H') {D : Addr} (n : H D = Option.none) : But d H (L2.upd H' D o) := fun x y nx e => by
  rw [upd_ne (ne_of_none e n)]
  exact b x y nx e
theorem Same.put {H H' : Hp} {o : HO} (b : Same H H') {D : Addr} (n : H D = Option.none) : Same H (L2.upd H' D o) := fun x y e => by
  rw [upd_ne (ne_of_none e n)]
  exact b x y e
theorem pen_set {H : Hp} {d c : Addr} {t : Nat} (h : Pen H d c t) {u : Nat} {r : Int} (hr : 0 ≤ r) : Pen (L2.upd H d (.dK (penD c u r))) d c u := by
  have n := h.ne
  obtain ⟨ns, r0, e1, e2, e3, _⟩ := h
  exact ⟨ns, r, upd_same, by rw [upd_ne n.symm]; exact e2, e3, hr⟩
def spDraw : Sp := fun vs H Q _ => ∃ (d c : Addr) (n : Int) (t : Nat), vs = [.ref d, .int n] ∧ Pen H d c t ∧ 0 < n ∧ n < 1073741824 ∧ t < 1073741824 ∧
  ∀ H' k t', But d H H' → Pen H' d c t' → t' ≤ t + 1 → 0 ≤ k → k < n → Q (.int k) H'
def spPick (K : PySem.W.Frag) : Sp := fun vs H Q _ => ∃ (d c l : Addr) (xs : List V) (t : Nat), vs = [.ref d, .ref l] ∧ Pen H d c t ∧ SqL K H l xs ∧ l ≠ d ∧ 0 < xs.length ∧ xs.length < 1073741824 ∧ t < 1073741824 ∧
  ∀ H' v t', But d H H' → Pen H' d c t' → t' ≤ t + 1 → v ∈ xs → Q v H'
end Mo

namespace Mo
open PySem PySem.Spec PyProof.Rows L2
/-! ### normal forms, over lists of codes -/
theorem idx_ne {a c : Nat} (r : List Nat) (h : a ≠ c) : (a :: r).idxOf c = r.idxOf c + 1 := by
  rw [List.idxOf_cons]
  have e : (a == c) = false := by simpa using h
  rw [e]
  rfl
theorem nodup_idx : ∀ (ns : List Nat) (i c : Nat), ns.Nodup → ns[i]? = some c → ns.idxOf c = i
  | [], i, c, _, h => by simp at h
  | a :: r, 0, c, _, h => by
    have e : a = c := by simpa using h
    subst e
    exact List.idxOf_cons_self
  | a :: r, i + 1, c, hn, h => by
    have h2 : r[i]? = some c := by simpa using h
    have hn2 := List.nodup_cons.mp hn
    have ne : a ≠ c := fun e => hn2.1 (e ▸ List.mem_of_getElem? h2)
    rw [idx_ne _ ne, nodup_idx r i c hn2.2 h2]
theorem idx_at {ns : List Nat} {c : Nat} (h : c ∈ ns) : ns[ns.idxOf c]? = some c := by
  have hl := List.idxOf_lt_length_of_mem h
  rw [List.getElem?_eq_getElem hl, List.getElem_idxOf hl]
/-- names.index(sign) -/
theorem index_one {ns : List Nat} (hn : ns.Nodup) {c : Nat} (hc : c ∈ ns) : ∃ rest, Builtin.Str.occurrences (tx ns) ⟨#[c]⟩ 0 (tx ns).length 1 = ns.idxOf c :: rest := by
  have h1 := StrLaws.found_one (tx ns) c
  rw [decide_eq_true (show c ∈ (tx ns).cps.toList from hc)] at h1
  cases e : Builtin.Str.occurrences (tx ns) ⟨#[c]⟩ 0 (tx ns).length 1 with
  | nil => rw [e] at h1; cases h1
  | cons i rest =>
    have h2 := StrLaws.occ_spec (tx ns) ⟨#[c]⟩ 0 (tx ns).length 1 i (by rw [e]; exact List.mem_cons_self)
    have h3 := (StrLaws.subAt_one (tx ns) c i).mp h2
    rw [nodup_idx ns i c hn h3]
    exact ⟨rest, rfl⟩
/-- the code of the sign's place in the order of first occurrence -/
def nfc (cs : List Nat) (c : Nat) : Nat := 97 + (met cs).idxOf c
def nf (cs : List Nat) : List Nat := cs.map (nfc cs)
theorem met_map_key (f : Nat → Nat) : ∀ (cs acc : List Nat), (∀ x y, x ∈ acc ++ cs → y ∈ acc ++ cs → f x = f y → x = y) → (cs.map f).foldl metStep (acc.map f) = (cs.foldl metStep acc).map f
  | [], acc, _ => rfl
  | c :: cs, acc, h => by
    rw [List.map_cons, List.foldl_cons, List.foldl_cons]
    have e : metStep (acc.map f) (f c) = (metStep acc c).map f := by
      unfold metStep
      by_cases q : c ∈ acc
      · rw [if_pos q, if_pos (List.mem_map.mpr ⟨c, q, rfl⟩)]
      · have q2 : ¬ f c ∈ acc.map f := fun z => by
          obtain ⟨x, hx, e⟩ := List.mem_map.mp z
          exact q (h x c (by simp [hx]) (by simp) e ▸ hx)
        rw [if_neg q, if_neg q2, List.map_append]
        rfl
    rw [e]
    refine met_map_key f cs (metStep acc c) fun x y hx hy => h x y ?_ ?_
    · rcases List.mem_append.mp hx with z | z
      · rcases mem_metStep.mp z with z | z
        · simp [z]
        · simp [z]
      · simp [z]
    · rcases List.mem_append.mp hy with z | z
      · rcases mem_metStep.mp z with z | z
        · simp [z]
        · simp [z]
      · simp [z]
theorem met_map {f : Nat → Nat} {cs : List Nat} (h : ∀ x y, x ∈ cs → y ∈ cs → f x = f y → x = y) : met (cs.map f) = (met cs).map f := by
  have q := met_map_key f cs [] (by simpa using h)
  exact q
theorem idx_map {f : Nat → Nat} : ∀ (ns : List Nat) (c : Nat), (∀ x, x ∈ ns → f x = f c → x = c) → (ns.map f).idxOf (f c) = ns.idxOf c
  | [], c, _ => rfl
  | a :: r, c, h => by
    rw [List.map_cons]
    by_cases e : a = c
    · subst e
      rw [List.idxOf_cons_self, List.idxOf_cons_self]
    · have e2 : f a ≠ f c := fun z => e (h a List.mem_cons_self z)
      rw [idx_ne _ e, idx_ne _ e2, idx_map r c fun x hx => h x (List.mem_cons_of_mem _ hx)]
theorem nf_map {f : Nat → Nat} {cs : List Nat} (h : ∀ x y, x ∈ cs → y ∈ cs → f x = f y → x = y) : nf (cs.map f) = nf cs := by
  unfold nf
  rw [List.map_map]
  refine List.map_congr_left fun c hc => ?_
  show nfc (cs.map f) (f c) = nfc cs c
  unfold nfc
  rw [met_map h, idx_map _ _ fun x hx e => h x c (mem_met.mp hx) hc e]
theorem nfc_inj {cs : List Nat} {x y : Nat} (hx : x ∈ cs) (hy : y ∈ cs) (e : nfc cs x = nfc cs y) : x = y := by
  unfold nfc at e
  have h1 := idx_at (mem_met.mpr hx)
  have h2 := idx_at (mem_met.mpr hy)
  rw [show (met cs).idxOf x = (met cs).idxOf y by omega] at h1
  rw [h1] at h2
  exact Option.some.inj h2
theorem nf_nf (cs : List Nat) : nf (nf cs) = nf cs := nf_map fun _ _ hx hy e => nfc_inj hx hy e
theorem nfc_lt {cs : List Nat} {c : Nat} (h : c ∈ cs) : (met cs).idxOf c < (met cs).length := List.idxOf_lt_length_of_mem (mem_met.mpr h)
/-- a pattern, as its codes -/
structure Pat (cs : List Nat) : Prop where
  len : cs.length ≤ 40
  low : Low cs
  few : (met cs).length ≤ 8
theorem Pat.nil : Pat [] := ⟨by decide, fun c h => by simp at h, by decide⟩
theorem Pat.map {f : Nat → Nat} {cs : List Nat} (p : Pat cs) (h : ∀ x y, x ∈ cs → y ∈ cs → f x = f y → x = y) (hl : ∀ c ∈ cs, 97 ≤ f c ∧ f c ≤ 122) : Pat (cs.map f) :=
  ⟨by rw [List.length_map]; exact p.len, fun x hx => by obtain ⟨c, hc, rfl⟩ := List.mem_map.mp hx; exact hl c hc, by rw [met_map h, List.length_map]; exact p.few⟩
theorem Pat.nf {cs : List Nat} (p : Pat cs) : Pat (nf cs) := p.map (fun _ _ hx hy e => nfc_inj hx hy e) fun c hc => by
  have h1 := nfc_lt hc
  have h2 := p.few
  unfold nfc
  omega
theorem repr_room {cs : List Nat} (h : Low cs) (hl : cs.length ≤ 1000) : (reprText (tx cs)).length ≤ sizeLine := by
  have h1 := StrLaws.reprText_len (tx cs) (fun c hc => by
    have := h c hc
    have h3 : (122 : Nat) < 16 ^ 8 := by decide
    omega)
  rw [tx_len] at h1
  exact fits5 (by omega)
theorem map_take_snoc {α β : Type} {f : α → β} {cs : List α} {i : Nat} {c : α} (h : cs[i]? = some c) : (cs.take (i + 1)).map f = (cs.take i).map f ++ [f c] := by
  rw [List.take_add_one, h, List.map_append]
  rfl
theorem met_take_snoc {cs : List Nat} {i c : Nat} (h : cs[i]? = some c) : met (cs.take (i + 1)) = metStep (met (cs.take i)) c := by
  rw [List.take_add_one, h]
  exact met_snoc _ _
end Mo

namespace Mo
open PySem PySem.Spec PyProof.Rows L2
/-! ### an error that is kept behind its except suite -/
/-- at a: an error of the class cls, its own dict d -/
def exV (a : Addr) (cls : Value) (d : Option Addr) : HO := .ext fun h => ∃ oe vs, h.get? a = some oe ∧ Zc cls d oe ∧ oe.data = .fields vs
section
variable {X : Cx} {pins : List (Addr × Obj)} {σ : L2.St} {H : Hp} {s : Shared}
/-- an object that was not there at the entry is tracked from now on -/
theorem track {a : Addr} {oe : Obj} {vs : Array Value} {o : HO} (I : Inv X pins σ H s) (ha : s.heap.get? a = some oe) (hd : oe.data = .fields vs) (na : H a = none) (nL : a ≠ X.env.locals)
    (n0 : ∀ u, X.s_0.heap.get? a = some u → a ∈ X.ex) (np : ∀ p ∈ X.pn ++ pins, p.1 ≠ a) (new : ObjOk X.prog X.w (upd H a o) s.heap a o) : Inv X pins σ (upd H a o) s := by
  have ne : ∀ b u, H b = some u → b ≠ a := fun b u e => ne_of_none e na
  refine ⟨I.ok, I.os, I.bare, ⟨I.base.keep, I.base.slot, fun b u q n hx => ?_, I.base.there, fun b xs e => ?_, fun b u w e => ?_, fun b ps e => ?_⟩, I.loc, I.cell, ?_, fun x c e => ?_, fun p hp => ?_, fun b u e => ?_, I.len⟩
  · rw [upd_ne (fun z : b = a => hx (by rw [z]; exact n0 u (by rw [← z]; exact q)))]
    exact I.base.free b u q n hx
  · have q := I.base.tups b xs e
    rw [upd_ne (ne _ _ q)]
    exact q
  · have q := I.base.frzs b u w e
    rw [upd_ne (ne _ _ q)]
    exact q
  · obtain ⟨more, q⟩ := I.base.tbls b ps e
    exact ⟨more, by rw [upd_ne (ne _ _ q)]; exact q⟩
  · rw [upd_ne nL.symm]
    exact I.free
  · obtain ⟨v, oc, hoc, hcc⟩ := I.cell x c e
    have nca : c ≠ a := fun z => by
      rw [z, ha] at hoc
      cases hoc
      rw [hd] at hcc
      cases hcc
    rw [upd_ne nca]
    exact I.freeC x c e
  · obtain ⟨h1, h2, h3⟩ := I.pin p hp
    exact ⟨h1, by rw [upd_ne (np p hp)]; exact h2, h3⟩
  · by_cases hb : b = a
    · subst hb
      rw [upd_same] at e
      cases e
      exact new
    · rw [upd_ne hb] at e
      refine (I.hok b u e).stay (fun c v _ q => q) (fun c q => ?_) fun c xs q => ?_
      · rw [upd_ne (ne _ _ q)]
        exact q
      · rw [upd_ne (ne _ _ q)]
        exact q
theorem exV_ok {P : Program} {w : World} {H : Hp} {h : Heap} {a : Addr} {cls : Value} {d : Option Addr} {oe : Obj} {vs : Array Value} (e : h.get? a = some oe) (z : Zc cls d oe) (hd : oe.data = .fields vs) : ObjOk P w H h a (exV a cls d) :=
  ⟨⟨oe, vs, e, z, hd⟩, ⟨oe, e⟩, fun h1 h2 ⟨o1, v1, e1, z1, d1⟩ k => ⟨o1, v1, k _ e1, z1, d1⟩⟩
theorem exV_at {a : Addr} {cls : Value} {d : Option Addr} (I : Inv X pins σ H s) (e : H a = some (exV a cls d)) : ∃ oe vs, s.heap.get? a = some oe ∧ Zc cls d oe ∧ oe.data = .fields vs := (I.hok a _ e).1
end
/-- what 'except x as n: kept = n' wishes of an error of the body: n in slot i, kept in slot j; behind it the error is tracked -/
def wKeep (K : PySem.W.Frag) (c : Value) (i j : Nat) (Wout : WX) (D : Ends) : WX := fun cls d σ H =>
  ∃ b, PySem.W.exmOne K cls c = some b ∧ (b = true → ∀ a, H a = none → D.nx (((σ.set i (some (.ref a))).set j (some (.ref a))).set i none) (upd H a (exV a cls d))) ∧ (b = false → Wout cls d σ H)
section
variable {X : Cx} {x n kx : Str} {c : Value} {i j : Nat} {body : List Stmt} {np np2 kp ap pos pos' : Pos} {tb : WX → TS} {Wout : WX}
theorem ps_try_keep (hs : X.stack = X.env :: X.outer) (hf : X.env.frame = some X.env.locals) (hN : X.N.Nodup) (hi : X.N[i]? = some n) (hj : X.N[j]? = some kx) (hln : X.env.kindOf n = some .local) (hlk : X.env.kindOf kx = some .local) (hc : Names X x c) (tk : Takes X Wout)
    (hb : ∀ (W : WX) (pn : List (Addr × Obj)) (xe : Value → Shared → Prop), Takes (X.tr pn xe) W → PassesOwn (model X.prog X.w) X.A X.env xe → PSs (X.tr pn xe) body (tb W))
    (hsu : ∀ (a : Addr) (oe : Obj) (pn : List (Addr × Obj)), PSs (X.suite a ((a, oe) :: pn)) [.Assign [.Name kx kp] (.Name n np2) ap] (tAsg (tVar i) (gName j))) :
    PS X (.Try body [.ExceptHandler (some (.Name x np)) (some n) [.Assign [.Name kx kp] (.Name n np2) ap] pos'] [] [] pos) (fun D σ H => tb (wKeep X.K c i j Wout D) D σ H) := by
  refine ⟨fun pins s σ H D I h => ?_⟩
  have ok := I.ok
  have hfr : X.A.frames = some (X.env :: X.outer) := ok.frames.trans (by rw [hs])
  refine wpAny_Try_except (wpAny_mono ((hb (wKeep X.K c i j Wout D) (X.pn ++ pins) (fun e s₁ => wpAny (model X.prog X.w) X.A (noteFrame e X.env) (fun _ s₂ => wpAny (model X.prog X.w) X.A (setFlight e none) (fun _ s₃ =>
    wpAny (model X.prog X.w) X.A (handleBy e X.env [.ExceptHandler (some (.Name x np)) (some n) [.Assign [.Name kx kp] (.Name n np2) ap] pos']) (SP X pins D) X.xe s₃) X.xe s₂) X.xe s₁) (fun u s' xx => ?_) PassesOwn.looking).run [] s σ H D (I.toTry _) h) (fun f s1 hsp => ?_) (fun e s1 he => he))
  · obtain ⟨a, B, sI, pins', σ', H', cls, d, rfl, J', nb, up, sky, na, os, ag, b, hb1, hyes, hno⟩ := xx
    have J : Inv X pins σ' H' sI := J'.ofTry ok
    have sky' : Sky B (X.env :: X.outer) a (Zc cls d) X.env.locals s'.heap := hs ▸ sky
    show wpAny (model X.prog X.w) X.A (noteFrame (.ref a) X.env) _ _ _
    refine Sky.land Zc.steady hfr hf sky' fun h3 fl3 up3 => ?_
    have J3 : Inv X pins σ' H' { s' with heap := h3 } := J.landed nb fl3.1 (up.trans up3) os ag
    obtain ⟨oe3, vs3, he3, hz3, hd3⟩ := fl3.there
    have nfr : a ∉ frs (X.env :: X.outer) := fun hm => by
      obtain ⟨_, o', e', hnf⟩ := fl3.2.2.1.mem hm
      rw [he3] at e'
      cases e'
      exact hnf _ hd3
    have nL : a ≠ X.env.locals := fun z => nfr (List.mem_filterMap.mpr ⟨X.env, List.mem_cons_self, hf.trans (congrArg some z.symm)⟩)
    have nF : a ∉ X.fs := fun hm => by
      obtain ⟨e, he, q⟩ := List.mem_filterMap.mp hm
      exact nfr (List.mem_filterMap.mpr ⟨e, List.mem_cons_of_mem _ he, q⟩)
    have nB : B.get? a = none := fl3.2.1
    have nI : sI.heap.get? a = none := by
      cases q : sI.heap.get? a with
      | none => rfl
      | some o =>
        have z := nb a o q (by show a ∉ frs X.stack; rw [hs]; exact nfr)
        rw [nB] at z
        cases z
    have n0 : ∀ u, X.s_0.heap.get? a = some u → a ∈ X.ex := fun u q => by
      by_cases hx : a ∈ X.ex
      · exact hx
      · obtain ⟨o', z⟩ := J.base.there a u q hx
        rw [nI] at z
        cases z
    have npp : ∀ p ∈ X.pn ++ pins, p.1 ≠ a := fun p hp z => by
      have q := (J.pin p hp).1
      rw [z, nI] at q
      cases q
    have S3 := J3.suite he3 hd3 na nL nF
    refine wpAny_handleBy_cons (codeAny_handlers_test ?_) (by intro q; cases q)
    have LT : PySem.W.Looks (model X.prog X.w) h3 (typeOf (.ref a)) cls := fun A Q E s k q => wpAny_typeOf_ref (k _ _ he3) (hz3.1 ▸ q)
    have LM := PySem.W.exm_one (M := model X.prog X.w) J3.kIn LT hb1
    have test : ∀ {Q : Value → Shared → Prop} {E : Value → Shared → Prop}, Q c { s' with heap := h3 } → wpAny (model X.prog X.w) (X.A.mark (some (.ref a))) (eval (.Name x np) X.env) Q E { s' with heap := h3 } := fun {Q E} q => by
      rcases hc with ⟨hg, hdbg, hm | ⟨hm, hv, hnn⟩⟩
      · exact ld_glob (X := X.suite a ((a, oe3) :: (X.pn ++ pins))) S3 hg hm q hdbg
      · exact ld_blt (X := X.suite a ((a, oe3) :: (X.pn ++ pins))) S3 hg hm hv q hnn hdbg
    refine test (LM.here ?_)
    cases b with
    | true =>
      refine codeAny_handlers_suite_as (HandSPX.lands_againZ fl3 fun h4 fl4 up4 => ?_)
      have J4 : Inv X pins σ' H' { s' with heap := h4 } := J.landed nb fl4.1 ((up.trans up3).trans up4) os ag
      obtain ⟨oe4, vs4, he4, hz4, hd4⟩ := fl4.there
      refine store_ok (X := X.suite a ((a, oe4) :: (X.pn ++ pins))) (v := .ref a) (J4.suite he4 hd4 na nL nF) hN hi (.inl hln) rfl (fun s5 S5 => ?_) (.inr hln)
      have lenσ : i < σ'.length := by
        rw [J.len]
        exact (List.getElem?_eq_some_iff.mp hi).1
      have want : tAsg (tVar i) (gName j) { nx := fun σ6 H6 => σ6 = (σ'.set i (some (.ref a))).set j (some (.ref a)) ∧ H6 = H', rt := fun _ _ => False, bk := fun _ _ => False, ct := fun _ _ => False } (σ'.set i (some (.ref a))) H' :=
        ⟨.ref a, by rw [List.getElem?_set_self lenσ], rfl, rfl⟩
      refine wpAny_mono ((hsu a oe4 (X.pn ++ pins)).run [] s5 _ H' _ S5 want) (fun f s6 hsp => ?_) (fun _ _ z => False.elim z)
      cases f with
      | next =>
        obtain ⟨σ6, H6, S6, rfl, rfl⟩ := hsp
        obtain ⟨he6, _⟩ := S6.pin (a, oe4) (List.mem_append_left _ List.mem_cons_self)
        have J6 : Inv X pins _ H6 s6 := S6.unsuite ok
        have J7 := track J6 he6 hd4 na nL n0 npp (exV_ok he6 hz4 hd4)
        exact gone_ok J7 hN hi hln fun s7 J8 => ⟨_, _, J8, hyes rfl a na⟩
      | brk => exact hsp.elim fun _ z => z.elim fun _ z => z.2.elim
      | cont => exact hsp.elim fun _ z => z.elim fun _ z => z.2.elim
      | ret u => exact hsp.elim fun _ z => z.elim fun _ z => z.elim fun _ z => z.2.2.elim
    | false =>
      show wpAny _ X.A (handleBy (.ref a) X.env []) _ _ _
      refine wpAny_handleBy_nil ?_
      obtain ⟨k1, k2, k3, oe, vs, T, oT, ts', he, hz, hd, h1, hr⟩ := id fl3
      unfold PySem.passOn
      refine wpAny_bind (wpAny_field he hd h1 ?_)
      rw [if_neg (show ¬ ((Value.ref T == Value.none) = true) from by simp)]
      have fin : wpAny (model X.prog X.w) X.A (setFlight (.ref a) X.env.frame) (fun _ s4 => wpAny (model X.prog X.w) X.A (throw (.ref a) : Sem Flow) (SP X pins D) X.xe s4) X.xe { s' with heap := h3 } := by
        rw [hf]
        refine HandSPX.setFlight_upZ fl3 fun h4 hh4 up4 => wpAny_throw (tk _ _ ⟨a, B, sI, pins, σ', H', cls, d, rfl, J, nb, (up.trans up3).trans up4, .inr (.inr (hs ▸ hh4)), na, os, ag, hno rfl⟩)
      first
        | exact wpAny_bind (wpAny_pure (wpAny_bind fin))
        | exact wpAny_bind fin
  · cases f with
    | next => exact hsp.elim fun σ1 z => z.elim fun H1 z => wpAny_execs_nil ⟨σ1, H1, z.1.ofTry ok, z.2⟩
    | brk => exact hsp.elim fun σ1 z => z.elim fun H1 z => ⟨σ1, H1, z.1.ofTry ok, z.2⟩
    | cont => exact hsp.elim fun σ1 z => z.elim fun H1 z => ⟨σ1, H1, z.1.ofTry ok, z.2⟩
    | ret u => exact hsp.elim fun v z => z.elim fun σ1 z => z.elim fun H1 z => ⟨v, σ1, H1, z.1.ofTry ok, z.2⟩
end
end Mo

/-! ### isinstance and the fields of an error that has its own dict -/
namespace Mo
open PySem PySem.W PySem.Spec PySem.Calls PyProof.Rows
section
variable {prog : Program} {w : World} {A : Around} {E : Value → Shared → Prop} {s : Shared} {K : Frag} {x D : Addr} {ox oy : Obj}
theorem err_class {Q : Option Value → Shared → Prop} (C : L2.ExcC K D) (X : K.In s.heap) (I : PySem.W.InstAt s.heap x ox D (some oy)) (h : Q (some (.ref D)) { s with toks := s.toks + 1 }) : wpAny (model prog w) A (getAttr? (.ref x) "__class__") Q E s := by
  have hf : findObj K D (some oy) "__class__" = some (.bind (.builtin "getset_descriptor.__get__") (.builtin "object.__class__")) := findObj_data (by obtain ⟨cd, hc, _⟩ := any_some C.hd; rw [hc]; rfl) C.ha C.hn C.ht
  obtain ⟨hp, g, d, t, os⟩ := s
  have a0 := I.type (M := model prog w)
  have a1 := looks_findIn (M := model prog w) X C.hg
  have a2 := looks_findIn (M := model prog w) X C.hk
  have a3 := looks_find (M := model prog w) X I hf
  have sub : Looks (model prog w) hp (isInstance (.ref x) (.type "BaseException")) true := a0.andThen (looks_subIn X C.hs)
  have y2 : (Value.builtin "BaseException.__getattribute__" == Value.builtin "object.__getattribute__") = false := by decide +kernel
  have y1 : (onTheHeap (Value.ref D) && Value.builtin "BaseException.__getattribute__" == Value.builtin "object.__getattribute__") = false := by rw [y2]; rfl
  have y0 : (false && onTheHeap (Value.builtin "BaseException.__getattribute__")) = false := rfl
  unfold getAttr? getAttrBy? getAttrBy
  refine wpAny_bind (wpAny_mkText (wpAny_bind (wpAny_attempt (wpAny_holding (wpAny_bind (a0.at (wpAny_bind (a1.at ?_))))))))
  show wpAny _ _ (if (onTheHeap (Value.ref D) && Value.builtin "BaseException.__getattribute__" == Value.builtin "object.__getattribute__") = true then _ else _) _ _ _
  rw [y1, if_neg Bool.false_ne_true]
  unfold getAttrByItsOwn hookBefore
  refine wpAny_bind (by
    rw [if_pos (show onTheHeap (Value.ref D) = true from rfl)]
    refine a2.at (wpAny_bind (wpAny_attempt (wpAny_holding ?_)))
    unfold callGetattribute
    rw [y0, if_neg Bool.false_ne_true]
    unfold boundAndCalled
    rw [PySem.F.excAttr_ValueError.ga.bind (.ref x)]
    refine wpAny_bind (wpAny_pure (by
      show wpAny _ _ (call (.builtin "BaseException.__getattribute__") [.ref x, .str "__class__" t]) _ _ _
      refine wpAny_call (codeAny_call_builtin PySem.F.excAttr_ValueError.ga.plain PySem.F.entry_bexc_ga (@check_slot (model prog w) _ _ ⟨hp, g, d, t + 1, os⟩ "BaseException.__getattribute__" "BaseException" "__getattribute__" (.ref x) [.str "__class__" t] [] _ (by decide +kernel) (by decide +kernel) sub (PySem.F.args_bexc_ga (.ref x) (.str "__class__" t)) ?_))
      unfold Builtin.«object.__getattribute__»
      refine wpAny_bind (wpAny_of_eq (a := ((Value.ref x : Value), [Value.str "__class__" t])) (by first | rfl | (simp only [slotArgs]; rfl)) (wpAny_bind (wpAny_pure (wpAny_bind (a0.at (wpAny_bind (a3.at ?_)))))))
      show wpAny _ _ (holding [Value.builtin "object.__class__"] (call (.builtin "getset_descriptor.__get__") [.builtin "object.__class__", .ref x, .ref D]) >>= ret) _ _ _
      refine wpAny_bind (wpAny_holding (wpAny_call (class_get (s := ⟨hp, g, d, t + 1, os⟩) (ox := ox) (od := some oy) X I C.hm (wpAny_pure ?_))))
      show wpAny _ _ (handedOut (.ref D)) _ _ _
      rw [handedOut_of (v := .ref D) rfl]
      first | exact wpAny_pure (wpAny_pure h) | exact wpAny_pure h | exact wpAny_pure (wpAny_bind (wpAny_pure (wpAny_pure h))))))
theorem err_kit (C : L2.ExcC K D) : KitX K (.ref x) (.ref D) (fun h => ∃ ox oy, PySem.W.InstAt h x ox D (some oy)) where
  ty := fun _ _ _ ⟨_, _, I⟩ => I.type
  it := fun M h X _ => by
    obtain ⟨cd, hc, _⟩ := any_some C.hd
    unfold clsIn at hc
    split at hc
    · rename_i c' d' cd' sl' ho
      intro A' Q' E' s' k q
      unfold isType loadHead
      exact wpAny_bind (wpAny_loadPart (k _ _ (X _ _ ho)) (wpAny_pure q))
    · cases hc
  ne := fun h tp dd its n sl X htp => by
    obtain ⟨cd, hc, _⟩ := any_some C.hd
    refine Bool.eq_false_iff.mpr fun q => ?_
    obtain rfl : D = tp := Value.ref.inj (beq_iff_eq.mp q)
    unfold clsIn at hc
    split at hc
    · rename_i c' d' cd' sl' ho
      cases (X _ _ ho).symm.trans htp
    · cases hc
  ca := fun X ⟨_, _, I⟩ k => err_class C X I k
end
end Mo
namespace Mo
open PySem PySem.Spec PyProof.Rows L2
section
variable {X : Cx} {pins : List (Addr × Obj)} {σ : L2.St} {H : Hp} {s : Shared}
/-- an error at a, its class at C, its dict at dd with the fields fs -/
def ErrAt (H : Hp) (a C dd : Addr) (fs : List (Str × V)) : Prop := H a = some (exV a (.ref C) (some dd)) ∧ H dd = some (.xd fs)
theorem ErrAt.inst {a C dd : Addr} {fs : List (Str × V)} (e : ErrAt H a C dd fs) (I : Inv X pins σ H s) : ∃ ox od mA, PySem.W.InstAt s.heap a ox C (some od) ∧ s.heap.Ns1 dd mA ∧ (∀ f, RelO (fs.lookup f) (mA f)) ∧ ∀ f, PySem.W.lookIn f od = some (mA f) := by
  obtain ⟨oe, vs, ha, hz, hd⟩ := exV_at I e.1
  obtain ⟨mA, hns, hr⟩ := (show ObjOk X.prog X.w H s.heap dd (.xd fs) from I.hok dd _ e.2)
  obtain ⟨od, ho, hl⟩ := lookIn_ns hns
  exact ⟨oe, od, mA, ⟨ha, hz.1, by unfold PySem.W.notCls; rw [hd] <;> rfl, by rw [hz.2]; exact ho⟩, hns, hr, hl⟩
/-- isinstance(err, c) -/
def rIsX (K : PySem.W.Frag) : List V → Hp → VK → Prop := fun xs H Q => ∃ (a C dd : Addr) (fs : List (Str × V)) (c : V) (u : Value) (b : Bool), xs = [.ref a, c] ∧ ErrAt H a C dd fs ∧ ExcC K C ∧ ClsV c u ∧ PySem.W.kitOne K (.ref C) u = some b ∧ Q (.bl b) H
theorem cr_isX : CallR X (.builtin "isinstance") (rIsX X.K) := by
  intro pins s σ H xs us Q I r h
  obtain ⟨a, C, dd, fs, c, u, b, rfl, ea, T, k, e, q⟩ := h
  obtain ⟨u1, u2, rfl, r1, r2⟩ := vals2 r
  cases r1
  obtain rfl := k.eq r2
  obtain ⟨ox, od, mA, J, _⟩ := ea.inst I
  exact PySem.W.kia_one (err_kit T) I.kIn ⟨ox, od, J⟩ e (fun z => nomatch z) fun tk => ⟨.bl b, H, I.tok tk, rfl, q⟩
/-- isinstance(err, (c1, c2, ..)) -/
def rIsXT (K : PySem.W.Frag) : List V → Hp → VK → Prop := fun xs H Q => ∃ (a C dd tp : Addr) (fs : List (Str × V)) (cs : List V) (us : List Value) (b : Bool), xs = [.ref a, .ref tp] ∧ ErrAt H a C dd fs ∧ ExcC K C ∧ H tp = some (.tup cs) ∧ Paired ClsV cs us ∧ PySem.W.kitAny K (.ref C) us = some b ∧ Q (.bl b) H
theorem cr_isXT : CallR X (.builtin "isinstance") (rIsXT X.K) := by
  intro pins s σ H xs us Q I r h
  obtain ⟨a, C, dd, tp, fs, cs, ws, b, rfl, ea, T, hT, k, e, q⟩ := h
  obtain ⟨u1, u2, rfl, r1, r2⟩ := vals2 r
  cases r1
  cases (show u2 = Value.ref tp from r2)
  obtain ⟨ox, od, mA, J, _⟩ := ea.inst I
  obtain ⟨_, its, rv, ⟨oc, od', dt, sl⟩, h1, h2, n, h3⟩ := (show ObjOk X.prog X.w H s.heap tp (.tup cs) from I.hok tp _ hT)
  obtain rfl := ClsV.all k rv
  simp only at h2 h3
  subst h2 h3
  exact PySem.W.kia_tup (err_kit T) I.kIn ⟨ox, od, J⟩ h1 e (fun z => nomatch z) fun tk => ⟨.bl b, H, I.tok tk, rfl, q⟩
/-- err.f -/
def tXv (K : PySem.W.Frag) (f : Str) (te : TE) : TE := fun σ H Q => te σ H fun x H1 => ∃ (a C dd : Addr) (fs : List (Str × V)) (v : V), x = .ref a ∧ ErrAt H1 a C dd fs ∧ XfC K C ∧ PySem.W.findIn K (.ref C) f = some none ∧ fs.lookup f = some v ∧ Q v H1
theorem pe_xv {e : Expr} {te : TE} {pos : Pos} {f : Str} (he : PE X e te) (hb : attributeBase e f X.env (eval e X.env) = eval e X.env := by rfl) : PE X (.Attribute e f pos) (tXv X.K f te) := by
  refine ⟨fun pins s σ H Q I h => ?_⟩
  refine attr_of hb (thn (he.run pins s σ H _ I h) fun u s1 hh => ?_)
  obtain ⟨x, H1, I1, rx, a, C, dd, fs, v, rfl, ea, T, hno, l, q⟩ := hh
  obtain rfl : u = Value.ref a := rx
  obtain ⟨ox, od, mA, J, hns, hr, hl⟩ := ea.inst I1
  obtain ⟨u, hu, ru⟩ := RelO.some_of (v := v) (o := mA f) (by rw [← l]; exact hr f)
  exact HandSPX.exc_get I1.kIn J T.ga T.gg T.exC (PySem.W.findObj_own T.hdC hno rfl (by rw [hl, hu])) (handed_of ru) ⟨v, H1, I1.tok _, ru, q⟩
end
end Mo

/-! ### defs called where no repr is under way: then repr of lists, tuples and dicts is known to the letter -/
namespace Mo
open PySem PySem.Spec PyProof.Rows L2
/-- as FnOk, for callers under no guard -/
structure FnG (P : Program) (w : World) (K : PySem.W.Frag) (mg : Str → Option Value) (base : Heap) (CX : CXT) (k : Nat) (f : Addr) (fd : FuncData) (ps : List Str) (sp : Sp) : Prop where
  len : ∀ vs H Q E, sp vs H Q E → vs.length = ps.length
  run : ∀ (A : Around) (outer : List Env) (s : Shared) (H : Hp) (args : Args) (us : List Value) (vs : List V) (Q : VK) (E : XK), Room k A → A.guards = some [] → Env0 P w K mg base A outer s H → BindsTo s fd args (ps.zip us) → Vals vs us → sp vs H Q E →
    codeAny (model P w) A (.call (.ref f) args) (CR CX outer P w H s Q E) s
section
variable {P : Program} {w : World} {K : PySem.W.Frag} {mg : Str → Option Value} {base : Heap} {CX : CXT} {k : Nat} {f : Addr} {fd : FuncData} {ps : List Str} {sp : Sp}
theorem FnG.of (F : FnOk P w K mg base CX k f fd ps sp) : FnG P w K mg base CX k f fd ps sp := ⟨F.len, fun A o s H a us vs Q E hr _ => F.run A o s H a us vs Q E hr⟩
/-- a def by its body, its guards told -/
theorem okG_of {x qual : Str} {st : Stmt} {N : List Str} (F : Fun K x qual st f fd) (S : FnScope N ps (defScope st)) (len : ∀ vs H Q E, sp vs H Q E → vs.length = ps.length)
    (hbody : ∀ (cdv : Value) (A : Around) (outer : List Env) (s : Shared) (H : Hp) (vs : List V) (Q : VK) (E : XK), Room k (A.deeper (envOfC qual (defScope st) s.heap.objs.size f cdv)) → A.guards = some [] → sp vs H Q E →
      ∃ t, PSs (cxOf CX P w K mg base N qual (defScope st) f cdv A outer s H E) (defBody st) t ∧ t { nx := fun _ H' => Q .non H', rt := Q } (start N vs) H) : FnG P w K mg base CX (k + 1) f fd ps sp := by
  obtain ⟨oc, od, kV, doc, pm, an, cdv, ct, osl, rfl, lk, hcd⟩ := F.ex
  refine ⟨len, fun A outer s H args us vs Q E hr hg e0 hb r hsp => ?_⟩
  have kept : ∀ b o, base.get? b = some o → s.heap.get? b = some o := fun b o e => (e0.bs b o e).1
  have KX : K.In s.heap := e0.mod.kin.keeps kept
  have kinds : ∀ y ∈ ps.zip us, (defScope st).names.lookup y.1 = some .local ∨ ((defScope st).names.lookup y.1 = some .cell ∧ ((cellsFrom (s.heap.objs.size + 1) (defScope st).names []).lookup y.1).isSome = true) := fun y hy =>
    (S.par y.1 (List.of_mem_zip (a := y.1) (b := y.2) hy).1).elim .inl fun q => .inr ⟨q, PySem.W.cellsFrom_some _ _ _ (.inl q)⟩
  refine codeAny_call_function hr.depth (KX _ _ lk) rfl S.co S.gen rfl (PySem.W.codeRec_of KX hcd) (hb _ _ _ _ (wpAny_newFunctionEnv_cells S.kind kinds fun env he s1 x => ?_))
  subst he
  refine ⟨(e0.mod.nolimit.keeps kept).keeps x.toInCall.keep, codeAny_func ?_⟩
  obtain ⟨t, ht, hq⟩ := hbody cdv A outer s H vs Q E (hr.deeper _) hg hsp
  have I : Inv (cxOf CX P w K mg base N qual (defScope st) f cdv A outer s H E) [] (start N vs) H s1 := inv_start S hr.hd e0 (len _ _ _ _ hsp) r x
  refine wpAny_mono (ht.run [] s1 (start N vs) H _ I hq) (fun fl s' hs => ?_) fun e s' hs => hs
  cases fl with
  | ret u => exact hs.elim fun v z => z.elim fun σ' z => z.elim fun H' z => ⟨v, H', z.1.os, z.1.bare, z.1.base, z.1.hok, z.2.1, z.2.2⟩
  | next => exact hs.elim fun σ' z => z.elim fun H' z => ⟨V.non, H', z.1.os, z.1.bare, z.1.base, z.1.hok, rfl, z.2⟩
  | brk => exact hs.elim fun _ z => z.elim fun _ z => z.2.elim
  | cont => exact hs.elim fun _ z => z.elim fun _ z => z.2.elim
/-- a def that raises nothing -/
theorem okG {x qual : Str} {st : Stmt} {N : List Str} (F : Fun K x qual st f fd) (S : FnScope N ps (defScope st)) (len : ∀ vs H Q E, sp vs H Q E → vs.length = ps.length)
    (hbody : ∀ (cdv : Value) (A : Around) (outer : List Env) (s : Shared) (H : Hp) (vs : List V) (Q : VK) (E : XK), Room k (A.deeper (envOfC qual (defScope st) s.heap.objs.size f cdv)) → A.guards = some [] → sp vs H Q E →
      ∃ t, PSs (cxOf CX0 P w K mg base N qual (defScope st) f cdv A outer s H E).nox (defBody st) t ∧ t { nx := fun _ H' => Q .non H', rt := Q } (start N vs) H) : FnG P w K mg base CX0 (k + 1) f fd ps sp :=
  okG_of F S len fun cdv A outer s H vs Q E hr hg hsp => (hbody cdv A outer s H vs Q E hr hg hsp).elim fun t z => ⟨t, z.1.nox, z.2⟩
end
section
variable {X : Cx} {CX : CXT} {x : Str} {f : Addr} {k : Nat} {fd : FuncData} {ps : List Str} {sp : Sp} {ds : List Value} {dvs : List V} {E : XK} {e : Expr} {es : List Expr} {t : TA} {p pos : Pos}
theorem run_G {pins : List (Addr × Obj)} {σ : L2.St} {H : Hp} {s : Shared} {Q : VK} {us : List Value} {vs : List V} (F : FnG X.prog X.w X.K X.mg X.base CX k f fd ps sp) (hr : Room k X.A) (hu : X.A.guards = some []) (hb : Binds X.K fd ps ds) (hd : Vals dvs ds) (hx : Passes CX X E)
    (I : Inv X pins σ H s) (r : Vals vs us) (h : sp (vs ++ dvs) H Q E) : wpAny (model X.prog X.w) X.A (call (.ref f) us) (EP X pins σ Q) X.xe s := by
  have rr : Vals (vs ++ dvs) (us ++ ds) := r.append hd
  refine wpAny_call (codeAny_mono (F.run X.A X.stack s H ⟨us, []⟩ (us ++ ds) (vs ++ dvs) Q E hr hu I.env0 (hb s us I.kIn (rr.length.symm.trans (F.len _ _ _ _ h))) rr h) fun r s' hq => ?_)
  cases r with
  | error e => exact hx pins σ H s e s' I hq
  | ok fl =>
    cases fl with
    | ret u => exact I.after hq
    | next => exact hq.elim
    | brk => exact hq.elim
    | cont => exact hq.elim
/-- f(e, ..), f by FnG -/
theorem pe_callG (F : FnG X.prog X.w X.K X.mg X.base CX k f fd ps sp) (hr : Room k X.A) (hu : X.A.guards = some []) (hg : Gl X x) (hm : X.mg x = some (.ref f)) (hk : PySem.W.keepIn X.K (.ref f) = true) (hb : Binds X.K fd ps ds) (hd : Vals dvs ds) (hx : Passes CX X E)
    (ha : PA X (e :: es) t) (hdb : (x == ("__debug__" : Str)) = false := by decide) (he : starEach (e :: es) X.env = (false, eval e X.env) :: starEach es X.env := by rfl) (hpl : (backTo pos (starEach es X.env)).any (·.1) = false := by rfl) :
    PE X (.Call (.Name x p) (e :: es) [] pos) (tCall sp dvs E t) :=
  ⟨fun pins s σ H Q I h => wpAny_Call_Name_kw (ld_glob I hg hm (PySem.W.callWith_K (h₀ := X.base) I.ok.mod.kin hk (thn (ha.run pos pins s σ H _ I h) fun us s1 ⟨vs, H1, I1, r, q⟩ => ⟨I1.kIn, run_G F hr hu hb hd hx I1 r q⟩) he hpl) hdb)⟩
end
/-! ### repr of data -/
/-- data with the empty dict -/
def Dat (K : PySem.W.Frag) (H : Hp) (x : V) (d : PyData) : Prop := Dp K H x d ∨ ∃ a, x = .ref a ∧ H a = some (.dK []) ∧ d = .dict []
section
variable {X : Cx} {pins : List (Addr × Obj)} {σ : L2.St} {H : Hp} {s : Shared}
theorem Dat.reads {x : V} {u : Value} {d : PyData} (I : Inv X pins σ H s) (h : Dat X.K H x d) (r : RelV x u) : ∃ as, Reads s.heap u d as ∧ (d.hasDict = true → sysModules ∉ as) := by
  rcases h with h | ⟨a, rfl, ha, rfl⟩
  · obtain ⟨as, q⟩ := Dp.reads I d x u h r
    have key : ∀ {x : V} {d : PyData}, Dp X.K H x d → d.hasDict = false := by
      intro x d h
      refine Dp.rec (motive_1 := fun _ d _ => d.hasDict = false) (motive_2 := fun _ ds _ => PyData.hasDictAll ds = false) ?_ ?_ ?_ ?_ ?_ ?_ ?_ ?_ h
      · rfl
      · intro b; rfl
      · intro i; rfl
      · intro z; rfl
      · intro a xs ds _ _ ih; exact ih
      · intro a xs ds _ _ ih; exact ih
      · rfl
      · intro v vs d ds _ _ i1 i2
        show (PyData.hasDict d || PyData.hasDictAll ds) = false
        rw [i1, i2]
        rfl
    exact ⟨as, q, fun z => by rw [key h] at z; cases z⟩
  · obtain rfl : u = Value.ref a := r
    obtain ⟨_, hs, vs, kv, o, es, ep, ho, hc, hdt, hes⟩ := (show ObjOk X.prog X.w H s.heap a (.dK []) from I.hok a _ ha)
    cases kv
    have e0 : es.toList = [] := by
      obtain ⟨_, hp, _⟩ := hes
      cases q : es.toList with
      | nil => rfl
      | cons x r => rw [q] at hp; cases hp
    refine ⟨_, .dict (as := []) (bs := []) ho hc.1 hdt (by rw [e0]; exact .nil) (by rw [e0]; exact .nil), fun _ z => ?_⟩
    rw [List.append_nil, List.mem_singleton] at z
    rw [← z] at hs
    simp at hs
/-- repr(data) -/
def rReprD (K : PySem.W.Frag) : List V → Hp → VK → Prop := fun xs H Q => ∃ (x : V) (d : PyData), xs = [x] ∧ Dat K H x d ∧ d.showable = true ∧ d.depth ≤ 40 ∧ d.shown.length ≤ sizeLine ∧ Q (.str d.shown) H
theorem cr_reprD (hg : X.A.guards = some []) (hu : X.A.units + 64 < cLine) : CallR X (.builtin "repr") (rReprD X.K) := by
  intro pins s σ H xs us Q I r h
  obtain ⟨x, d, rfl, hd, hs, hdp, hz, q⟩ := h
  obtain ⟨u, rfl, ru⟩ := vals1 r
  obtain ⟨as, rd, hsm⟩ := hd.reads I ru
  cases rd with
  | none => exact PySem.P.repr_of_none ⟨.str _, H, I.tok _, ⟨_, rfl⟩, q⟩
  | bool b => exact PySem.P.repr_of_bool ⟨.str _, H, I.tok _, ⟨_, rfl⟩, q⟩
  | int i t => exact PySem.P.repr_of_int (of_decide_eq_true hs) ⟨.str _, H, I.tok _, ⟨_, rfl⟩, q⟩
  | str z t => exact PySem.P.repr_of_str ⟨.str _, H, I.tok _, ⟨_, rfl⟩, q⟩ hz
  | list a1 a2 a3 a4 => exact repr_of_reads' (.list a1 a2 a3 a4) hs hsm hg (by omega) (fun _ _ e => e) (fun h' u' tk hk => ⟨.str _, H, I.kept (t' := tk) hk, ⟨_, rfl⟩, q⟩) hz
  | tuple a1 a2 a3 a4 => exact repr_of_reads' (.tuple a1 a2 a3 a4) hs hsm hg (by omega) (fun _ _ e => e) (fun h' u' tk hk => ⟨.str _, H, I.kept (t' := tk) hk, ⟨_, rfl⟩, q⟩) hz
  | dict a1 a2 a3 a4 a5 => exact repr_of_reads' (.dict a1 a2 a3 a4 a5) hs hsm hg (by omega) (fun _ _ e => e) (fun h' u' tk hk => ⟨.str _, H, I.kept (t' := tk) hk, ⟨_, rfl⟩, q⟩) hz
end
end Mo
namespace Mo
open PySem PySem.Spec PyProof.Rows L2
/-- an own error class over ValueError with one field f, its __init__ at fI -/
structure ErrC (K : PySem.W.Frag) (C fI : Addr) (f : Str) : Prop where
  oex : OexC K C
  xf : XfC K C
  exc : ExcC K C
  no : PySem.W.findIn K (.ref C) f = some none
  te : PySem.W.exmOne K (.ref C) (.ref C) = some true
  iC : PySem.W.findIn K (.ref C) "__init__" = some (some (.ref fI))
  tI : PySem.W.typeIn K (.ref fI) = some (.type "function")
/-- its __init__: self.f = y -/
def spInit (C : Addr) (f : Str) : Sp := fun vs H Q _ => ∃ (a : Addr) (y : V), vs = [.ref a, y] ∧ H a = some (exo a C none) ∧ ∀ dx, H dx = none → dx ≠ a → Q .non (upd (upd H dx (exd dx [(f, y)])) a (exo a C (some dx)))
/-- raising it: what is left to be shown -/
theorem err_read {C : Addr} {f : Str} {H : Hp} {v : V} {Q : XK} (h : ∀ d H', H d = none → Same H H' → H' d = some (.xd [(f, v)]) → Q (.ref C) (some d) H') :
    [v].length ≤ 1000 ∧ ∀ a, H a = none → spInit C f (.ref a :: ([v] ++ [])) (upd H a (exo a C none)) (fun x H2 => x = .non ∧ ∃ (d : Addr) (fs : List (Str × V)), H2 a = some (exo a C (some d)) ∧ H2 d = some (exd d fs) ∧ H d = none ∧ Q (.ref C) (some d) (upd (del H2 a) d (.xd fs))) (fun _ _ _ => False) := by
  refine ⟨by show 1 ≤ 1000; decide, fun a na => ⟨a, v, rfl, upd_same, fun dx nd ne => ⟨rfl, dx, [(f, v)], upd_same, by rw [upd_ne ne, upd_same], ?_, ?_⟩⟩⟩
  · rw [upd_ne ne] at nd
    exact nd
  · have nd' : H dx = none := by rw [upd_ne ne] at nd; exact nd
    refine h dx _ nd' (fun b o e => ?_) upd_same
    have nb : b ≠ dx := ne_of_none e nd'
    have nba : b ≠ a := ne_of_none e na
    rw [upd_ne nb, del_ne nba, upd_ne nba, upd_ne nb, upd_ne nba]
    exact e
theorem kit1_type {K : PySem.W.Frag} {C : Addr} {T : String} {b : Bool} (h : PySem.W.subIn K (.ref C) (.type T) = some b) (hm : PySem.W.kitMeta T = true) : PySem.W.kitOne K (.ref C) (.type T) = some b := by
  show (if (Value.ref C == Value.type T) = true then some true else (if PySem.W.kitMeta T = true then PySem.W.subIn K (.ref C) (.type T) else none)) = some b
  rw [if_neg (by intro z; cases beq_iff_eq.mp z), if_pos hm]
  exact h
theorem kit1_ref {K : PySem.W.Frag} {C D : Addr} (h : PySem.W.subIn K (.ref C) (.ref D) = some false) (hs : PySem.W.subIn K (.ref C) (.ref C) = some true) (hc : PySem.W.isClsIn K D = true) (ht : PySem.W.typeIn K (.ref D) = some (.type "type")) : PySem.W.kitOne K (.ref C) (.ref D) = some false := by
  have hc2 : (PySem.W.clsIn K D).isSome = true := hc
  show (if (Value.ref C == Value.ref D) = true then some true else (if ((PySem.W.clsIn K D).isSome && PySem.W.typeIn K (.ref D) == some (.type "type")) = true then PySem.W.subIn K (.ref C) (.ref D) else none)) = some false
  rw [if_neg (by intro z; rw [← beq_iff_eq.mp z, hs] at h; cases h), if_pos (by rw [hc2, ht]; rfl)]
  exact h
end Mo

/-! ### the end of a law whose promise is an FnG -/
namespace Mo
open PySem PySem.Spec PyProof.Rows L2
theorem callG {P : Program} {w : World} {K : PySem.W.Frag} {mg mb : Str → Option Value} {CX : CXT} {k : Nat} {fa a : Addr} {fd : FuncData} {x : Str} {sp : Sp} {s₁ : Shared} {vs : List Value} {ns : List Int}
    (KX : K.In s₁.heap) (hns : s₁.heap.Ns mainGlobals mg) (hb : s₁.heap.Ns builtinsNs mb) (hbb : ∀ x : Str, x ≠ "__name__" → mb x = bootBuiltins x) (hlim : s₁.heap.NoLimit) (hg : s₁.gens = #[])
    (ha : s₁.heap.get? a = some { cls := .type "list", data := .seq vs.toArray }) (hi : IntsAre vs ns) (hl : ns.length ≤ sizeLine) (hr : Room k callerA)
    (F : ∀ base : Heap, K.In base → base.Ns mainGlobals mg → FnG P w K mg base CX k fa fd [x] sp) (hbind : ∀ (s : Shared) (u : Value), BindsTo s fd ⟨[u], []⟩ [(x, u)])
    (hsp : ∀ H : Hp, Only H → SqL K H a (ns.map V.int) → sp [.ref a] H (fun v _ => v = .bl true) fun _ _ _ => False)
    (hCX : ∀ H e s', CX [] H s₁ (fun _ _ _ => False) e s' → False) :
    codeAny (model P w) callerA (.call (.ref fa) ⟨[.ref a], []⟩) (fun r s' => r = .ok (.ret (.bool true)) ∧ OldK s₁.heap s'.heap ∧ s'.os = s₁.os ∧ AllBare s'.gens) s₁ := by
  have rv := vals_ints hi
  have lenV := hi.length
  have core : ∀ H : Hp, Only H → SqL K H a (ns.map V.int) → HOk P w H s₁.heap → (∀ b, H b ≠ none → b = a) → (H a ≠ none → K.lookup a = none) →
      codeAny (model P w) callerA (.call (.ref fa) ⟨[.ref a], []⟩) (fun r s' => r = .ok (.ret (.bool true)) ∧ OldK s₁.heap s'.heap ∧ s'.os = s₁.os ∧ AllBare s'.gens) s₁ := by
    intro H hO hS hok hA hK
    have atA : ∀ {b : Addr} {u : HO}, H b = some u → b = a := fun {b u} q => hA b (by rw [q]; exact Option.some_ne_none _)
    have grnd : ∀ {b : Addr} {o : Obj}, s₁.heap.get? b = some o → H b = none → (hidT s₁.heap H).get? b = some o := fun e n => hidT_get e n
    have noA : ∀ {b : Addr} {o : Obj} {es : Array DictEntry} {ep : Nat}, s₁.heap.get? b = some o → o.data = .dict es ep → H b = none := fun {b o es ep} e d => by
      cases q : H b with
      | none => rfl
      | some u =>
        rw [atA q, ha] at e
        cases e
        cases (show Data.seq vs.toArray _ = Data.dict es ep from d)
    have nsK : ∀ {b : Addr} {m : Str → Option Value}, s₁.heap.Ns b m → (hidT s₁.heap H).Ns b m := fun {b m} ⟨o, es, ep, e, d, r⟩ => ⟨o, es, ep, grnd e (noA e d), d, r⟩
    have hKb : K.In (hidT s₁.heap H) := fun b o e => grnd (KX b o e) (by
      cases q : H b with
      | none => rfl
      | some u =>
        obtain rfl := atA q
        rw [hK (by rw [q]; exact Option.some_ne_none _)] at e
        cases e)
    have hM : Mod K mg (hidT s₁.heap H) := ⟨hKb, nsK hns, ⟨mb, nsK hb, hbb⟩, hlim.elim fun mc z => ⟨mc, nsK z.1, z.2⟩⟩
    have e0 : Env0 P w K mg (hidT s₁.heap H) callerA [] s₁ H := ⟨rfl, hM, fun b o e => of_hidT e, Nat.le_of_eq (hidT_size _ _), trivial, fun b hb => absurd (show b ∈ ([] : List Addr) from hb) (by simp), hok, .of_eq hg⟩
    refine codeAny_mono ((F _ hKb (nsK hns)).run callerA [] s₁ H ⟨[.ref a], []⟩ [.ref a] [.ref a] _ _ hr rfl e0 (hbind s₁ (.ref a)) (.cons rfl .nil) (hsp H hO hS)) fun r s' h => ?_
    cases r with
    | error e => exact (hCX H e s' h).elim
    | ok fl =>
      cases fl with
      | next => exact h.elim
      | brk => exact h.elim
      | cont => exact h.elim
      | ret u =>
        obtain ⟨v, H', os, bare, un, hok', r', q⟩ := h
        obtain rfl : v = .bl true := q
        obtain rfl : u = Value.bool true := r'
        refine ⟨rfl, OldK.of_keep fun b o e => ?_, os, bare⟩
        cases q : H b with
        | none => exact un.keep b o e q (by intro z; exact absurd (show b ∈ ([] : List Addr) from z) (by simp)) (by simp)
        | some u =>
          rcases hO b with z | ⟨ob, xs, z⟩
          · rw [q] at z
            cases z
          · have z2 := un.frzs b ob _ z
            have e1 := (hok b _ z).1
            rw [e] at e1
            cases e1
            exact (hok' b _ z2).1
  cases hk : K.lookup a with
  | some o =>
    have e := KX a o hk
    rw [ha] at e
    cases e
    exact core (fun _ => none) (fun _ => .inl rfl) (.inr ⟨_, vs.toArray, _, hk, rfl, rfl, rfl, by rw [List.size_toArray, lenV]; exact hl, by simpa using rv⟩) (fun b u z => nomatch z) (fun b z => absurd rfl z) fun z => absurd rfl z
  | none =>
    have at2 : ∀ {b : Addr} {u : HO}, (if b = a then some (HO.frz { cls := .type "list", data := .seq vs.toArray } (.lst (ns.map V.int))) else none) = some u → b = a ∧ u = .frz { cls := .type "list", data := .seq vs.toArray } (.lst (ns.map V.int)) := fun {b u} z => by
      by_cases hb : b = a
      · rw [if_pos hb] at z
        exact ⟨hb, (Option.some.inj z).symm⟩
      · rw [if_neg hb] at z
        cases z
    refine core (fun b => if b = a then some (.frz { cls := .type "list", data := .seq vs.toArray } (.lst (ns.map V.int))) else none) (fun b => ?_) (.inl (.inr ⟨{ cls := .type "list", data := .seq vs.toArray }, if_pos rfl⟩)) (fun b u z => ?_) (fun b z => ?_) fun _ => hk
    · by_cases hb : b = a
      · exact .inr ⟨_, _, if_pos hb⟩
      · exact .inl (if_neg hb)
    · obtain ⟨rfl, rfl⟩ := at2 z
      exact ⟨ha, by rw [List.length_map]; exact hl, vs, _, rv, ha⟩
    · by_cases hb : b = a
      · exact hb
      · exact absurd (if_neg hb) z
theorem walkG {l : PySem.W.OpenLaw} {n k : Nat} {q : Program} {loose : List Str} {XP : (Str → Option Value) → Heap → Prop} {YP : World → Heap → Prop} {d : DefRec} {K : Params → PySem.W.Frag} {CX : World → CXT} {sp : World → Sp} {x : Str}
    (hn : l.most = some n) (hn2 : n ≤ sizeLine) (hdf : d.params.defaults = []) (hr : Room k callerA) (hY : ∀ (w : World) (h : Heap), YP w h → (K w.params).In h)
    (F : ∀ (w : World) (mg : Str → Option Value) (fa : Addr) (h : Heap), (K w.params).In h → h.Ns mainGlobals mg → mg d.name = some (.ref fa) →
      ∃ fd : FuncData, (∀ (s : Shared) (u : Value), BindsTo s fd ⟨[u], []⟩ [(x, u)]) ∧ ∀ base : Heap, (K w.params).In base → base.Ns mainGlobals mg → FnG l.prog w (K w.params) mg base (CX w) k fa fd [x] (sp w))
    (hsp : ∀ (w : World) (H : Hp) (a : Addr) (ns : List Int), ns.length ≤ n → Only H → SqL (K w.params) H a (ns.map V.int) → sp w [.ref a] H (fun v _ => v = .bl true) fun _ _ _ => False)
    (hCX : ∀ (w : World) (H : Hp) (s : Shared) (e : Value) (s' : Shared), CX w [] H s (fun _ _ _ => False) e s' → False) :
    PySem.W.WalkO q loose XP YP l.row.toRowW d [] (fun f vs => PySem.call f vs) := by
  refine Att.attach_call hn hdf fun w s₀ s₁ mg mb fa o pm cd doc a vs ns G Y ho hd hcd hmg hobj hints hlen hg => ?_
  obtain ⟨fd, hb, hF⟩ := F w mg fa _ (hY w _ Y) G.T.g hmg
  exact callG (hY w _ Y) G.T.g G.T.b G.T.builtins G.T.nolimit hg hobj hints (Nat.le_trans hlen hn2) hr hF hb (fun H hO hS => hsp w H a ns hlen hO hS) fun H e s' => hCX w H s₁ e s'
end Mo

namespace Mo
open PySem PySem.Spec PyProof.Rows L2
def topS (i : Nat) : Stmt := PySem.Challenge.pw_mustoccur_k03_deletion.main.body.getD i (.Pass ⟨0, 0, 0, 0⟩)
abbrev sIsPattern : Stmt := topS 8
theorem scIsPattern : FnScope ["value", "name"] ["value"] (defScope sIsPattern) := ⟨rfl, rfl, rfl, by decide +kernel, rfl, by decide +kernel, by decide +kernel⟩
abbrev sIsVariableSet : Stmt := topS 9
theorem scIsVariableSet : FnScope ["value", "name"] ["value"] (defScope sIsVariableSet) := ⟨rfl, rfl, rfl, by decide +kernel, rfl, by decide +kernel, by decide +kernel⟩
abbrev sCheckPattern : Stmt := topS 10
theorem scCheckPattern : FnScope ["value"] ["value"] (defScope sCheckPattern) := ⟨rfl, rfl, rfl, by decide +kernel, rfl, by decide +kernel, by decide +kernel⟩
abbrev sCheckVariableSet : Stmt := topS 11
theorem scCheckVariableSet : FnScope ["value"] ["value"] (defScope sCheckVariableSet) := ⟨rfl, rfl, rfl, by decide +kernel, rfl, by decide +kernel, by decide +kernel⟩
abbrev sDelete : Stmt := topS 12
theorem scDelete : FnScope ["pattern", "letters", "name"] ["pattern", "letters"] (defScope sDelete) := ⟨rfl, rfl, rfl, by decide +kernel, rfl, by decide +kernel, by decide +kernel⟩
abbrev sLPen : Stmt := topS 14
theorem scLPen : FnScope ["_law_script"] ["_law_script"] (defScope sLPen) := ⟨rfl, rfl, rfl, by decide +kernel, rfl, by decide +kernel, by decide +kernel⟩
abbrev sLDraw : Stmt := topS 15
theorem scLDraw : FnScope ["_law_pen_here", "_law_size", "_law_digit", "_law_turn", "_law_cell", "_law_primes", "_law_prime", "_law_mixed"] ["_law_pen_here", "_law_size"] (defScope sLDraw) := ⟨rfl, rfl, rfl, by decide +kernel, rfl, by decide +kernel, by decide +kernel⟩
abbrev sLPick : Stmt := topS 16
theorem scLPick : FnScope ["_law_pen_here", "_law_options"] ["_law_pen_here", "_law_options"] (defScope sLPick) := ⟨rfl, rfl, rfl, by decide +kernel, rfl, by decide +kernel, by decide +kernel⟩
abbrev sLNames : Stmt := topS 17
theorem scLNames : FnScope ["_law_pen_here", "_law_count", "_law_letters", "_law_begin", "_law_step", "_law_k"] ["_law_pen_here", "_law_count"] (defScope sLNames) := ⟨rfl, rfl, rfl, by decide +kernel, rfl, by decide +kernel, by decide +kernel⟩
abbrev sLNested : Stmt := topS 18
theorem scLNested : FnScope ["_law_names_here", "_law_word", "_law_name"] ["_law_names_here"] (defScope sLNested) := ⟨rfl, rfl, rfl, by decide +kernel, rfl, by decide +kernel, by decide +kernel⟩
abbrev sLPattern : Stmt := topS 19
theorem scLPattern : FnScope ["_law_pen_here", "_law_size", "_law_count", "_law_names_here", "_law_way", "_law_many", "_law_k", "_law_word", "_law_at", "_law_half"] ["_law_pen_here", "_law_size", "_law_count"] (defScope sLPattern) := ⟨rfl, rfl, rfl, by decide +kernel, rfl, by decide +kernel, by decide +kernel⟩
abbrev sLSet : Stmt := topS 20
theorem scLSet : FnScope ["_law_pen_here", "_law_pattern_here", "_law_some", "_law_sign", "_law_others"] ["_law_pen_here", "_law_pattern_here"] (defScope sLSet) := ⟨rfl, rfl, rfl, by decide +kernel, rfl, by decide +kernel, by decide +kernel⟩
abbrev sLRefused : Stmt := topS 21
theorem scLRefused : FnScope ["_law_pattern_here", "_law_letters", "_law_kept", "e", "_law_other"] ["_law_pattern_here", "_law_letters"] (defScope sLRefused) := ⟨rfl, rfl, rfl, by decide +kernel, rfl, by decide +kernel, by decide +kernel⟩
abbrev sLaw : Stmt := topS 22
theorem scLaw : FnScope ["_law_script", "_law_pen_here", "_law_turn", "_law_pattern_here", "_law_due", "_law_both", "_law_bad", "_law_one", "_law_other", "_law_sign"] ["_law_script"] (defScope sLaw) := ⟨rfl, rfl, rfl, by decide +kernel, rfl, by decide +kernel, by decide +kernel⟩
abbrev sInitInvalidVariables : Stmt := inClass (topS 3) 0
theorem scInitInvalidVariables : FnScope ["self", "value"] ["self", "value"] (defScope sInitInvalidVariables) := ⟨rfl, rfl, rfl, by decide +kernel, rfl, by decide +kernel, by decide +kernel⟩
structure Txt (K : PySem.W.Frag) (mg : Str → Option Value) where
  cInvalidPattern : Addr
  eInvalidPattern : mg "InvalidPattern" = some (.ref cInvalidPattern)
  cInvalidText : Addr
  eInvalidText : mg "InvalidText" = some (.ref cInvalidText)
  cInvalidVariables : Addr
  eInvalidVariables : mg "InvalidVariables" = some (.ref cInvalidVariables)
  iInvalidVariables : Addr
  dInvalidVariables : FuncData
  fInitInvalidVariables : Fun K "__init__" "InvalidVariables.__init__" sInitInvalidVariables iInvalidVariables dInvalidVariables
  bInitInvalidVariables : Binds K dInvalidVariables ["self", "value"] []
  xInvalidVariables : ErrC K cInvalidVariables iInvalidVariables "value"
  kInvalidVariablesInvalidPatternInvalidText : PySem.W.kitAny K (.ref cInvalidVariables) [.ref cInvalidPattern, .ref cInvalidText] = some false
  oInvalidVariablesValueError : PySem.W.kitOne K (.ref cInvalidVariables) (.type "ValueError") = some true
  aIsPattern : Addr
  dIsPattern : FuncData
  fIsPattern : Fun K "is_pattern" "is_pattern" sIsPattern aIsPattern dIsPattern
  bIsPattern : Binds K dIsPattern ["value"] []
  gIsPattern : mg "is_pattern" = some (.ref aIsPattern)
  aIsVariableSet : Addr
  dIsVariableSet : FuncData
  fIsVariableSet : Fun K "is_variable_set" "is_variable_set" sIsVariableSet aIsVariableSet dIsVariableSet
  bIsVariableSet : Binds K dIsVariableSet ["value"] []
  gIsVariableSet : mg "is_variable_set" = some (.ref aIsVariableSet)
  aCheckPattern : Addr
  dCheckPattern : FuncData
  fCheckPattern : Fun K "check_pattern" "check_pattern" sCheckPattern aCheckPattern dCheckPattern
  bCheckPattern : Binds K dCheckPattern ["value"] []
  gCheckPattern : mg "check_pattern" = some (.ref aCheckPattern)
  aCheckVariableSet : Addr
  dCheckVariableSet : FuncData
  fCheckVariableSet : Fun K "check_variable_set" "check_variable_set" sCheckVariableSet aCheckVariableSet dCheckVariableSet
  bCheckVariableSet : Binds K dCheckVariableSet ["value"] []
  gCheckVariableSet : mg "check_variable_set" = some (.ref aCheckVariableSet)
  aDelete : Addr
  dDelete : FuncData
  fDelete : Fun K "delete" "delete" sDelete aDelete dDelete
  bDelete : Binds K dDelete ["pattern", "letters"] []
  gDelete : mg "delete" = some (.ref aDelete)
  aLPen : Addr
  dLPen : FuncData
  fLPen : Fun K "_law_pen" "_law_pen" sLPen aLPen dLPen
  bLPen : Binds K dLPen ["_law_script"] []
  gLPen : mg "_law_pen" = some (.ref aLPen)
  aLDraw : Addr
  dLDraw : FuncData
  fLDraw : Fun K "_law_draw" "_law_draw" sLDraw aLDraw dLDraw
  bLDraw : Binds K dLDraw ["_law_pen_here", "_law_size"] []
  gLDraw : mg "_law_draw" = some (.ref aLDraw)
  aLPick : Addr
  dLPick : FuncData
  fLPick : Fun K "_law_pick" "_law_pick" sLPick aLPick dLPick
  bLPick : Binds K dLPick ["_law_pen_here", "_law_options"] []
  gLPick : mg "_law_pick" = some (.ref aLPick)
  aLNames : Addr
  dLNames : FuncData
  fLNames : Fun K "_law_names" "_law_names" sLNames aLNames dLNames
  bLNames : Binds K dLNames ["_law_pen_here", "_law_count"] []
  gLNames : mg "_law_names" = some (.ref aLNames)
  aLNested : Addr
  dLNested : FuncData
  fLNested : Fun K "_law_nested" "_law_nested" sLNested aLNested dLNested
  bLNested : Binds K dLNested ["_law_names_here"] []
  gLNested : mg "_law_nested" = some (.ref aLNested)
  aLPattern : Addr
  dLPattern : FuncData
  fLPattern : Fun K "_law_pattern" "_law_pattern" sLPattern aLPattern dLPattern
  bLPattern : Binds K dLPattern ["_law_pen_here", "_law_size", "_law_count"] []
  gLPattern : mg "_law_pattern" = some (.ref aLPattern)
  aLSet : Addr
  dLSet : FuncData
  fLSet : Fun K "_law_set" "_law_set" sLSet aLSet dLSet
  bLSet : Binds K dLSet ["_law_pen_here", "_law_pattern_here"] []
  gLSet : mg "_law_set" = some (.ref aLSet)
  aLRefused : Addr
  dLRefused : FuncData
  fLRefused : Fun K "_law_refused" "_law_refused" sLRefused aLRefused dLRefused
  bLRefused : Binds K dLRefused ["_law_pattern_here", "_law_letters"] []
  gLRefused : mg "_law_refused" = some (.ref aLRefused)
  aLaw : Addr
  dLaw : FuncData
  fLaw : Fun K "law" "law" sLaw aLaw dLaw
  bLaw : Binds K dLaw ["_law_script"] []
  gLaw : mg "law" = some (.ref aLaw)
  t_VARIABLES : Tok
  m_VARIABLES : mg "VARIABLES" = some (.str "abcdefghijklmnopqrstuvwxyz" t_VARIABLES)
  t_LONGEST_PATTERN : Tok
  m_LONGEST_PATTERN : mg "LONGEST_PATTERN" = some (.int 40 t_LONGEST_PATTERN)
  t_MOST_VARIABLES : Tok
  m_MOST_VARIABLES : mg "MOST_VARIABLES" = some (.int 8 t_MOST_VARIABLES)
  m_all : mg "all" = none
  m_len : mg "len" = none
  m_set : mg "set" = none
  m_isinstance : mg "isinstance" = none
  m_str : mg "str" = none
  m_list : mg "list" = none
  m_abs : mg "abs" = none
  m_range : mg "range" = none
  m_sorted : mg "sorted" = none
  m_ValueError : mg "ValueError" = none
  m_repr : mg "repr" = none
end Mo

namespace Mo
open PySem PySem.Spec PyProof.Rows L2
section
variable {P : Program} {w : World} {K : PySem.W.Frag} {mg : Str → Option Value} {base : Heap}
theorem ints_dp {H : Hp} : ∀ ns : List Int, DpAll K H (ns.map V.int) (ns.map PyData.int)
  | [] => .nil
  | n :: ns => .cons (.int n) (ints_dp ns)
theorem mod_in {a b : Int} (h : 0 < b) : 0 ≤ a.fmod b ∧ a.fmod b < b := by
  rw [Int.fmod_eq_emod_of_nonneg _ (Int.le_of_lt h)]
  exact ⟨Int.emod_nonneg _ (by omega), Int.emod_lt_of_pos _ h⟩
theorem div_in {a b : Int} (h : 0 < b) (ha : 0 ≤ a) : 0 ≤ a.fdiv b := by
  rw [Int.fdiv_eq_ediv_of_nonneg _ (Int.le_of_lt h)]
  exact Int.ediv_nonneg ha (Int.le_of_lt h)
theorem nat_of {i : Int} (h : 0 ≤ i) : ∃ j : Nat, i = (j : Int) := ⟨i.toNat, by omega⟩
theorem ok_draw {k : Nat} (T : Txt K mg) : FnOk P w K mg base CX0 (k + 1) T.aLDraw T.dLDraw ["_law_pen_here", "_law_size"] spDraw := by
  refine T.fLDraw.ok scLDraw (fun vs H Q E h => ?_) (fun cdv A outer s H vs Q E hr h => ?_)
  · obtain ⟨d, c, n, t, rfl, _⟩ := h
    rfl
  · obtain ⟨d, c, n, t, rfl, pen, n0, n1, ht, q⟩ := h
    have hu := hu_of hr
    obtain ⟨ns, r, hd, hc, hl, r0⟩ := id pen
    have ndc := pen.ne
    have gC := DGet.k (k := Sum.inr "cells") hd
    have gT := DGet.k (k := Sum.inr "turn") hd
    have gR := DGet.k (k := Sum.inr "rest") hd
    rw [pen_cells] at gC
    rw [pen_turn] at gT
    rw [pen_rest] at gR
    have nz : n ≠ 0 := by omega
    have na : n.natAbs < 1073741824 := by omega
    refine ⟨_, (pss_cons (ps_if (pt_cmpR op_gt (pe_dget hu (pv 0) pe_str (fun _ _ => rfl)) pe_int (nomark _)) (pss_cons (ps_set (i := 2) scLDraw.nd rfl (Or.inl rfl) (pe_op op_modN (pe_dget hu (pv 0) pe_str (fun _ _ => rfl)) (pv 1)))
      (pss_cons (ps_dput hu (pv 0) pe_str (pe_op op_fdivN (pe_dget hu (pv 0) pe_str (fun _ _ => rfl)) (pv 1)) rfl)
      (pss_one (ps_ret (pv 2))))) pss_nil)
      (pss_cons (ps_set (i := 3) scLDraw.nd rfl (Or.inl rfl) (pe_dget hu (pv 0) pe_str (fun _ _ => rfl)))
      (pss_cons (ps_dput hu (pv 0) pe_str (pe_op op_add (pv 3) pe_int) rfl)
      (pss_cons (ps_set (i := 4) scLDraw.nd rfl (Or.inl rfl) (pe_op op_add (pe_op op_mul pe_int (pv 3)) pe_int))
      (Evl.pss_cut (ps_if (pt_cmpR (op_neD hr.units) (pe_dget hu (pv 0) pe_str (fun _ _ => rfl)) (pe_lst pa_nil) (nomark _)) (pss_one (ps_set (i := 4) scLDraw.nd rfl (Or.inl rfl) (pe_ix ix_list (pe_dget hu (pv 0) pe_str (fun _ _ => rfl)) (pe_op op_modN (pv 3) (pe_callB call_len_seq (by rfl) T.m_len PySem.boot_len (pa_cons (pe_dget hu (pv 0) pe_str (fun _ _ => rfl)) pa_nil))) (fun _ _ => rfl)))) pss_nil)
      (Evl.pss_cut (ps_if (PW.pt (pw_and (pt_cmpR op_lt (pv 3) (pe_callB call_len_seq (by rfl) T.m_len PySem.boot_len (pa_cons (pe_dget hu (pv 0) pe_str (fun _ _ => rfl)) pa_nil)) (nomark _)) (pw_and1 (pt_cmpR op_ge (pe_callB call_abs (by rfl) T.m_abs (by decide +kernel) (pa_cons (pv 4) pa_nil)) (pe_op op_pow pe_int pe_int) (nomark _))))) (pss_cons (ps_dput hu (pv 0) pe_str (pe_op op_fdivN (pe_op op_sub (pe_callB call_abs (by rfl) T.m_abs (by decide +kernel) (pa_cons (pv 4) pa_nil)) (pe_op op_pow pe_int pe_int)) (pv 1)) rfl)
      (pss_one (ps_ret (pe_op op_modN (pe_op op_sub (pe_callB call_abs (by rfl) T.m_abs (by decide +kernel) (pa_cons (pv 4) pa_nil)) (pe_op op_pow pe_int pe_int)) (pv 1))))) pss_nil)
      (pss_cons (ps_set (i := 5) scLDraw.nd rfl (Or.inl rfl) (pe_lst (pa_cons pe_int (pa_cons pe_int (pa_cons pe_int (pa_cons pe_int (pa_cons pe_int pa_nil)))))))
      (pss_cons (ps_set (i := 6) scLDraw.nd rfl (Or.inl rfl) (pe_ix ix_list (pv 5) (pe_op op_modN (pv 3) pe_int) (fun _ _ => rfl)))
      (pss_cons (ps_set (i := 7) scLDraw.nd rfl (Or.inl rfl) (pe_op op_modN (pe_op op_add (pe_op op_add (pe_op op_add (pe_op op_mul (pe_op op_modN (pv 4) pe_int) pe_int) (pe_op op_mul (pe_op op_mul pe_int (pv 3)) (pv 3))) (pe_op op_mul pe_int (pv 3))) pe_int) (pv 6)))
      (pss_cons (ps_set (i := 7) scLDraw.nd rfl (Or.inl rfl) (pe_op op_modN (pe_op op_add (pe_op op_add (pe_op op_add (pe_op op_mul (pv 7) (pv 7)) (pe_op op_mul pe_int (pv 7))) (pe_op op_mul pe_int (pv 3))) pe_int) pe_int))
      (pss_one (ps_ret (pe_op op_modN (pe_op op_fdivN (pe_op op_modN (pe_op op_mul (pv 7) (pe_op op_add (pv 7) pe_int)) pe_int) pe_int) (pv 1)))))))))))))), ?_⟩
    refine ⟨_, rfl, d, _, rfl, gR, _, _, rfl, rfl, _, rfl, ite2 (fun e => ?_) (fun e => ?_)⟩
    · -- a digit of the rest
      refine ⟨_, rfl, d, _, rfl, gR, _, rfl, r, n, rfl, rfl, nz, ?_⟩
      refine ⟨_, rfl, d, _, rfl, gR, _, rfl, r, n, rfl, rfl, ⟨nz, na⟩, _, rfl, d, _, rfl, DPut.k (k := Sum.inr "rest") hd (by show 3 < sizeLine; decide), ?_⟩
      rw [put_rest]
      exact ⟨_, rfl, q _ _ t But.set (pen_set pen (div_in n0 r0)) (Nat.le_succ _) (mod_in n0).1 (mod_in n0).2⟩
    · -- turn, turn + 1
      refine ⟨_, rfl, d, _, rfl, gT, ?_⟩
      refine ⟨_, rfl, t, 1, rfl, rfl, _, rfl, d, _, rfl, DPut.k (k := Sum.inr "turn") hd (by show 3 < sizeLine; decide), ?_⟩
      rw [put_turn, show (t : Int) + 1 = ((t + 1 : Nat) : Int) by omega]
      have pen1 : Pen (upd H d (.dK (penD c ((t + 1 : Nat) : Int) r))) d c (t + 1) := pen_set pen r0
      have but1 : But d H (upd H d (.dK (penD c ((t + 1 : Nat) : Int) r))) := But.set
      generalize eH1 : upd H d (.dK (penD c ((t + 1 : Nat) : Int) r)) = H1 at *
      have hc1 : H1 c = some (.lst (ns.map V.int)) := but1 _ _ ndc.symm hc
      have hd1 : H1 d = some (.dK (penD c ((t + 1 : Nat) : Int) r)) := by rw [← eH1, upd_same]
      have gC1 := DGet.k (k := Sum.inr "cells") hd1
      rw [pen_cells] at gC1
      -- cell
      refine ⟨_, rfl, 61, t, rfl, rfl, .inl ⟨by decide, by decide⟩, _, 17, rfl, rfl, ?_⟩
      -- if cells != []
      refine ⟨fun σ' H' => ∃ (v : Int) (o2 o5 o6 o7 : Option V), σ' = [some (.ref d), some (.int n), o2, some (.int t), some (.int v), o5, o6, o7] ∧ Same H1 H', ?_, ?_⟩
      · refine ⟨_, rfl, d, _, rfl, gC1, Nat.zero_le _, fun p np => ?_⟩
        have sm := same_new (o := .lst []) np
        refine ⟨.list (ns.map PyData.int), .list [], .lst (SqL.of (sm _ _ hc1)) (ints_dp ns), .lst (SqL.of upd_same) .nil, PySem.W.ke_shaped_ints ns, rfl, _, rfl, ite2 (fun e => ?_) (fun e => ?_)⟩
        · have hne : ns ≠ [] := by
            rintro rfl
            exact absurd e (by decide)
          have gC2 := DGet.k (k := Sum.inr "cells") (sm _ _ hd1)
          rw [pen_cells] at gC2
          have hlen : 0 < ns.length := List.length_pos_iff.mpr hne
          obtain ⟨j, hj⟩ := nat_of (mod_in (a := t) (b := ((ns.map V.int).length : Int)) (by rw [List.length_map]; omega)).1
          have hj2 : j < ns.length := by
            have h2 := (mod_in (a := t) (b := ((ns.map V.int).length : Int)) (by rw [List.length_map]; omega)).2
            rw [hj, List.length_map] at h2
            omega
          refine ⟨_, rfl, d, _, rfl, gC2, _, rfl, _, rfl, d, _, rfl, gC2, c, _, rfl, .inl (SqL.of (sm _ _ hc1)), t, _, rfl, rfl, (by rw [List.length_map]; omega), c, ns.map V.int, _, .int ns[j], rfl, rfl, SqL.of (sm _ _ hc1), ?_, ?_⟩
          · rw [hj]
            exact atI_nat (by rw [List.getElem?_map, List.getElem?_eq_getElem hj2]; rfl)
          · exact ⟨_, _, _, _, _, rfl, sm⟩
        · exact ⟨_, _, _, _, _, rfl, sm⟩
      · rintro σ' H2 ⟨v, o2, o5, o6, o7, rfl, sm⟩
        have hd2 := sm _ _ hd1
        have hc2 := sm _ _ hc1
        have pen2 : Pen H2 d c (t + 1) := pen1.same sm
        have but2 : But d H H2 := but1.trans (But.same sm)
        have gC2 := DGet.k (k := Sum.inr "cells") hd2
        rw [pen_cells] at gC2
        clear e hd hc gC gT gR hd1 hc1 gC1 pen1 but1 eH1 sm pen
        -- if turn < len(cells) and abs(cell) >= 10 ** 18
        refine ⟨fun σ' H' => σ' = [some (.ref d), some (.int n), o2, some (.int t), some (.int v), o5, o6, o7] ∧ H' = H2, ?_, ?_⟩
        · refine ⟨_, rfl, _, rfl, d, _, rfl, gC2, c, _, rfl, .inl (SqL.of hc2), _, _, rfl, rfl, _, rfl, ite2 (fun e1 => ?_) (fun e1 => ?_)⟩
          · refine ⟨_, rfl, _, rfl, 10, 18, rfl, rfl, ⟨by decide, by decide, by decide⟩, _, _, rfl, rfl, _, rfl, ite2 (fun e2 => ?_) (fun e2 => ⟨rfl, rfl⟩)⟩
            have ab : (0 : Int) ≤ (if v < 0 then -v else v) - 10 ^ 18 := by
              have h2 := of_decide_eq_true e2
              have h3 : (10 : Int) ^ (18 : Int).toNat = 10 ^ 18 := rfl
              omega
            refine ⟨_, rfl, _, rfl, 10, 18, rfl, rfl, ⟨by decide, by decide, by decide⟩, _, _, rfl, rfl, _, rfl, _, _, rfl, rfl, ⟨nz, na⟩, _, rfl, d, _, rfl, DPut.k (k := Sum.inr "rest") hd2 (by show 3 < sizeLine; decide), ?_⟩
            rw [put_rest]
            refine ⟨_, rfl, _, rfl, 10, 18, rfl, rfl, ⟨by decide, by decide, by decide⟩, _, _, rfl, rfl, _, rfl, _, _, rfl, rfl, nz, ?_⟩
            exact q _ _ (t + 1) (but2.trans But.set) (pen_set pen2 (div_in n0 ab)) (Nat.le_refl _) (mod_in n0).1 (mod_in n0).2
          · exact ⟨rfl, rfl⟩
        · rintro σ' H' ⟨rfl, rfl⟩
          refine ⟨by show 5 ≤ sizeLine; decide, fun p np => ?_⟩
          have sm := same_new (o := .lst [.int 2147483629, .int 2147483647, .int 2147483563, .int 2147483587, .int 2147483579]) np
          have pen3 := pen2.same sm
          have but3 := but2.trans (But.same (d := d) sm)
          obtain ⟨pr, hp, p0, p1⟩ : ∃ pr : Int, atI [V.int 2147483629, .int 2147483647, .int 2147483563, .int 2147483587, .int 2147483579] ((t : Int).fmod 5) = some (.int pr) ∧ 0 < pr ∧ pr < 4294967296 := by
            obtain ⟨j, hj⟩ := nat_of (mod_in (a := t) (b := 5) (by decide)).1
            have hj2 := (mod_in (a := (t : Int)) (b := 5) (by decide)).2
            rw [hj] at hj2 ⊢
            have hj3 : j < 5 := by omega
            match j, hj3 with
            | 0, _ => exact ⟨_, rfl, by decide, by decide⟩
            | 1, _ => exact ⟨_, rfl, by decide, by decide⟩
            | 2, _ => exact ⟨_, rfl, by decide, by decide⟩
            | 3, _ => exact ⟨_, rfl, by decide, by decide⟩
            | 4, _ => exact ⟨_, rfl, by decide, by decide⟩
          refine ⟨_, rfl, _, rfl, _, 5, rfl, rfl, (by show (5 : Int) ≠ 0; decide), p, _, _, _, rfl, rfl, SqL.of upd_same, hp, ?_⟩
          generalize upd H' p _ = H3 at *
          -- mixed
          refine ⟨_, rfl, _, 4294967291, rfl, rfl, (by show (4294967291 : Int) ≠ 0; decide), _, 48271, rfl, rfl, .inr ⟨by decide, by decide⟩, ?_⟩
          refine ⟨_, rfl, 40503, t, rfl, rfl, .inl ⟨by decide, by decide⟩, _, rfl, _, t, rfl, rfl, .inr ⟨by omega, by omega⟩, _, _, rfl, rfl, ?_⟩
          refine ⟨_, rfl, 69621, t, rfl, rfl, .inl ⟨by decide, by decide⟩, _, _, rfl, rfl, _, 11, rfl, rfl, _, rfl, _, pr, rfl, rfl, by omega, ?_⟩
          have m1 := mod_in (a := v.fmod 4294967291 * 48271 + 40503 * (t : Int) * t + 69621 * t + 11) p0
          generalize em : (v.fmod 4294967291 * 48271 + 40503 * (t : Int) * t + 69621 * t + 11).fmod pr = m at m1
          refine ⟨_, rfl, _, rfl, m, m, congrArg V.int em, congrArg V.int em, .inl ⟨by omega, by omega⟩, _, rfl, 16807, m, rfl, congrArg V.int em, .inl ⟨by decide, by decide⟩, _, _, rfl, rfl, ?_⟩
          refine ⟨_, rfl, 7, t, rfl, rfl, .inl ⟨by decide, by decide⟩, _, _, rfl, rfl, _, 5, rfl, rfl, _, 4294967279, rfl, rfl, (by show (4294967279 : Int) ≠ 0; decide), ?_⟩
          have m2 := mod_in (a := m * m + 16807 * m + 7 * t + 5) (b := 4294967279) (by decide)
          generalize em' : (m * m + 16807 * m + 7 * (t : Int) + 5).fmod 4294967279 = m' at m2
          refine ⟨_, rfl, _, rfl, m', 39916801, congrArg V.int em', rfl, m', _, congrArg V.int em', rfl, .inl ⟨by omega, by omega⟩, _, 4294967231, rfl, rfl, (by show (4294967231 : Int) ≠ 0; decide), _, 32, rfl, rfl, ⟨by decide, by decide⟩, _, rfl, _, n, rfl, rfl, nz, ?_⟩
          exact q _ _ (t + 1) but3 pen3 (Nat.le_refl _) (mod_in n0).1 (mod_in n0).2
end
end Mo

namespace Mo
open PySem PySem.Spec PyProof.Rows L2
section
variable {P : Program} {w : World} {K : PySem.W.Frag} {mg : Str → Option Value} {base : Heap}
theorem ok_pick {k : Nat} (T : Txt K mg) : FnOk P w K mg base CX0 (k + 2) T.aLPick T.dLPick ["_law_pen_here", "_law_options"] (spPick K) := by
  have GLDraw : FnOk P w K mg base CX0 (k + 1) T.aLDraw T.dLDraw ["_law_pen_here", "_law_size"] spDraw := ok_draw T
  refine T.fLPick.ok scLPick (fun vs H Q E h => ?_) (fun cdv A outer s H vs Q E hr h => ?_)
  · obtain ⟨d, c, l, xs, t, rfl, _⟩ := h
    rfl
  · obtain ⟨d, c, l, xs, t, rfl, pen, hl, nld, h0, h1, ht, q⟩ := h
    refine ⟨_, (pss_one (ps_ret (pe_ix ix_list (pv 1) (pe_call GLDraw hr (by rfl) T.gLDraw T.fLDraw.kp T.bLDraw .nil pass0 (pa_cons (pv 0) (pa_cons (pe_callB call_len_seq (by rfl) T.m_len PySem.boot_len (pa_cons (pv 1) pa_nil)) pa_nil))) (fun _ _ => rfl)))), ?_⟩
    refine ⟨_, rfl, _, rfl, _, rfl, l, xs, rfl, .inl hl, d, c, _, t, rfl, pen, by omega, by omega, ht, fun H' k t' but pen' ht' k0 k1 => ?_⟩
    obtain ⟨j, rfl⟩ := nat_of k0
    have hj : j < xs.length := by omega
    have hl' : SqL K H' l xs := by
      rcases hl with (e | ⟨o, e⟩) | e
      · exact .inl (.inl (but _ _ nld e))
      · exact .inl (.inr ⟨o, but _ _ nld e⟩)
      · exact .inr e
    exact ⟨l, xs, j, xs[j], rfl, rfl, hl', atI_nat (List.getElem?_eq_getElem hj), q H' _ t' but pen' ht' (List.getElem_mem hj)⟩
/-- names: n different small letters -/
def spNames : Sp := fun vs H Q _ => ∃ (d c : Addr) (n t : Nat), vs = [.ref d, .int n] ∧ Pen H d c t ∧ n ≤ 26 ∧ t + 2 < 1073741824 ∧
  ∀ H' p cs t', But d H H' → Pen H' d c t' → t' ≤ t + 2 → H p = none → p ≠ d → H' p = some (.lst (cs.map sg)) → cs.length = n → cs.Nodup → Low cs → Q (.ref p) H'
def lett : List Nat := [97, 98, 99, 100, 101, 102, 103, 104, 105, 106, 107, 108, 109, 110, 111, 112, 113, 114, 115, 116, 117, 118, 119, 120, 121, 122]
def nm (b st : Int) (k : Nat) : Nat := 97 + ((b + st * (k : Int)).fmod 26).toNat
theorem lett_at : ∀ j : Fin 26, lett[j.val]? = some (97 + j.val) := by decide
theorem lett_text : (Str.ofString "abcdefghijklmnopqrstuvwxyz").cps.toList = lett := by decide +kernel
theorem lett_ix {i : Int} (h0 : 0 ≤ i) (h1 : i < 26) : atI (Str.ofString "abcdefghijklmnopqrstuvwxyz").cps.toList i = some (97 + i.toNat) := by
  obtain ⟨j, rfl⟩ := nat_of h0
  rw [lett_text]
  exact atI_nat (lett_at ⟨j, by omega⟩)
theorem nm_low (b st : Int) (k : Nat) : 97 ≤ nm b st k ∧ nm b st k ≤ 122 := by
  have h := mod_in (a := b + st * (k : Int)) (b := 26) (by decide)
  unfold nm
  omega
def steps26 : List Int := [1, 3, 5, 7, 9, 11, 15, 17, 19, 21, 23, 25]
theorem nm_inj {b st : Int} (hs : st ∈ steps26) {i j : Nat} (hij : i < j) (hj : j < 26) : nm b st i ≠ nm b st j := by
  unfold nm
  rw [Int.fmod_eq_emod_of_nonneg _ (by decide), Int.fmod_eq_emod_of_nonneg _ (by decide)]
  have h1 := Int.emod_nonneg (b + st * (i : Int)) (b := 26) (by decide)
  have h2 := Int.emod_nonneg (b + st * (j : Int)) (b := 26) (by decide)
  intro e
  have e2 : (b + st * (i : Int)) % 26 = (b + st * (j : Int)) % 26 := by omega
  clear e h1 h2
  simp only [steps26, List.mem_cons, List.not_mem_nil, or_false] at hs
  rcases hs with rfl | rfl | rfl | rfl | rfl | rfl | rfl | rfl | rfl | rfl | rfl | rfl <;> omega
theorem nm_nodup {b st : Int} (hs : st ∈ steps26) {n : Nat} (hn : n ≤ 26) : ((List.range n).map (nm b st)).Nodup := by
  unfold List.Nodup
  rw [List.pairwise_map]
  refine List.Pairwise.imp_of_mem (fun {x y} hx hy hlt => ?_) (List.pairwise_lt_range (n := n))
  have := List.mem_range.mp hy
  exact nm_inj hs hlt (by omega)
theorem take_range_snoc {f : Nat → V} {i : Nat} : (List.range (i + 1)).map f = (List.range i).map f ++ [f i] := by
  rw [List.range_succ, List.map_append]
  rfl
theorem ok_names {k : Nat} (T : Txt K mg) : FnOk P w K mg base CX0 (k + 3) T.aLNames T.dLNames ["_law_pen_here", "_law_count"] spNames := by
  have GLDraw : FnOk P w K mg base CX0 (k + 2) T.aLDraw T.dLDraw ["_law_pen_here", "_law_size"] spDraw := ok_draw T
  have GLPick : FnOk P w K mg base CX0 (k + 2) T.aLPick T.dLPick ["_law_pen_here", "_law_options"] (spPick K) := ok_pick T
  refine T.fLNames.ok scLNames (fun vs H Q E h => ?_) (fun cdv A outer s H vs Q E hr h => ?_)
  · obtain ⟨d, c, n, t, rfl, _⟩ := h
    rfl
  · obtain ⟨d, c, n, t, rfl, pen, hn, ht, q⟩ := h
    refine ⟨_, (pss_cons (ps_set (i := 2) scLNames.nd rfl (Or.inr rfl) pe_str)
      (pss_cons (ps_asg (pe_tup (pa_cons (pe_call GLDraw hr (by rfl) T.gLDraw T.fLDraw.kp T.bLDraw .nil pass0 (pa_cons (pv 0) (pa_cons pe_int pa_nil))) (pa_cons (pe_call GLPick hr (by rfl) T.gLPick T.fLPick.kp T.bLPick .nil pass0 (pa_cons (pv 0) (pa_cons (pe_lst (pa_cons pe_int (pa_cons pe_int (pa_cons pe_int (pa_cons pe_int (pa_cons pe_int (pa_cons pe_int (pa_cons pe_int (pa_cons pe_int (pa_cons pe_int (pa_cons pe_int (pa_cons pe_int (pa_cons pe_int pa_nil))))))))))))) pa_nil))) pa_nil))) (pg_tup (by rfl) (pgs_cons (pg_name (i := 3) scLNames.nd rfl (Or.inr rfl)) (pgs_cons (pg_name (i := 4) scLNames.nd rfl (Or.inr rfl)) pgs_nil))))
      (pss_one (ps_ret (pe_lc (own := [("_law_k", 5)]) (g := gName 5) (tt := tYes) rfl scLNames.nd (pi_range1 (by rfl) T.m_range (pa_cons (pv 1) pa_nil)) (blkOk_by (N := ["_law_pen_here", "_law_count", "_law_letters", "_law_begin", "_law_step", "_law_k"]) (sc := defScope sLNames) (by decide +kernel)) (fun _ _ _ _ _ => pg_name (i := 5) scLNames.nd rfl (Or.inl rfl)) (fun _ _ _ _ _ => pts_nil) (fun _ _ _ _ _ => (pe_ix ix_str (pv 2) (pe_op op_modN (pe_op op_add (pv 3) (pe_op op_mul (pv 4) (pv 5))) pe_int) (fun _ _ => rfl)))))))), ?_⟩
    refine ⟨_, rfl, d, c, 26, t, rfl, pen, by decide, by decide, by omega, fun H1 b t1 but1 pen1 ht1 b0 b1 => ?_⟩
    refine ⟨_, rfl, by show 12 ≤ sizeLine; decide, fun l nl => ?_⟩
    have sm1 := same_new (o := .lst (steps26.map V.int)) nl
    refine ⟨d, c, l, _, t1, rfl, pen1.same sm1, SqL.of upd_same, (pen1.new nl).1, by show 0 < 12; decide, by show 12 < _; decide, by omega, fun H2 v t2 but2 pen2 ht2 hv => ?_⟩
    obtain ⟨st, hst, rfl⟩ : ∃ st ∈ steps26, v = .int st := by
      have hv' : v ∈ steps26.map V.int := hv
      obtain ⟨st, h1, h2⟩ := List.mem_map.mp hv'
      exact ⟨st, h1, h2.symm⟩
    refine ⟨by show 2 ≤ sizeLine; decide, fun tp ntp => ?_⟩
    have sm2 := same_new (o := .tup [.int b, .int st]) ntp
    refine ⟨tp, [.int b, .int st], rfl, SqT.of upd_same, rfl, _, _, rfl, _, _, rfl, rfl, ?_⟩
    have pen3 := pen2.same sm2
    have but3 : But d H (upd H2 tp (.tup [.int b, .int st])) := ((but1.trans (But.same sm1)).trans but2).trans (But.same sm2)
    generalize upd H2 tp (.tup [.int b, .int st]) = H3 at *
    refine ⟨_, rfl, n, rfl, by omega, by omega, fun D nD => ?_⟩
    have nDp := pen3.new nD
    refine lc_range (lo := 0) (n := n) (fun i H' => But d H3 H' ∧ Pen H' d c t2 ∧ H' D = some (.lst ((List.range i).map fun k => sg (nm b st k)))) ?_ ?_ ?_
    · exact ⟨But.same (same_new nD), pen3.same (same_new nD), upd_same⟩
    · rintro i H' hi ⟨bt, pn, hD⟩
      refine ⟨rfl, _, rfl, _, rfl, _, rfl, _, rfl, st, _, rfl, rfl, ?_, _, _, rfl, rfl, _, 26, rfl, rfl, (by show (26 : Int) ≠ 0; decide), _, _, nm b st i, rfl, rfl, by decide, ?_, _, hD, ?_, ?_⟩
      · exact .inr ⟨by omega, by omega⟩
      · rw [Int.zero_add]
        exact lett_ix (mod_in (by decide)).1 (mod_in (by decide)).2
      · exact small1000 (by rw [List.length_map, List.length_range]; omega)
      · exact ⟨bt.put nD, pn.upd nDp.1 nDp.2, by rw [upd_same, take_range_snoc]⟩
    · rintro H' ⟨bt, pn, hD⟩
      refine q H' D ((List.range n).map (nm b st)) t2 (but3.trans bt) pn (by omega) (but3.none nD nDp.1) nDp.1 ?_ ?_ (nm_nodup hst hn) ?_
      · rw [hD, List.map_map]
        rfl
      · simp
      · intro x hx
        obtain ⟨k, _, rfl⟩ := List.mem_map.mp hx
        exact nm_low b st k
end
end Mo

namespace Mo
open PySem PySem.Spec PyProof.Rows L2
section
variable {P : Program} {w : World} {K : PySem.W.Frag} {mg : Str → Option Value} {base : Heap}
/-- nested: letters of names alone, at least one if there is a name -/
def spNested (K : PySem.W.Frag) : Sp := fun vs H Q _ => ∃ (l : Addr) (cs : List Nat), vs = [.ref l] ∧ SqL K H l (cs.map sg) ∧ cs.length ≤ 12 ∧
  ∀ zs : List Nat, (∀ c ∈ zs, c ∈ cs) → zs.length + 1 = 2 ^ cs.length → Q (.str (tx zs)) H
theorem ok_nested {k : Nat} (T : Txt K mg) : FnOk P w K mg base CX0 (k + 1) T.aLNested T.dLNested ["_law_names_here"] (spNested K) := by
  refine T.fLNested.ok scLNested (fun vs H Q E h => ?_) (fun cdv A outer s H vs Q E hr h => ?_)
  · obtain ⟨l, cs, rfl, _⟩ := h
    rfl
  · obtain ⟨l, cs, rfl, hl, hn, q⟩ := h
    refine ⟨_, (pss_cons (ps_set (i := 1) scLNested.nd rfl (Or.inl rfl) pe_str)
      (pss_cons (ps_for PassesOwn.never rfl (pi_list (pv 0)) (pg_name (i := 2) scLNested.nd rfl (Or.inl rfl)) (pss_one (ps_set (i := 1) scLNested.nd rfl (Or.inl rfl) (pe_op op_add_str (pe_op op_add_str (pv 1) (pv 2)) (pv 1)))))
      (pss_one (ps_ret (pv 1))))), ?_⟩
    have hp : ∀ i, i ≤ cs.length → 2 ^ i ≤ 4096 := fun i hi => Nat.le_trans (Nat.pow_le_pow_right (by decide) (Nat.le_trans hi hn)) (by decide)
    refine ⟨_, rfl, l, rfl, ⟨_, hl⟩, for_list (xs := cs.map sg) (fun i σ H' => ∃ (zs : List Nat) (o : Option V), σ = [some (.ref l), some (.str (tx zs)), o] ∧ H' = H ∧ (∀ c ∈ zs, c ∈ cs) ∧ zs.length + 1 = 2 ^ i) ?_ ?_ ?_ ?_⟩
    · exact ⟨[], none, by rw [← tx_nil]; rfl, rfl, by simp, rfl⟩
    · rintro i σ H' _ ⟨zs, o, rfl, rfl, _⟩
      exact hl
    · rintro i x σ H' hx ⟨zs, o, rfl, rfl, hz, hlen⟩
      obtain ⟨c, hc, rfl⟩ : ∃ c, cs[i]? = some c ∧ x = sg c := by
        rw [List.getElem?_map] at hx
        cases e : cs[i]? with
        | none => rw [e] at hx; cases hx
        | some c => rw [e] at hx; exact ⟨c, rfl, (Option.some.inj hx).symm⟩
      have hi : i < cs.length := (List.getElem?_eq_some_iff.mp hc).1
      have b1 := hp (i + 1) hi
      have e1 : 2 ^ (i + 1) = 2 * 2 ^ i := by rw [Nat.pow_succ]; omega
      refine ⟨_, rfl, _, rfl, tx zs, ⟨#[c]⟩, rfl, rfl, ?_, _, rfl, _, tx zs, rfl, rfl, ?_, ?_⟩
      · exact fits5 (by rw [tx_len]; show zs.length + 1 ≤ _; omega)
      · rw [tx_app1]
        exact fits5 (by rw [tx_len, tx_len, List.length_append, List.length_singleton]; omega)
      · rw [tx_app1, tx_app]
        refine ⟨zs ++ [c] ++ zs, _, rfl, rfl, fun x hx => ?_, ?_⟩
        · rcases List.mem_append.mp hx with hx | hx
          · rcases List.mem_append.mp hx with hx | hx
            · exact hz x hx
            · rw [List.mem_singleton.mp hx]
              exact List.mem_of_getElem? hc
          · exact hz x hx
        · rw [List.length_append, List.length_append, List.length_singleton]
          omega
    · rintro σ H' ⟨zs, o, rfl, rfl, hz, hlen⟩
      rw [List.length_map] at hlen
      exact ⟨_, rfl, q zs hz hlen⟩
end
end Mo

namespace Mo
open PySem PySem.Spec PyProof.Rows L2
section
variable {P : Program} {w : World} {K : PySem.W.Frag} {mg : Str → Option Value} {base : Heap}
theorem nodup_sub_len : ∀ (a b : List Nat), a.Nodup → (∀ x ∈ a, x ∈ b) → a.length ≤ b.length
  | [], b, _, _ => Nat.zero_le _
  | x :: a, b, hn, hs => by
    have hx : x ∈ b := hs x List.mem_cons_self
    have hn2 := List.nodup_cons.mp hn
    have ih := nodup_sub_len a (b.erase x) hn2.2 fun y hy => by
      have ne : y ≠ x := fun e => hn2.1 (e ▸ hy)
      exact (List.mem_erase_of_ne ne).mpr (hs y (List.mem_cons_of_mem _ hy))
    rw [List.length_erase_of_mem hx] at ih
    have := List.length_pos_of_mem hx
    rw [List.length_cons]
    omega
theorem met_sub_len {zs cs : List Nat} (h : ∀ x ∈ zs, x ∈ cs) : (met zs).length ≤ cs.length := nodup_sub_len _ _ (met_nodup zs) fun x hx => h x (mem_met.mp hx)
theorem cut_tx (zs : List Nat) (lo hi : Option Int) : cutS (tx zs) lo hi = tx ((zs.drop (HT.sIx zs.length 0 lo)).take (HT.sIx zs.length zs.length hi - HT.sIx zs.length 0 lo)) := by
  unfold cutS
  rw [tx_len]
  rfl
theorem signs_map (zs : List Nat) : zs.map sg = (zs.map fun c => (⟨#[c]⟩ : Str)).map V.str := by rw [List.map_map]; rfl
theorem signs_room {zs : List Nat} (h : zs.length ≤ 100000) : ((zs.map fun c => (⟨#[c]⟩ : Str)).map (·.length)).sum + (zs.map fun c => (⟨#[c]⟩ : Str)).length * (Str.ofString "").length ≤ 16777216 := by
  have e : ((zs.map fun c => (⟨#[c]⟩ : Str)).map (·.length)) = zs.map fun _ => 1 := by
    rw [List.map_map]
    rfl
  have e2 : ∀ l : List Nat, (l.map fun _ => 1).sum = l.length := by
    intro l
    induction l with
    | nil => rfl
    | cons x l ih => simp [ih]; omega
  have e3 : (Str.ofString "").length = 0 := by decide
  rw [e, e2, e3]
  omega
/-- pattern: at most size letters, at most count different ones, all of them small -/
def spPattern : Sp := fun vs H Q _ => ∃ (d c : Addr) (size count t : Nat), vs = [.ref d, .int size, .int count] ∧ Pen H d c t ∧ size ≤ 42 ∧ 0 < count ∧ count ≤ 10 ∧ t < 1000000 ∧
  ∀ H' zs t', But d H H' → Pen H' d c t' → t' ≤ t + 60 → zs.length ≤ size → Low zs → (met zs).length ≤ count → Q (.str (tx zs)) H'
theorem ok_pattern {k : Nat} (T : Txt K mg) : FnOk P w K mg base CX0 (k + 4) T.aLPattern T.dLPattern ["_law_pen_here", "_law_size", "_law_count"] spPattern := by
  have GLDraw : FnOk P w K mg base CX0 (k + 3) T.aLDraw T.dLDraw ["_law_pen_here", "_law_size"] spDraw := ok_draw T
  have GLPick : FnOk P w K mg base CX0 (k + 3) T.aLPick T.dLPick ["_law_pen_here", "_law_options"] (spPick K) := ok_pick T
  have GLNames : FnOk P w K mg base CX0 (k + 3) T.aLNames T.dLNames ["_law_pen_here", "_law_count"] spNames := ok_names T
  have GLNested : FnOk P w K mg base CX0 (k + 3) T.aLNested T.dLNested ["_law_names_here"] (spNested K) := ok_nested T
  refine T.fLPattern.ok scLPattern (fun vs H Q E h => ?_) (fun cdv A outer s H vs Q E hr h => ?_)
  · obtain ⟨d, c, size, count, t, rfl, _⟩ := h
    rfl
  · obtain ⟨d, c, size, count, t, rfl, pen, hsz, hc0, hc1, ht, q⟩ := h
    refine ⟨_, (pss_cons (ps_asg (pe_tup (pa_cons (pe_call GLNames hr (by rfl) T.gLNames T.fLNames.kp T.bLNames .nil pass0 (pa_cons (pv 0) (pa_cons (pe_op op_add pe_int (pe_call GLDraw hr (by rfl) T.gLDraw T.fLDraw.kp T.bLDraw .nil pass0 (pa_cons (pv 0) (pa_cons (pv 2) pa_nil)))) pa_nil))) (pa_cons (pe_call GLDraw hr (by rfl) T.gLDraw T.fLDraw.kp T.bLDraw .nil pass0 (pa_cons (pv 0) (pa_cons pe_int pa_nil))) pa_nil))) (pg_tup (by rfl) (pgs_cons (pg_name (i := 3) scLPattern.nd rfl (Or.inr rfl)) (pgs_cons (pg_name (i := 4) scLPattern.nd rfl (Or.inl rfl)) pgs_nil))))
      (pss_cons (ps_set (i := 5) scLPattern.nd rfl (Or.inl rfl) (pe_call GLDraw hr (by rfl) T.gLDraw T.fLDraw.kp T.bLDraw .nil pass0 (pa_cons (pv 0) (pa_cons (pe_op op_add (pv 1) pe_int) pa_nil))))
      (pss_cons (ps_if (pt_cmpR op_eq (pv 4) pe_int (nomark _)) (pss_one (ps_ret (pe_join pe_str (pe_lc (own := [("_law_k", 6)]) (g := gName 6) (tt := tYes) rfl scLPattern.nd (pi_range1 (by rfl) T.m_range (pa_cons (pv 5) pa_nil)) (blkOk_by (N := ["_law_pen_here", "_law_size", "_law_count", "_law_names_here", "_law_way", "_law_many", "_law_k", "_law_word", "_law_at", "_law_half"]) (sc := defScope sLPattern) (by decide +kernel)) (fun _ _ _ _ _ => pg_name (i := 6) scLPattern.nd rfl (Or.inl rfl)) (fun _ _ _ _ _ => pts_nil) (fun _ _ _ _ _ => (pe_call GLPick hr (by rfl) T.gLPick T.fLPick.kp T.bLPick .nil pass0 (pa_cons (pv 0) (pa_cons (pv 3) pa_nil)))))))) pss_nil)
      (pss_cons (ps_if (pt_cmpR op_lt (pv 4) pe_int (nomark _)) (pss_cons (ps_set (i := 7) scLPattern.nd rfl (Or.inl rfl) (pe_call GLNested hr (by rfl) T.gLNested T.fLNested.kp T.bLNested .nil pass0 (pa_cons (pv 3) pa_nil)))
      (pss_cons (ps_set (i := 8) scLPattern.nd rfl (Or.inl rfl) (pe_call GLDraw hr (by rfl) T.gLDraw T.fLDraw.kp T.bLDraw .nil pass0 (pa_cons (pv 0) (pa_cons (pe_callB call_len_str (by rfl) T.m_len PySem.boot_len (pa_cons (pv 7) pa_nil)) pa_nil))))
      (pss_one (ps_ret (pe_slice sl_str (pv 7) (po_some (pv 8)) (po_some (pe_op op_add (pv 8) (pv 5)))))))) pss_nil)
      (pss_cons (ps_if (pt_cmpR op_eq (pv 4) pe_int (nomark _)) (pss_one (ps_ret (pe_join pe_str (pe_lc (own := [("_law_k", 6)]) (g := gName 6) (tt := tYes) rfl scLPattern.nd (pi_range1 (by rfl) T.m_range (pa_cons (pv 5) pa_nil)) (blkOk_by (N := ["_law_pen_here", "_law_size", "_law_count", "_law_names_here", "_law_way", "_law_many", "_law_k", "_law_word", "_law_at", "_law_half"]) (sc := defScope sLPattern) (by decide +kernel)) (fun _ _ _ _ _ => pg_name (i := 6) scLPattern.nd rfl (Or.inl rfl)) (fun _ _ _ _ _ => pts_nil) (fun _ _ _ _ _ => (pe_ix (Mo.ix_listK (K := K) rfl) (pv 3) (pe_op op_modN (pv 6) (pe_callB (Mo.call_len_seqK (K := K) rfl) (by rfl) T.m_len PySem.boot_len (pa_cons (pv 3) pa_nil))) (fun _ _ => rfl))))))) pss_nil)
      (pss_cons (ps_set (i := 9) scLPattern.nd rfl (Or.inl rfl) (pe_join pe_str (pe_lc (own := [("_law_k", 6)]) (g := gName 6) (tt := tYes) rfl scLPattern.nd (pi_range1 (by rfl) T.m_range (pa_cons (pe_op op_fdivN (pv 5) pe_int) pa_nil)) (blkOk_by (N := ["_law_pen_here", "_law_size", "_law_count", "_law_names_here", "_law_way", "_law_many", "_law_k", "_law_word", "_law_at", "_law_half"]) (sc := defScope sLPattern) (by decide +kernel)) (fun _ _ _ _ _ => pg_name (i := 6) scLPattern.nd rfl (Or.inl rfl)) (fun _ _ _ _ _ => pts_nil) (fun _ _ _ _ _ => (pe_call GLPick hr (by rfl) T.gLPick T.fLPick.kp T.bLPick .nil pass0 (pa_cons (pv 0) (pa_cons (pv 3) pa_nil)))))))
      (pss_one (ps_ret (pe_slice sl_str (pe_call GLPick hr (by rfl) T.gLPick T.fLPick.kp T.bLPick .nil pass0 (pa_cons (pv 0) (pa_cons (pe_lst (pa_cons (pe_op op_add_str (pv 9) (pv 9)) (pa_cons (pe_op op_add_str (pv 9) (pe_revS (pv 9))) (pa_cons (pe_op op_add_str (pv 9) (pe_ix ix_list (pv 3) pe_int (fun _ _ => rfl))) pa_nil)))) pa_nil))) po_none (po_some (pv 1))))))))))), ?_⟩
    -- names, way
    refine ⟨_, rfl, _, rfl, _, rfl, d, c, count, t, rfl, pen, by omega, by omega, by omega, fun H1 k1 t1 but1 pen1 ht1 k0 k2 => ?_⟩
    obtain ⟨j, rfl⟩ := nat_of k0
    refine ⟨1, j, rfl, rfl, d, c, 1 + j, t1, rfl, pen1, by omega, by omega, fun H2 l cs t2 but2 pen2 ht2 hnl nld hl hlen hnd low => ?_⟩
    refine ⟨_, rfl, d, c, 5, t2, rfl, pen2, by decide, by decide, by omega, fun H3 way t3 but3 pen3 ht3 w0 w1 => ?_⟩
    refine ⟨by show 2 ≤ sizeLine; decide, fun tp ntp => ?_⟩
    have sm3 := same_new (o := .tup [.ref l, .int way]) ntp
    refine ⟨tp, [.ref l, .int way], rfl, SqT.of upd_same, rfl, _, _, rfl, _, _, rfl, rfl, ?_⟩
    have hl3 := sm3 _ _ (but3 _ _ nld hl)
    have pen4 := pen3.same sm3
    have but4 : But d H (upd H3 tp (.tup [.ref l, .int way])) := ((but1.trans but2).trans but3).trans (But.same sm3)
    generalize upd H3 tp (.tup [.ref l, .int way]) = H4 at *
    -- many
    refine ⟨_, rfl, _, rfl, size, 1, rfl, rfl, d, c, _, t3, rfl, pen4, by omega, by omega, by omega, fun H5 many t5 but5 pen5 ht5 m0 m1 => ?_⟩
    obtain ⟨m, rfl⟩ := nat_of m0
    have hl5 := but5 _ _ nld hl3
    have but6 := but4.trans but5
    have hlen0 : 0 < cs.length := by omega
    clear but1 but2 but3 but4 but5 pen pen1 pen2 pen3 pen4 hl hl3 sm3
    have fin : ∀ (H' : Hp) (zs : List Nat) (t' : Nat), But d H5 H' → Pen H' d c t' → t' ≤ t5 + 50 → zs.length ≤ size → (∀ x ∈ zs, x ∈ cs) → Q (.str (tx zs)) H' := fun H' zs t' b p h1 h2 h3 =>
      q H' zs t' (but6.trans b) p (by omega) h2 (fun x hx => low x (h3 x hx)) (Nat.le_trans (met_sub_len h3) (by omega))
    -- the step of a list of picks
    have pk : ∀ (D : Addr) (i : Nat) (H' : Hp), H5 D = none → i < m → (∃ (zs : List Nat) (t' : Nat), But d H5 H' ∧ Pen H' d c t' ∧ t' ≤ t5 + i ∧ zs.length = i ∧ (∀ x ∈ zs, x ∈ cs) ∧ H' D = some (.lst (zs.map sg))) →
        ∀ (W : V → Hp → Prop), (∀ (H2 : Hp) (v : V) (acc : List V), H2 D = some (.lst acc) → acc.length < sizeLine → (∃ (zs : List Nat) (t' : Nat), But d H5 (upd H2 D (.lst (acc ++ [v]))) ∧ Pen (upd H2 D (.lst (acc ++ [v]))) d c t' ∧ t' ≤ t5 + (i + 1) ∧ zs.length = i + 1 ∧ (∀ x ∈ zs, x ∈ cs) ∧ (upd H2 D (.lst (acc ++ [v]))) D = some (.lst (zs.map sg))) → W v H2) →
        ∀ E' : XK, spPick K [.ref d, .ref l] H' W E' := by
      rintro D i H' nD hi ⟨zs, t', bt, pn, ht', hz, hs, hD⟩ W hW E'
      have nDp := pen5.new nD
      refine ⟨d, c, l, cs.map sg, t', rfl, pn, SqL.of (bt _ _ nld hl5), nld, by rw [List.length_map]; exact hlen0, by rw [List.length_map]; omega, by omega, fun H2 v t2 b2 p2 h2 hv => ?_⟩
      obtain ⟨x, hx, rfl⟩ := List.mem_map.mp hv
      refine hW H2 _ _ (b2 _ _ nDp.1 hD) (fitsLt (by rw [List.length_map]; omega)) ⟨zs ++ [x], t2, (bt.trans b2).put nD, p2.upd nDp.1 nDp.2, by omega, by rw [List.length_append, hz]; rfl, fun y hy => ?_, by rw [upd_same, List.map_append]; rfl⟩
      rcases List.mem_append.mp hy with hy | hy
      · exact hs y hy
      · rw [List.mem_singleton.mp hy]
        exact hx
    refine ⟨_, rfl, rfl, _, rfl, ite2 (fun e => ?_) (fun e => ?_)⟩
    · refine ⟨⟨_, rfl⟩, _, rfl, m, rfl, by omega, by omega, fun D nD => lc_range (lo := 0) (n := m) (fun i H' => ∃ (zs : List Nat) (t' : Nat), But d H5 H' ∧ Pen H' d c t' ∧ t' ≤ t5 + i ∧ zs.length = i ∧ (∀ x ∈ zs, x ∈ cs) ∧ H' D = some (.lst (zs.map sg))) ?_ ?_ ?_⟩
      · exact ⟨[], t5, But.same (same_new nD), pen5.same (same_new nD), by omega, rfl, by simp, upd_same⟩
      · intro i H' hi p
        exact ⟨rfl, _, rfl, _, rfl, pk D i H' nD hi p _ (fun H2 v acc hacc hsz hp => ⟨acc, hacc, hsz, hp⟩) E⟩
      · rintro H' ⟨zs, t', bt, pn, ht', hz, hs, hD⟩
        refine ⟨_, D, zs.map fun c => (⟨#[c]⟩ : Str), rfl, rfl, .inl (SqL.of (by rw [← signs_map]; exact hD)), signs_room (by omega), ?_⟩
        rw [join_signs]
        exact fin H' zs t' bt pn (by omega) (by omega) hs
    refine ⟨_, rfl, _, _, rfl, rfl, _, rfl, ite2 (fun e1 => ?_) (fun e1 => ?_)⟩
    · refine ⟨_, rfl, l, cs, rfl, SqL.of hl5, by omega, fun zs hz hzl => ?_⟩
      have hzp : 0 < zs.length := by
        have h1 : 2 ^ 1 ≤ 2 ^ cs.length := Nat.pow_le_pow_right (by decide) hlen0
        omega
      have hzm : zs.length ≤ 4096 := by
        have h1 : 2 ^ cs.length ≤ 2 ^ 12 := Nat.pow_le_pow_right (by decide) (by omega)
        omega
      refine ⟨_, rfl, _, rfl, _, rfl, fits5 (by rw [tx_len]; omega), d, c, _, t5, rfl, pen5, by rw [tx_len]; omega, by rw [tx_len]; omega, by omega, fun H6 a t6 but7 pen6 ht6 a0 a1 => ?_⟩
      rw [tx_len] at a1
      obtain ⟨a, rfl⟩ := nat_of a0
      refine ⟨_, rfl, _, rfl, _, rfl, _, rfl, _, rfl, _, _, rfl, rfl, _, rfl, _, rfl, fits5 (by rw [tx_len]; omega), ?_⟩
      rw [show (a : Int) + (m : Int) = ((a + m : Nat) : Int) by omega, cut_tx, HT.sIx_nat, HT.sIx_nat]
      refine fin H6 _ t6 but7 pen6 (by omega) (by rw [List.length_take, List.length_drop]; omega) fun x hx => hz x (List.mem_of_mem_drop (List.mem_of_mem_take hx))
    refine ⟨_, rfl, rfl, _, rfl, ite2 (fun e2 => ?_) (fun e2 => ?_)⟩
    · refine ⟨⟨_, rfl⟩, _, rfl, m, rfl, by omega, by omega, fun D nD => lc_range (lo := 0) (n := m) (fun i H' => ∃ (zs : List Nat) (t' : Nat), But d H5 H' ∧ Pen H' d c t' ∧ t' ≤ t5 + i ∧ zs.length = i ∧ (∀ x ∈ zs, x ∈ cs) ∧ H' D = some (.lst (zs.map sg))) ?_ ?_ ?_⟩
      · exact ⟨[], t5, But.same (same_new nD), pen5.same (same_new nD), by omega, rfl, by simp, upd_same⟩
      · rintro i H' hi ⟨zs, t', bt, pn, ht', hz, hs, hD⟩
        have nDp := pen5.new nD
        have hl6 := SqL.of (K := K) (bt _ _ nld hl5)
        obtain ⟨j, hj⟩ := nat_of (mod_in (a := 0 + (i : Int)) (b := ((cs.map sg).length : Int)) (by rw [List.length_map]; omega)).1
        have hj2 : j < cs.length := by
          have h2 := (mod_in (a := 0 + (i : Int)) (b := ((cs.map sg).length : Int)) (by rw [List.length_map]; omega)).2
          rw [hj, List.length_map] at h2
          omega
        refine ⟨rfl, _, rfl, _, rfl, _, rfl, l, _, rfl, .inl hl6, _, _, rfl, rfl, (by rw [List.length_map]; omega), l, cs.map sg, _, sg cs[j], rfl, rfl, hl6, ?_, _, hD, fitsLt (by rw [List.length_map]; omega), ?_⟩
        · rw [hj]
          exact atI_nat (by rw [List.getElem?_map, List.getElem?_eq_getElem hj2]; rfl)
        · refine ⟨zs ++ [cs[j]], t', bt.put nD, pn.upd nDp.1 nDp.2, by omega, by rw [List.length_append, hz]; rfl, fun y hy => ?_, by rw [upd_same, List.map_append]; rfl⟩
          rcases List.mem_append.mp hy with hy | hy
          · exact hs y hy
          · rw [List.mem_singleton.mp hy]
            exact List.getElem_mem hj2
      · rintro H' ⟨zs, t', bt, pn, ht', hz, hs, hD⟩
        refine ⟨_, D, zs.map fun c => (⟨#[c]⟩ : Str), rfl, rfl, .inl (SqL.of (by rw [← signs_map]; exact hD)), signs_room (by omega), ?_⟩
        rw [join_signs]
        exact fin H' zs t' bt pn (by omega) (by omega) hs
    -- half
    have hh : (m : Int).fdiv 2 = ((m / 2 : Nat) : Int) := by
      rw [Int.fdiv_eq_ediv_of_nonneg _ (by decide)]
      rfl
    refine ⟨⟨_, rfl⟩, _, rfl, m, 2, rfl, rfl, ⟨by decide, by decide⟩, ((m / 2 : Nat) : Int), by show [V.int ((m : Int).fdiv 2)] = _; rw [hh], by omega, by omega, fun D nD => lc_range (lo := 0) (n := m / 2) (fun i H' => ∃ (zs : List Nat) (t' : Nat), But d H5 H' ∧ Pen H' d c t' ∧ t' ≤ t5 + i ∧ zs.length = i ∧ (∀ x ∈ zs, x ∈ cs) ∧ H' D = some (.lst (zs.map sg))) ?_ ?_ ?_⟩
    · exact ⟨[], t5, But.same (same_new nD), pen5.same (same_new nD), by omega, rfl, by simp, upd_same⟩
    · intro i H' hi p
      exact ⟨rfl, _, rfl, _, rfl, pk D i H' nD (by omega) p _ (fun H2 v acc hacc hsz hp => ⟨acc, hacc, hsz, hp⟩) E⟩
    · rintro H6 ⟨zs, t6, bt, pn, ht', hz, hs, hD⟩
      refine ⟨_, D, zs.map fun c => (⟨#[c]⟩ : Str), rfl, rfl, .inl (SqL.of (by rw [← signs_map]; exact hD)), signs_room (by omega), ?_⟩
      rw [join_signs]
      have hl6 := SqL.of (K := K) (bt _ _ nld hl5)
      have e0 : (cs.map sg)[0]? = some (sg cs[0]) := by rw [List.getElem?_map, List.getElem?_eq_getElem hlen0]; rfl
      refine ⟨_, rfl, _, rfl, _, rfl, tx zs, tx zs, rfl, rfl, fits5 (by rw [tx_len]; omega), ?_⟩
      rw [tx_app]
      have er : revS (tx zs) = tx zs.reverse := rfl
      refine ⟨_, rfl, _, rfl, tx zs, rfl, fits5 (by rw [tx_len]; omega), tx zs, _, rfl, rfl, by rw [er]; exact fits5 (by rw [tx_len, tx_len, List.length_reverse]; omega), ?_⟩
      rw [er, tx_app]
      refine ⟨_, rfl, _, rfl, l, cs.map sg, _, sg cs[0], rfl, rfl, hl6, atI_nat (j := 0) e0, tx zs, ⟨#[cs[0]]⟩, rfl, rfl, fits5 (by rw [tx_len]; show zs.length + 1 ≤ _; omega), ?_⟩
      rw [tx_app1]
      refine ⟨by show 3 ≤ sizeLine; decide, fun p np => ?_⟩
      have sm := same_new (o := .lst [.str (tx (zs ++ zs)), .str (tx (zs ++ zs.reverse)), .str (tx (zs ++ [cs[0]]))]) np
      refine ⟨d, c, p, _, t6, rfl, pn.same sm, SqL.of upd_same, (pn.new np).1, by show 0 < 3; decide, by show 3 < _; decide, by omega, fun H7 v t7 b7 p7 h7 hv => ?_⟩
      obtain ⟨ys, rfl, hy, hyl⟩ : ∃ ys, v = .str (tx ys) ∧ (∀ x ∈ ys, x ∈ cs) ∧ ys.length ≤ 100 := by
        have hr : ∀ x ∈ zs.reverse, x ∈ cs := fun x hx => hs x (List.mem_reverse.mp hx)
        have h0 : ∀ x ∈ [cs[0]], x ∈ cs := fun x hx => by rw [List.mem_singleton.mp hx]; exact List.getElem_mem hlen0
        simp only [List.mem_cons, List.not_mem_nil, or_false] at hv
        rcases hv with rfl | rfl | rfl
        · exact ⟨_, rfl, fun x hx => (List.mem_append.mp hx).elim (hs x) (hs x), by rw [List.length_append]; omega⟩
        · exact ⟨_, rfl, fun x hx => (List.mem_append.mp hx).elim (hs x) (hr x), by rw [List.length_append, List.length_reverse]; omega⟩
        · exact ⟨_, rfl, fun x hx => (List.mem_append.mp hx).elim (hs x) (h0 x), by rw [List.length_append, List.length_singleton]; omega⟩
      refine ⟨_, rfl, _, rfl, _, rfl, fits5 (by rw [tx_len]; omega), ?_⟩
      rw [cut_tx, HT.sIx_nat, HT.sIx_none]
      exact fin H7 _ t7 (bt.trans ((But.same sm).trans b7)) p7 (by omega) (by rw [List.length_take, List.length_drop]; omega) fun x hx => hy x (List.mem_of_mem_drop (List.mem_of_mem_take hx))
end
end Mo

namespace Mo
open PySem PySem.Spec PyProof.Rows L2
section
variable {P : Program} {w : World} {K : PySem.W.Frag} {mg : Str → Option Value} {base : Heap}
theorem neg_of {p : Prop} [Decidable p] (e : (!decide p) = true) : ¬ p := by simpa using e
theorem pos_of {p : Prop} [Decidable p] (e : ¬ (!decide p) = true) : p := by simpa using e
def spIsPat : Sp := fun vs H Q _ => ∃ cs : List Nat, vs = [.str (tx cs)] ∧ Pat cs ∧ ∀ H', Same H H' → Q (.bl true) H'
def spCheck : Sp := fun vs H Q _ => ∃ cs : List Nat, vs = [.str (tx cs)] ∧ Pat cs ∧ ∀ H', Same H H' → Q .non H'
theorem low_lett {cs : List Nat} (h : Low cs) : ∀ c ∈ cs, c ∈ lett := by
  intro c hc
  have h1 := h c hc
  have h2 := lett_at ⟨c - 97, by omega⟩
  have h3 : 97 + (c - 97) = c := by omega
  rw [h3] at h2
  exact List.mem_of_getElem? h2
theorem ok_isPat {k : Nat} (T : Txt K mg) : FnOk P w K mg base CX0 (k + 1) T.aIsPattern T.dIsPattern ["value"] spIsPat := by
  refine T.fIsPattern.ok scIsPattern (fun vs H Q E h => ?_) (fun cdv A outer s H vs Q E hr h => ?_)
  · obtain ⟨cs, rfl, _⟩ := h
    rfl
  · obtain ⟨cs, rfl, pat, q⟩ := h
    refine ⟨_, (pss_cons (ps_if (PW.pt (pw_or (pt_not (pt_val (pe_callB call_isi (by rfl) T.m_isinstance (by decide +kernel) (pa_cons (pv 0) (pa_cons (pe_bltn (v := .ty "str") (by rfl) T.m_str (by decide +kernel) rfl) pa_nil))))) (pw_or1 (pt_cmpR op_gt (pe_callB call_len_str (by rfl) T.m_len PySem.boot_len (pa_cons (pv 0) pa_nil)) (pe_glob (v := .int 40) rfl T.m_LONGEST_PATTERN ⟨_, rfl⟩) (nomark _))))) (pss_one (ps_ret pe_bl)) pss_nil)
      (pss_one (ps_ret (pe_and (pe_cmpR op_le (pe_callB Mo.cr_lenK (by rfl) T.m_len PySem.boot_len (pa_cons (pe_callTy (Mo.cr_setS rfl) (by rfl) T.m_set (by decide +kernel) (pa_cons (pv 0) pa_nil)) pa_nil)) (pe_glob (v := .int 8) rfl T.m_MOST_VARIABLES ⟨_, rfl⟩) (nomark _)) (pe_one (pe_callB (cr_all rfl) (by rfl) T.m_all (by decide +kernel) (pa_cons (pe_lc (own := [("name", 1)]) (g := gName 1) (tt := tYes) rfl scIsPattern.nd (pi_str (pv 0)) (blkOk_by (N := ["value", "name"]) (sc := defScope sIsPattern) (by decide +kernel)) (fun _ _ _ _ _ => pg_name (i := 1) scIsPattern.nd rfl (Or.inl rfl)) (fun _ _ _ _ _ => pts_nil) (fun _ _ _ _ _ => (pe_cmpR op_in_sign (pv 1) (pe_glob (v := .str "abcdefghijklmnopqrstuvwxyz") rfl T.m_VARIABLES ⟨_, rfl⟩) rfl))) pa_nil))))))), ?_⟩
    have hlen := pat.len
    have hfew : (met (tx cs).cps.toList).length ≤ 8 := pat.few
    refine ⟨_, rfl, _, _, .type "str", .type "str", true, rfl, .ty "str", .base (.str _), kit_ty (by decide +kernel), true, rfl, iteF ?_⟩
    refine ⟨_, rfl, _, rfl, fits5 (by rw [tx_len]; omega), _, _, rfl, rfl, _, rfl, ite2 (fun e => ?_) (fun e => ?_)⟩
    · exfalso
      have h1 := of_decide_eq_true e
      rw [tx_len] at h1
      omega
    refine ⟨_, rfl, tx cs, rfl, by rw [tx_size]; omega, fun p np => ?_⟩
    refine ⟨p, _, _, rfl, upd_same, by omega, _, _, rfl, rfl, true, congrArg V.bl (decide_eq_true (by omega)), ?_⟩
    have sm := same_new (o := SetK P w p (inS (tx cs).cps.toList) (met (tx cs).cps.toList).length) np
    refine ⟨_, rfl, tx cs, rfl, fun D nD => lc_it walk_str (fun i H' => Same (upd H p (SetK P w p (inS (tx cs).cps.toList) (met (tx cs).cps.toList).length)) H' ∧ H' D = some (.lst ((List.replicate i true).map V.bl))) ?_ ?_ ?_ ?_⟩
    · exact ⟨same_new nD, upd_same⟩
    · exact fun _ _ _ _ => trivial
    · rintro i x H1 H2 hi ⟨s1, hD⟩ ⟨rfl, c, hc, rfl⟩
      have hi2 : i < 41 := by
        rw [tx_size] at hi
        omega
      have hcs : c ∈ (Str.ofString "abcdefghijklmnopqrstuvwxyz").cps.toList := by
        rw [lett_text]
        exact low_lett pat.low c (List.mem_of_getElem? (tx_get.symm.trans hc))
      refine ⟨rfl, _, rfl, c, _, rfl, rfl, _, hD, fitsLt (by rw [List.length_map, List.length_replicate]; omega), Same.put s1 nD, ?_⟩
      rw [upd_same, decide_eq_true hcs, List.replicate_succ', List.map_append]
      rfl
    · rintro H1 ⟨s1, hD⟩
      refine ⟨D, List.replicate _ true, rfl, SqL.of hD, ?_⟩
      rw [show (List.replicate (tx cs).cps.size true).all id = true by simp]
      exact q H1 (sm.trans s1)
theorem ok_check {k : Nat} (T : Txt K mg) : FnOk P w K mg base CX0 (k + 2) T.aCheckPattern T.dCheckPattern ["value"] spCheck := by
  have GIsPattern : FnOk P w K mg base CX0 (k + 1) T.aIsPattern T.dIsPattern ["value"] spIsPat := ok_isPat T
  refine T.fCheckPattern.ok scCheckPattern (fun vs H Q E h => ?_) (fun cdv A outer s H vs Q E hr h => ?_)
  · obtain ⟨cs, rfl, _⟩ := h
    rfl
  · obtain ⟨cs, rfl, pat, q⟩ := h
    refine ⟨_, (pss_one (ps_if (pt_not (pt_val (pe_call GIsPattern hr (by rfl) T.gIsPattern T.fIsPattern.kp T.bIsPattern .nil pass0 (pa_cons (pv 0) pa_nil)))) (pss_one ps_never) pss_nil)), ?_⟩
    exact ⟨_, rfl, cs, rfl, pat, fun H1 s1 => ⟨true, rfl, iteF (q H1 s1)⟩⟩
/-! ### variable sets -/
def vset (cs : List Nat) : List Nat := lett.filter fun c => decide (c ∈ cs)
theorem filter_snoc {p : Nat → Bool} {cs : List Nat} {i c : Nat} (h : cs[i]? = some c) : (cs.take (i + 1)).filter p = (cs.take i).filter p ++ (if p c = true then [c] else []) := by
  rw [List.take_add_one, h, List.filter_append]
  cases hp : p c <;> simp [List.filter, hp]
def spIsVS (K : PySem.W.Frag) : Sp := fun vs H Q _ => ∃ x, vs = [x] ∧
  ((∃ cs : List Nat, x = .str (tx cs) ∧ ∀ H', Same H H' → Q (.bl (decide (V.str (tx cs) = V.str (tx (vset cs))))) H') ∨ (∃ t, TyX K H x (.type t) ∧ kitB t "str" = some false ∧ ∀ H', Same H H' → Q (.bl false) H'))
theorem ok_isVS {k : Nat} (T : Txt K mg) : FnOk P w K mg base CX0 (k + 1) T.aIsVariableSet T.dIsVariableSet ["value"] (spIsVS K) := by
  refine T.fIsVariableSet.ok scIsVariableSet (fun vs H Q E h => ?_) (fun cdv A outer s H vs Q E hr h => ?_)
  · obtain ⟨x, rfl, _⟩ := h
    rfl
  · obtain ⟨x, rfl, h⟩ := h
    refine ⟨_, (pss_one (ps_ret (pe_and (pe_callB call_isi (by rfl) T.m_isinstance (by decide +kernel) (pa_cons (pv 0) (pa_cons (pe_bltn (v := .ty "str") (by rfl) T.m_str (by decide +kernel) rfl) pa_nil))) (pe_one (pe_cmpR op_eq (pv 0) (pe_join pe_str (pe_lc (own := [("name", 1)]) (g := gName 1) rfl scIsVariableSet.nd (pi_str (pe_glob (v := .str "abcdefghijklmnopqrstuvwxyz") rfl T.m_VARIABLES ⟨_, rfl⟩)) (blkOk_by (N := ["value", "name"]) (sc := defScope sIsVariableSet) (by decide +kernel)) (fun _ _ _ _ _ => pg_name (i := 1) scIsVariableSet.nd rfl (Or.inl rfl)) (fun _ _ _ _ _ => pts_one (pt_cmpR op_in_sign (pv 1) (pv 0) rfl)) (fun _ _ _ _ _ => (pv 1)))) (nomark _)))))), ?_⟩
    rcases h with ⟨cs, rfl, q⟩ | ⟨t, ty, hk, q⟩
    · refine ⟨_, rfl, _, _, .type "str", .type "str", true, rfl, .ty "str", .base (.str _), kit_ty (by decide +kernel), true, rfl, ?_⟩
      refine ⟨_, rfl, ⟨_, rfl⟩, Str.ofString "abcdefghijklmnopqrstuvwxyz", rfl, fun D nD => lc_it walk_str (fun i H' => Same H H' ∧ H' D = some (.lst (((lett.take i).filter fun c => decide (c ∈ cs)).map sg))) ?_ ?_ ?_ ?_⟩
      · exact ⟨same_new nD, upd_same⟩
      · exact fun _ _ _ _ => trivial
      · rintro i x H1 H2 hi ⟨s1, hD⟩ ⟨rfl, c, hc, rfl⟩
        rw [← Array.getElem?_toList, lett_text] at hc
        have hlt : i < 26 := (List.getElem?_eq_some_iff.mp hc).1
        have hfl : ((lett.take i).filter fun c => decide (c ∈ cs)).length ≤ 26 := Nat.le_trans (List.length_filter_le _ _) (by rw [List.length_take]; exact Nat.min_le_right _ _)
        refine ⟨rfl, _, rfl, _, rfl, c, _, rfl, rfl, _, rfl, ?_⟩
        by_cases e : c ∈ cs
        · rw [tx_list, decide_eq_true e]
          refine ⟨_, rfl, _, hD, fitsLt (by rw [List.length_map]; omega), Same.put s1 nD, ?_⟩
          rw [upd_same, filter_snoc hc, if_pos (decide_eq_true e), List.map_append]
          rfl
        · rw [tx_list, decide_eq_false e]
          refine ⟨s1, ?_⟩
          rw [hD, filter_snoc hc, if_neg (by rw [decide_eq_false e]; exact Bool.false_ne_true), List.append_nil]
      · rintro H1 ⟨s1, hD⟩
        have e26 : (Str.ofString "abcdefghijklmnopqrstuvwxyz").cps.size = 26 := by decide +kernel
        have ev : (lett.take 26).filter (fun c => decide (c ∈ cs)) = vset cs := rfl
        rw [e26, ev] at hD
        have hfl : (vset cs).length ≤ 26 := List.length_filter_le _ _
        refine ⟨_, D, (vset cs).map fun c => (⟨#[c]⟩ : Str), rfl, rfl, .inl (SqL.of (by rw [← signs_map]; exact hD)), signs_room (by omega), rfl, ?_⟩
        rw [join_signs]
        exact q H1 s1
    · exact ⟨_, rfl, _, _, .type t, .type "str", false, rfl, .ty "str", ty, kit_ty hk, false, rfl, q H (Same.refl H)⟩
theorem ok_initV {k : Nat} (T : Txt K mg) : FnOk P w K mg base CX0 (k + 1) T.iInvalidVariables T.dInvalidVariables ["self", "value"] (spInit T.cInvalidVariables "value") := by
  refine T.fInitInvalidVariables.ok scInitInvalidVariables (fun vs H Q E h => ?_) (fun cdv A outer s H vs Q E hr h => ?_)
  · obtain ⟨a, y, rfl, _⟩ := h
    rfl
  · obtain ⟨a, y, rfl, ha, q⟩ := h
    refine ⟨_, pss_one (ps_ost (pv 0) (pv 1)), ?_⟩
    exact ⟨_, rfl, _, rfl, a, T.cInvalidVariables, rfl, T.xInvalidVariables.oex, T.xInvalidVariables.no, .inl ⟨ha, fun dx nd ne => q dx nd ne⟩⟩
/-- what is no variable set: a text of other signs, or another kind -/
def NoVS (K : PySem.W.Frag) (H : Hp) (x : V) : Prop := (∃ cs : List Nat, x = .str (tx cs) ∧ cs ≠ vset cs) ∨ ∃ t, TyX K H x (.type t) ∧ kitB t "str" = some false
def spCheckVS (K : PySem.W.Frag) (C : Addr) : Sp := fun vs H Q E => ∃ x, vs = [x] ∧
  ((∃ cs : List Nat, x = .str (tx cs) ∧ cs = vset cs ∧ ∀ H', Same H H' → Q .non H') ∨ (NoVS K H x ∧ ∀ d H', H d = none → Same H H' → H' d = some (.xd [("value", x)]) → E (.ref C) (some d) H'))
theorem ok_checkVS {k : Nat} (T : Txt K mg) : FnOk P w K mg base (L2.CX P w) (k + 3) T.aCheckVariableSet T.dCheckVariableSet ["value"] (spCheckVS K T.cInvalidVariables) := by
  have GIsVariableSet : FnOk P w K mg base CX0 (k + 2) T.aIsVariableSet T.dIsVariableSet ["value"] (spIsVS K) := ok_isVS T
  have GInitInvalidVariables : FnOk P w K mg base CX0 (k + 1) T.iInvalidVariables T.dInvalidVariables ["self", "value"] (spInit T.cInvalidVariables "value") := ok_initV T
  refine T.fCheckVariableSet.okX scCheckVariableSet (fun vs H Q E h => ?_) (fun cdv A outer s H vs Q E hr h => ?_)
  · obtain ⟨x, rfl, _⟩ := h
    rfl
  · obtain ⟨x, rfl, h⟩ := h
    refine ⟨_, (pss_one (ps_if (pt_not (pt_val (pe_call GIsVariableSet hr (by rfl) T.gIsVariableSet T.fIsVariableSet.kp T.bIsVariableSet .nil pass0 (pa_cons (pv 0) pa_nil)))) (pss_one (ps_raise rfl (takes_of rfl rfl rfl rfl) (pmk_oex T.xInvalidVariables.oex T.xInvalidVariables.iC T.xInvalidVariables.tI GInitInvalidVariables hr T.bInitInvalidVariables .nil pass0 (by rfl) T.eInvalidVariables (pa_cons (pv 0) pa_nil)))) pss_nil)), ?_⟩
    rcases h with ⟨cs, rfl, hv, q⟩ | ⟨hn, q⟩
    · refine ⟨_, rfl, _, rfl, .inl ⟨cs, rfl, fun H1 s1 => ?_⟩⟩
      rw [← hv]
      exact ⟨true, congrArg V.bl (decide_eq_true rfl), iteF (q H1 s1)⟩
    · have fin : ∀ H1, Same H H1 → ∀ d H', H1 d = none → Same H1 H' → H' d = some (.xd [("value", x)]) → E (.ref T.cInvalidVariables) (some d) H' := fun H1 s1 d H' nd s2 hd => q d H' (s1.free nd) (s1.trans s2) hd
      rcases hn with ⟨cs, rfl, hc⟩ | ⟨t, ty, hk⟩
      · refine ⟨_, rfl, _, rfl, .inl ⟨cs, rfl, fun H1 s1 => ⟨false, ?_, ?_⟩⟩⟩
        · exact congrArg V.bl (decide_eq_false fun e => hc (tx_inj (V.str.inj e)))
        · exact iteT ⟨_, rfl, err_read (fin H1 s1)⟩
      · exact ⟨_, rfl, _, rfl, .inr ⟨t, ty, hk, fun H1 s1 => ⟨false, rfl, iteT ⟨_, rfl, err_read (fin H1 s1)⟩⟩⟩⟩
/-- pen(script): a new pen -/
def spPen (K : PySem.W.Frag) : Sp := fun vs H Q _ => ∃ (a : Addr) (ns : List Int), vs = [.ref a] ∧ SqL K H a (ns.map V.int) ∧ ns.length ≤ 63 ∧ ∀ H' d c, Same H H' → H d = none → Pen H' d c 0 → Q (.ref d) H'
theorem ok_pen {k : Nat} (T : Txt K mg) : FnOk P w K mg base CX0 (k + 1) T.aLPen T.dLPen ["_law_script"] (spPen K) := by
  refine T.fLPen.ok scLPen (fun vs H Q E h => ?_) (fun cdv A outer s H vs Q E hr h => ?_)
  · obtain ⟨a, ns, rfl, _⟩ := h
    rfl
  · obtain ⟨a, ns, rfl, hs, hn, q⟩ := h
    refine ⟨_, (pss_one (ps_ret (pe_disp (pps_cons pe_str (pe_callTy call_list_of (by rfl) T.m_list (by decide +kernel) (pa_cons (pe_slice sl_list (pv 0) po_none (po_some pe_int)) pa_nil)) (pps_cons pe_str pe_int (pps_cons pe_str pe_int pps_nil))) (by rfl) (by rfl) (fun z => by cases z) (by decide)))), ?_⟩
    intro d nd
    have s1 := same_new (o := .dK []) nd
    refine ⟨_, rfl, 63, rfl, a, _, rfl, s1.seq hs, fun p np => ?_⟩
    have s2 := same_new (o := .lst (cutV (ns.map V.int) none (some 63))) np
    refine ⟨p, _, rfl, .inl (SqL.of upd_same), fun c nc => ?_⟩
    have s3 := same_new (o := .lst (cutV (ns.map V.int) none (some 63))) nc
    have ec : cutV (ns.map V.int) none (some 63) = ns.map V.int := by
      unfold cutV
      rw [HT.sIx_none, show (some (63 : Int)) = some ((63 : Nat) : Int) from rfl, HT.sIx_nat, List.drop_zero, Nat.sub_zero, List.length_map]
      exact List.take_of_length_le (by rw [List.length_map]; omega)
    rw [ec] at nc s2 s3 ⊢
    have hd3 := s3 _ _ (s2 _ _ (upd_same (H := H) (a := d) (o := .dK [])))
    refine ⟨hd3, penD c 0 0, rfl, by show 3 ≤ 15; decide, ?_⟩
    rw [pen_merge]
    have ncd : c ≠ d := (ne_of_none (s2 _ _ (upd_same (H := H) (a := d) (o := .dK []))) nc).symm
    refine q _ d c (Same.put ((s1.trans s2).trans s3) nd) nd ⟨ns, 0, upd_same, by rw [upd_ne ncd, upd_same], hn, Int.le_refl 0⟩
/-- delete(pattern, letters): the rest; or InvalidVariables with the very value -/
def rest (cs ls : List Nat) : List Nat := cs.filter fun c => !decide (c ∈ ls)
def spDelete (K : PySem.W.Frag) (C : Addr) : Sp := fun vs H Q E => ∃ (cs : List Nat) (x : V), vs = [.str (tx cs), x] ∧ Pat cs ∧
  ((∃ ls : List Nat, x = .str (tx ls) ∧ ls = vset ls ∧ ∀ H', Same H H' → Q (.str (tx (rest cs ls))) H') ∨ ((∀ H', Same H H' → NoVS K H' x) ∧ ∀ d H', H d = none → Same H H' → H' d = some (.xd [("value", x)]) → E (.ref C) (some d) H'))
theorem ok_delete {k : Nat} (T : Txt K mg) : FnOk P w K mg base (L2.CX P w) (k + 4) T.aDelete T.dDelete ["pattern", "letters"] (spDelete K T.cInvalidVariables) := by
  have GCheckPattern : FnOk P w K mg base CX0 (k + 3) T.aCheckPattern T.dCheckPattern ["value"] spCheck := ok_check T
  have GCheckVariableSet : FnOk P w K mg base (L2.CX P w) (k + 3) T.aCheckVariableSet T.dCheckVariableSet ["value"] (spCheckVS K T.cInvalidVariables) := ok_checkVS T
  refine T.fDelete.okX scDelete (fun vs H Q E h => ?_) (fun cdv A outer s H vs Q E hr h => ?_)
  · obtain ⟨cs, x, rfl, _⟩ := h
    rfl
  · obtain ⟨cs, x, rfl, pat, h⟩ := h
    have hlen := pat.len
    refine ⟨_, (pss_cons (ps_expr (pe_call GCheckPattern hr (by rfl) T.gCheckPattern T.fCheckPattern.kp T.bCheckPattern .nil pass0 (pa_cons (pv 0) pa_nil)))
      (pss_cons (ps_expr (pe_call GCheckVariableSet hr (by rfl) T.gCheckVariableSet T.fCheckVariableSet.kp T.bCheckVariableSet .nil (passes_call (takes_of rfl rfl rfl rfl) (fun _ _ _ _ h => h)) (pa_cons (pv 1) pa_nil)))
      (pss_one (ps_ret (pe_join pe_str (pe_lc (own := [("name", 2)]) (g := gName 2) rfl scDelete.nd (pi_str (pv 0)) (blkOk_by (N := ["pattern", "letters", "name"]) (sc := defScope sDelete) (by decide +kernel)) (fun _ _ _ _ _ => pg_name (i := 2) scDelete.nd rfl (Or.inl rfl)) (fun _ _ _ _ _ => pts_one (pt_cmpR op_notIn_sign (pv 2) (pv 1) rfl)) (fun _ _ _ _ _ => (pv 2)))))))), ?_⟩
    refine ⟨_, rfl, cs, rfl, pat, fun H1 s1 => ⟨_, rfl, _, rfl, ?_⟩⟩
    rcases h with ⟨ls, rfl, hv, q⟩ | ⟨hn, q⟩
    · refine .inl ⟨ls, rfl, hv, fun H2 s2 => ?_⟩
      refine ⟨⟨_, rfl⟩, _, rfl, tx cs, rfl, fun D nD => lc_it walk_str (fun i H' => Same H2 H' ∧ H' D = some (.lst (((cs.take i).filter fun c => !decide (c ∈ ls)).map sg))) ?_ ?_ ?_ ?_⟩
      · exact ⟨same_new nD, upd_same⟩
      · exact fun _ _ _ _ => trivial
      · rintro i x H3 H4 hi ⟨s3, hD⟩ ⟨rfl, c, hc, rfl⟩
        rw [tx_get] at hc
        have hlt : i < cs.length := (List.getElem?_eq_some_iff.mp hc).1
        have hfl : ((cs.take i).filter fun c => !decide (c ∈ ls)).length ≤ 40 := Nat.le_trans (List.length_filter_le _ _) (by rw [List.length_take]; omega)
        refine ⟨rfl, _, rfl, _, rfl, c, _, rfl, rfl, _, rfl, ?_⟩
        rw [tx_list]
        refine ite2 (fun e => ?_) (fun e => ?_)
        · refine ⟨_, rfl, _, hD, fitsLt (by rw [List.length_map]; omega), Same.put s3 nD, ?_⟩
          rw [upd_same, filter_snoc hc, if_pos e, List.map_append]
          rfl
        · refine ⟨s3, ?_⟩
          rw [hD, filter_snoc hc, if_neg e, List.append_nil]
      · rintro H3 ⟨s3, hD⟩
        rw [List.take_of_length_le (by rw [tx_size]; exact Nat.le_refl _)] at hD
        have hfl : (rest cs ls).length ≤ 40 := Nat.le_trans (List.length_filter_le _ _) hlen
        refine ⟨_, D, (rest cs ls).map fun c => (⟨#[c]⟩ : Str), rfl, rfl, .inl (SqL.of (by rw [← signs_map]; exact hD)), signs_room (by omega), ?_⟩
        rw [join_signs]
        exact q H3 ((s1.trans s2).trans s3)
    · exact .inr ⟨hn H1 s1, fun d H' nd s2 hd => q d H' (s1.free nd) (s1.trans s2) hd⟩
end
end Mo

namespace Mo
open PySem PySem.Spec PyProof.Rows L2
section
variable {P : Program} {w : World} {K : PySem.W.Frag} {mg : Str → Option Value} {base : Heap}
/-! ### ascending lists of signs -/
theorem asc_ext : ∀ a b : List Nat, a.Pairwise (· < ·) → b.Pairwise (· < ·) → (∀ x, x ∈ a ↔ x ∈ b) → a = b
  | [], [], _, _, _ => rfl
  | [], y :: b, _, _, h => absurd ((h y).mpr List.mem_cons_self) (by simp)
  | x :: a, [], _, _, h => absurd ((h x).mp List.mem_cons_self) (by simp)
  | x :: a, y :: b, ha, hb, h => by
    have ha2 := List.pairwise_cons.mp ha
    have hb2 := List.pairwise_cons.mp hb
    have e : x = y := by
      rcases List.mem_cons.mp ((h x).mp List.mem_cons_self) with q | q
      · exact q
      · rcases List.mem_cons.mp ((h y).mpr List.mem_cons_self) with q' | q'
        · exact q'.symm
        · have := hb2.1 x q
          have := ha2.1 y q'
          omega
    subst e
    congr 1
    refine asc_ext a b ha2.2 hb2.2 fun z => ⟨fun hz => ?_, fun hz => ?_⟩
    · rcases List.mem_cons.mp ((h z).mp (List.mem_cons_of_mem _ hz)) with q | q
      · have := ha2.1 z hz
        omega
      · exact q
    · rcases List.mem_cons.mp ((h z).mpr (List.mem_cons_of_mem _ hz)) with q | q
      · have := hb2.1 z hz
        omega
      · exact q
theorem lett_asc : lett.Pairwise (· < ·) := by decide
theorem vset_asc (cs : List Nat) : (vset cs).Pairwise (· < ·) := List.Pairwise.filter _ lett_asc
theorem mem_vset {cs : List Nat} {c : Nat} : c ∈ vset cs ↔ c ∈ lett ∧ c ∈ cs := by
  unfold vset
  rw [List.mem_filter]
  simp
theorem vset_of_asc {ls : List Nat} (h : ls.Pairwise (· < ·)) (hl : Low ls) : ls = vset ls := asc_ext ls (vset ls) h (vset_asc ls) fun x => by
  rw [mem_vset]
  exact ⟨fun hx => ⟨low_lett hl x hx, hx⟩, fun hx => hx.2⟩
theorem vset_low {ls : List Nat} (h : ls = vset ls) : Low ls := fun c hc => by
  rw [h] at hc
  have h2 : ∀ c ∈ lett, 97 ≤ c ∧ c ≤ 122 := by decide
  exact h2 c (mem_vset.mp hc).1
theorem vset_len {ls : List Nat} (h : ls = vset ls) : ls.length ≤ 26 := by
  rw [h]
  exact List.length_filter_le _ _
theorem lt_one (x p : Nat) : ltCps [x] [p] = decide (x < p) := by
  by_cases h : x < p
  · simp [ltCps, h]
  · by_cases h2 : x = p
    · simp [ltCps, h2]
    · simp [ltCps, h, h2]
theorem rising_le : ∀ (ls : List Nat) (p : Nat), risingS (⟨#[p]⟩ : Str) (ls.map fun c => (⟨#[c]⟩ : Str)) = true → (p :: ls).Pairwise (· ≤ ·)
  | [], p, _ => by simp
  | x :: ls, p, h => by
    have h2 : (!ltCps [x] [p] && risingS (⟨#[x]⟩ : Str) (ls.map fun c => (⟨#[c]⟩ : Str))) = true := h
    obtain ⟨h3, h4⟩ := Bool.and_eq_true_iff.mp h2
    rw [lt_one] at h3
    have h5 : ¬ x < p := by simpa using h3
    have ih := rising_le ls x h4
    refine List.pairwise_cons.mpr ⟨fun y hy => ?_, ih⟩
    rcases List.mem_cons.mp hy with q | q
    · omega
    · have := (List.pairwise_cons.mp ih).1 y q
      omega
theorem sorted_asc {ls : List Nat} (h : sortedS (ls.map fun c => (⟨#[c]⟩ : Str)) = true) (hn : ls.Nodup) : ls.Pairwise (· < ·) := by
  have h1 : ls.Pairwise (· ≤ ·) := by
    cases ls with
    | nil => exact List.Pairwise.nil
    | cons p r => exact rising_le r p h
  exact List.Pairwise.imp₂ (fun a b h1 h2 => by have : a ≠ b := h2; omega) h1 hn
theorem signs_of : ∀ (ys : List Str), (∀ y ∈ ys, ∃ c : Nat, y = ⟨#[c]⟩) → ∃ ls : List Nat, ys = ls.map fun c => (⟨#[c]⟩ : Str)
  | [], _ => ⟨[], rfl⟩
  | y :: ys, h => by
    obtain ⟨c, rfl⟩ := h y List.mem_cons_self
    obtain ⟨ls, rfl⟩ := signs_of ys fun z hz => h z (List.mem_cons_of_mem _ hz)
    exact ⟨c :: ls, rfl⟩
theorem sign_map_inj {a b : List Nat} (h : (a.map fun c => (⟨#[c]⟩ : Str)).Perm (b.map fun c => (⟨#[c]⟩ : Str))) : a.Perm b := by
  have q := h.map fun y : Str => y.cps.getD 0 0
  rw [List.map_map, List.map_map] at q
  have e : ((fun y : Str => y.cps.getD 0 0) ∘ fun c => (⟨#[c]⟩ : Str)) = id := by
    funext c
    rfl
  rwa [e, List.map_id, List.map_id] at q
theorem inV_mem {c : Nat} {zs : List Nat} (h : (!inV (sg c) (zs.map sg)) = true) : c ∉ zs := fun hc => by
  have q : inV (sg c) (zs.map sg) = true := List.any_eq_true.mpr ⟨sg c, List.mem_map.mpr ⟨c, hc, rfl⟩, by show ((⟨#[c]⟩ : Str) == ⟨#[c]⟩) = true; exact beq_self_eq_true _⟩
  rw [q] at h
  cases h
theorem flat_signs (zs : List Nat) : (zs.map sg).all flatV = true := by
  rw [List.all_eq_true]
  intro x hx
  obtain ⟨c, _, rfl⟩ := List.mem_map.mp hx
  rfl
def four : List Nat := [98, 107, 113, 122]
theorem four_text : (Str.ofString "bkqz").cps.toList = four := by decide +kernel
theorem sub_take {l zs : List Nat} {i c : Nat} (h : zs.Sublist (l.take i)) (hc : l[i]? = some c) : zs.Sublist (l.take (i + 1)) ∧ (zs ++ [c]).Sublist (l.take (i + 1)) := by
  rw [List.take_add_one, hc]
  exact ⟨h.trans (List.sublist_append_left _ _), h.append (List.Sublist.refl _)⟩
/-- set: a variable set -/
def spSet : Sp := fun vs H Q _ => ∃ (d c : Addr) (cs : List Nat) (t : Nat), vs = [.ref d, .str (tx cs)] ∧ Pen H d c t ∧ t < 1000000 ∧
  ∀ H' ls t', But d H H' → Pen H' d c t' → t' ≤ t + 30 → ls = vset ls → Q (.str (tx ls)) H'
theorem ok_set {k : Nat} (T : Txt K mg) : FnOk P w K mg base CX0 (k + 2) T.aLSet T.dLSet ["_law_pen_here", "_law_pattern_here"] spSet := by
  have GLDraw : FnOk P w K mg base CX0 (k + 1) T.aLDraw T.dLDraw ["_law_pen_here", "_law_size"] spDraw := ok_draw T
  refine T.fLSet.ok scLSet (fun vs H Q E h => ?_) (fun cdv A outer s H vs Q E hr h => ?_)
  · obtain ⟨d, c, cs, t, rfl, _⟩ := h
    rfl
  · obtain ⟨d, c, cs, t, rfl, pen, ht, q⟩ := h
    refine ⟨_, (pss_cons (ps_set (i := 2) scLSet.nd rfl (Or.inr rfl) (pe_lc (own := [("_law_sign", 3)]) (g := gName 3) rfl scLSet.nd (pi_str pe_str) (blkOk_by (N := ["_law_pen_here", "_law_pattern_here", "_law_some", "_law_sign", "_law_others"]) (sc := defScope sLSet) (by decide +kernel)) (fun _ _ _ _ _ => pg_name (i := 3) scLSet.nd rfl (Or.inl rfl)) (fun _ _ _ _ _ => pts_one (PW.pt (pw_and (pt_cmpR op_in_sign (pv 3) (pv 1) rfl) (pw_and1 (pt_cmpR op_eq (pe_call GLDraw hr (by rfl) T.gLDraw T.fLDraw.kp T.bLDraw .nil pass0 (pa_cons (pv 0) (pa_cons pe_int pa_nil))) pe_int (nomark _)))))) (fun _ _ _ _ _ => (pv 3))))
      (pss_cons (ps_setLc (i := 4) (own := [("_law_sign", 3)]) (g := gName 3) rfl scLSet.nd rfl rfl (sw_true rfl rfl rfl (by decide +kernel)) (pi_str pe_str) (blkOk_by (N := ["_law_pen_here", "_law_pattern_here", "_law_some", "_law_sign", "_law_others"]) (sc := defScope sLSet) (by decide +kernel)) (fun _ _ _ _ _ => pg_name (i := 3) scLSet.nd rfl (Or.inl rfl)) (fun _ _ _ _ _ => pts_one (PW.pt (pw_and (pt_cmpR op_eq (pe_call GLDraw hr (by rfl) T.gLDraw T.fLDraw.kp T.bLDraw .nil pass0 (pa_cons (pv 0) (pa_cons pe_int pa_nil))) pe_int (nomark _)) (pw_and1 (pt_cmpR (Mo.op_notIn_seqK (K := K) rfl) (pv 3) (pv 2) rfl))))) (fun _ _ _ _ _ => (pv 3)))
      (pss_one (ps_ret (pe_join pe_str (pe_callB cr_sortedS (by rfl) T.m_sorted (by decide +kernel) (pa_cons (pe_op op_cat (pv 2) (pv 4)) pa_nil))))))), ?_⟩
    refine ⟨Str.ofString "abcdefghijklmnopqrstuvwxyz", rfl, fun D nD => lc_it walk_str (fun i H' => ∃ (zs : List Nat) (t' : Nat), But d H H' ∧ Pen H' d c t' ∧ t' ≤ t + i ∧ zs.Sublist (lett.take i) ∧ H' D = some (.lst (zs.map sg))) ?_ ?_ ?_ ?_⟩
    · exact ⟨[], t, But.same (same_new nD), pen.same (same_new nD), Nat.le_refl _, List.Sublist.refl _, upd_same⟩
    · exact fun _ _ _ _ => trivial
    · rintro i x H1 H2 hi ⟨zs, t', bt, pn, ht', hz, hD⟩ ⟨rfl, e, he, rfl⟩
      rw [← Array.getElem?_toList, lett_text] at he
      have hlt : i < 26 := (List.getElem?_eq_some_iff.mp he).1
      have hsub := sub_take hz he
      have nDp := pen.new nD
      have hzl : zs.length ≤ 26 := Nat.le_trans hz.length_le (by rw [List.length_take]; exact Nat.min_le_right _ _)
      refine ⟨rfl, _, rfl, _, rfl, e, _, rfl, rfl, _, rfl, ?_⟩
      refine ite2 (fun e1 => ?_) (fun e1 => ⟨zs, t', bt, pn, by omega, hsub.1, hD⟩)
      refine ⟨_, rfl, d, c, 2, t', rfl, pn, by decide, by decide, by omega, fun H3 k3 t3 b3 p3 h3 k30 k31 => ?_⟩
      refine ⟨rfl, _, rfl, ?_⟩
      refine ite2 (fun e2 => ?_) (fun e2 => ⟨zs, t3, bt.trans b3, p3, by omega, hsub.1, b3 _ _ nDp.1 hD⟩)
      exact ⟨_, rfl, _, b3 _ _ nDp.1 hD, fitsLt (by rw [List.length_map]; omega), zs ++ [e], t3, (bt.trans b3).put nD, p3.upd nDp.1 nDp.2, by omega, hsub.2, by rw [upd_same, List.map_append]; rfl⟩
    · rintro H1 ⟨zs, t1, bt1, pn1, ht1, hz, hD1⟩
      have e26 : (Str.ofString "abcdefghijklmnopqrstuvwxyz").cps.size = 26 := by decide +kernel
      rw [e26] at ht1 hz
      have nDp := pen.new nD
      refine ⟨Str.ofString "bkqz", rfl, fun D2 nD2 => lc_it walk_str (fun i H' => ∃ (os : List Nat) (t' : Nat), But d H1 H' ∧ Pen H' d c t' ∧ t' ≤ t1 + i ∧ os.Sublist (four.take i) ∧ (∀ x ∈ os, x ∉ zs) ∧ H' D2 = some (.lst (os.map sg))) ?_ ?_ ?_ ?_⟩
      · exact ⟨[], t1, But.same (same_new nD2), pn1.same (same_new nD2), Nat.le_refl _, List.Sublist.refl _, by simp, upd_same⟩
      · exact fun _ _ _ _ => trivial
      · rintro i x H2 H3 hi ⟨os, t', bt, pn, ht', hz2, hno, hD⟩ ⟨rfl, e, he, rfl⟩
        rw [← Array.getElem?_toList, four_text] at he
        have hlt : i < 4 := (List.getElem?_eq_some_iff.mp he).1
        have hsub := sub_take hz2 he
        have nDp2 := pn1.new nD2
        have hol : os.length ≤ 4 := Nat.le_trans hz2.length_le (by rw [List.length_take]; exact Nat.min_le_right _ _)
        refine ⟨rfl, _, rfl, d, c, 3, t', rfl, pn, by decide, by decide, by omega, fun H4 k3 t3 b3 p3 h3 k30 k31 => ?_⟩
        refine ⟨rfl, _, rfl, ?_⟩
        refine ite2 (fun e2 => ?_) (fun e2 => ⟨os, t3, bt.trans b3, p3, by omega, hsub.1, hno, b3 _ _ nDp2.1 hD⟩)
        refine ⟨_, rfl, _, rfl, D, zs.map sg, rfl, .inl (SqL.of (b3 _ _ nDp.1 (bt _ _ nDp.1 hD1))), rfl, flat_signs zs, _, rfl, ?_⟩
        refine ite2 (fun e3 => ?_) (fun e3 => ⟨os, t3, bt.trans b3, p3, by omega, hsub.1, hno, b3 _ _ nDp2.1 hD⟩)
        refine ⟨_, rfl, _, b3 _ _ nDp2.1 hD, fitsLt (by rw [List.length_map]; omega), os ++ [e], t3, (bt.trans b3).put nD2, p3.upd nDp2.1 nDp2.2, by omega, hsub.2, fun y hy => ?_, by rw [upd_same, List.map_append]; rfl⟩
        rcases List.mem_append.mp hy with hy | hy
        · exact hno y hy
        · rw [List.mem_singleton.mp hy]
          exact inV_mem e3
      · rintro H2 ⟨os, t2, bt2, pn2, ht2, hz2, hno, hD2⟩
        have e4 : (Str.ofString "bkqz").cps.size = 4 := by decide +kernel
        rw [e4] at ht2 hz2
        have hzl : zs.length ≤ 26 := hz.length_le
        have hol : os.length ≤ 4 := hz2.length_le
        have nDD : D2 ≠ D := (ne_of_none hD1 nD2).symm
        refine ⟨⟨_, rfl⟩, _, rfl, _, rfl, D, D2, _, _, rfl, rfl, bt2 _ _ nDp.1 hD1, hD2, fits5 (by rw [List.length_map, List.length_map]; omega), fun p np => ?_⟩
        rw [← List.map_append, signs_map]
        have sm := same_new (o := .lst (((zs ++ os).map fun c => (⟨#[c]⟩ : Str)).map V.str)) np
        refine ⟨p, (zs ++ os).map fun c => (⟨#[c]⟩ : Str), rfl, SqL.of upd_same, by rw [List.length_map, List.length_append]; omega, fun ys r perm srt nr => ?_⟩
        obtain ⟨ls, rfl⟩ := signs_of ys fun y hy => by
          obtain ⟨c', _, e⟩ := List.mem_map.mp (perm.mem_iff.mp hy)
          exact ⟨c', e.symm⟩
        have pm := sign_map_inj perm
        have nd1 : (zs ++ os).Nodup := List.nodup_append.mpr ⟨hz.nodup (by decide : (lett.take 26).Nodup), hz2.nodup (by decide : (four.take 4).Nodup), fun a ha b hb e => hno b hb (e ▸ ha)⟩
        have low1 : Low ls := fun c' hc' => by
          have h26 : ∀ c ∈ lett.take 26, 97 ≤ c ∧ c ≤ 122 := by decide
          have h4 : ∀ c ∈ four.take 4, 97 ≤ c ∧ c ≤ 122 := by decide
          rcases List.mem_append.mp (pm.mem_iff.mp hc') with z | z
          · exact h26 _ (hz.subset z)
          · exact h4 _ (hz2.subset z)
        have asc := sorted_asc srt (pm.nodup_iff.mpr nd1)
        have s2 := same_new (o := .lst ((ls.map fun c => (⟨#[c]⟩ : Str)).map V.str)) nr
        have hll : ls.length ≤ 30 := by
          rw [pm.length_eq, List.length_append]
          omega
        refine ⟨_, r, ls.map fun c => (⟨#[c]⟩ : Str), rfl, rfl, .inl (SqL.of upd_same), signs_room (by omega), ?_⟩
        rw [join_signs]
        exact q _ ls t2 (((bt1.trans bt2).trans (But.same sm)).trans (But.same s2)) ((pn2.same sm).same s2) (by omega) (vset_of_asc asc low1)
end
end Mo

namespace Mo
open PySem PySem.Spec PyProof.Rows L2
section
variable {P : Program} {w : World} {K : PySem.W.Frag} {mg : Str → Option Value} {base : Heap}
/-! ### the signs of a repr -/
theorem repr_signs : ∀ c : Fin 200, ((Builtin.Str.reprChar 34 c.val).all fun x => decide (x < 0x110000)) = true ∧ ((Builtin.Str.reprChar 39 c.val).all fun x => decide (x < 0x110000)) = true := by decide +kernel
theorem fold_ok (q : Nat) : ∀ (l : List Nat) (acc : Array Nat), (∀ x ∈ acc.toList, x < 0x110000) → (∀ c ∈ l, ((Builtin.Str.reprChar q c).all fun x => decide (x < 0x110000)) = true) → ∀ x ∈ (l.foldl (fun out c => out ++ (Builtin.Str.reprChar q c).toArray) acc).toList, x < 0x110000
  | [], acc, h, _ => h
  | c :: r, acc, h, hc => by
    rw [List.foldl_cons]
    refine fold_ok q r _ (fun x hx => ?_) fun d hd => hc d (List.mem_cons_of_mem _ hd)
    rw [Array.toList_append] at hx
    rcases List.mem_append.mp hx with z | z
    · exact h x z
    · exact of_decide_eq_true (List.all_eq_true.mp (hc c List.mem_cons_self) x z)
theorem repr_ok {cs : List Nat} (h : ∀ c ∈ cs, c < 200) : PyData.strOk (reprText (tx cs)) = true := by
  have hq : reprQuote (tx cs) = 34 ∨ reprQuote (tx cs) = 39 := by
    unfold reprQuote
    split
    · exact .inl rfl
    · exact .inr rfl
  have key : ∀ x ∈ (reprText (tx cs)).cps.toList, x < 0x110000 := by
    unfold reprText
    intro x hx
    rw [← Array.foldl_toList] at hx
    have hx2 : x ∈ ((tx cs).cps.toList.foldl (fun out c => out ++ (Builtin.Str.reprChar (reprQuote (tx cs)) c).toArray) #[reprQuote (tx cs)]).toList ++ [reprQuote (tx cs)] := by
      simpa using hx
    rcases List.mem_append.mp hx2 with z | z
    · refine fold_ok _ _ _ (fun y hy => ?_) (fun c hc => ?_) x z
      · have : y = reprQuote (tx cs) := by simpa using hy
        rcases hq with e | e <;> omega
      · rcases hq with e | e
        · rw [e]; exact (repr_signs ⟨c, h c hc⟩).1
        · rw [e]; exact (repr_signs ⟨c, h c hc⟩).2
    · have : x = reprQuote (tx cs) := List.mem_singleton.mp z
      rcases hq with e | e <;> omega
  unfold PyData.strOk
  rw [Array.all_eq_true_iff_forall_mem]
  intro x hx
  exact decide_eq_true (key x (by simpa using hx))
/-- the law: True -/
def spLaw (K : PySem.W.Frag) : Sp := fun vs H Q _ => ∃ (a : Addr) (ns : List Int), vs = [.ref a] ∧ SqL K H a (ns.map V.int) ∧ ns.length ≤ 63 ∧ ∀ H', Q (.bl true) H'
theorem same_ne (x : V) : V.bl (!decide (x = x)) = V.bl false := by simp
/-- not a variable set, and what repr says of it -/
structure Bad (K : PySem.W.Frag) (H : Hp) (x : V) (dd : PyData) : Prop where
  no : NoVS K H x
  dat : Dat K H x dd
  sh : dd.showable = true
  dp : dd.depth ≤ 40
  len : dd.shown.length ≤ 100000
  ok : PyData.strOk dd.shown = true
def spRefused (K : PySem.W.Frag) : Sp := fun vs H Q _ => ∃ (cs : List Nat) (x : V) (dd : PyData), vs = [.str (tx cs), x] ∧ Pat cs ∧ (∀ H', Same H H' → Bad K H' x dd) ∧ ∀ H' p, Same H H' → H' p = some (.tup [.str dd.shown, .bl true]) → Q (.ref p) H'
theorem ok_refused {k : Nat} (T : Txt K mg) : FnG P w K mg base CX0 (k + 5) T.aLRefused T.dLRefused ["_law_pattern_here", "_law_letters"] (spRefused K) := by
  have GDelete : FnOk P w K mg base (L2.CX P w) (k + 4) T.aDelete T.dDelete ["pattern", "letters"] (spDelete K T.cInvalidVariables) := ok_delete T
  refine okG T.fLRefused scLRefused (fun vs H Q E h => ?_) (fun cdv A outer s H vs Q E hr hgd h => ?_)
  · obtain ⟨cs, x, dd, rfl, _⟩ := h
    rfl
  · obtain ⟨cs, x, dd, rfl, pat, bad, q⟩ := h
    refine ⟨_, (pss_cons (ps_set (i := 2) scLRefused.nd rfl (Or.inl rfl) pe_non)
      (pss_cons (Mo.ps_try_keep (i := 3) (j := 2) rfl rfl scLRefused.nd rfl rfl rfl rfl ⟨rfl, by decide, Or.inl T.eInvalidVariables⟩ takes0 (fun W pn xe tk _ => (pss_one (ps_expr (pe_callS GDelete hr rfl T.gDelete T.fDelete.kp T.bDelete (fun σ => passAt tk σ) (pa_cons (pv 0) (pa_cons (pv 1) pa_nil)))))) (fun a oe pn => pss_one (ps_set (i := 2) scLRefused.nd rfl (Or.inl rfl) (pv 3))))
      (pss_cons (ps_if (pt_cmpR op_isN (pv 2) pe_non (nomark _)) (pss_one (ps_ret pe_non)) pss_nil)
      (pss_cons (ps_set (i := 4) scLRefused.nd rfl (Or.inl rfl) (pe_callB Mo.cr_isXT (by rfl) T.m_isinstance (by decide +kernel) (pa_cons (pv 2) (pa_cons (pe_tup (pa_cons (pe_glob (v := .ref T.cInvalidPattern) rfl T.eInvalidPattern rfl) (pa_cons (pe_glob (v := .ref T.cInvalidText) rfl T.eInvalidText rfl) pa_nil))) pa_nil))))
      (pss_one (ps_ret (pe_tup (pa_cons (pe_callB (Mo.cr_reprD hgd hr.units) (by rfl) T.m_repr (by decide +kernel) (pa_cons (Mo.pe_xv (pv 2)) pa_nil)) (pa_cons (pe_and (pe_callB Mo.cr_isX (by rfl) T.m_isinstance (by decide +kernel) (pa_cons (pv 2) (pa_cons (pe_bltn (v := .ty "ValueError") (by rfl) T.m_ValueError (by decide +kernel) rfl) pa_nil))) (pe_one (pe_not (pv 4)))) pa_nil))))))))), ?_⟩
    refine ⟨_, rfl, _, rfl, cs, x, rfl, pat, .inr ⟨fun H' s' => (bad H' s').no, fun d H1 nd s1 hd => ⟨true, T.xInvalidVariables.te, fun _ a na => ?_, fun z => nomatch z⟩⟩⟩
    have nda : d ≠ a := ne_of_none hd na
    have s2 := same_new (o := exV a (.ref T.cInvalidVariables) (some d)) na
    have er : ErrAt (upd H1 a (exV a (.ref T.cInvalidVariables) (some d))) a T.cInvalidVariables d [("value", x)] := ⟨upd_same, s2 _ _ hd⟩
    generalize upd H1 a (exV a (.ref T.cInvalidVariables) (some d)) = H2 at *
    refine ⟨_, rfl, rfl, _, rfl, ite2 (fun e => absurd (of_decide_eq_true e) (fun z => nomatch z)) (fun _ => ?_)⟩
    -- isinstance of the two others
    refine ⟨_, rfl, by show 2 ≤ sizeLine; decide, fun tp ntp => ?_⟩
    have s3 := same_new (o := .tup [.ref T.cInvalidPattern, .ref T.cInvalidText]) ntp
    have er3 : ErrAt (upd H2 tp (.tup [.ref T.cInvalidPattern, .ref T.cInvalidText])) a T.cInvalidVariables d [("value", x)] := ⟨s3 _ _ er.1, s3 _ _ er.2⟩
    refine ⟨a, T.cInvalidVariables, d, tp, _, [.ref T.cInvalidPattern, .ref T.cInvalidText], [.ref T.cInvalidPattern, .ref T.cInvalidText], false, rfl, er3, T.xInvalidVariables.exc, upd_same, .cons (.own _) (.cons (.own _) .nil), T.kInvalidVariablesInvalidPatternInvalidText, ?_⟩
    have bd := bad _ ((s1.trans s2).trans s3)
    have sm := (s1.trans s2).trans s3
    generalize upd H2 tp (.tup [.ref T.cInvalidPattern, .ref T.cInvalidText]) = H3 at *
    -- the field, its repr
    refine ⟨_, rfl, a, T.cInvalidVariables, d, _, x, rfl, er3, T.xInvalidVariables.xf, T.xInvalidVariables.no, by simp [List.lookup], x, dd, rfl, bd.dat, bd.sh, bd.dp, fits5 bd.len, ?_⟩
    refine ⟨_, rfl, a, T.cInvalidVariables, d, _, .ty "ValueError", .type "ValueError", true, rfl, er3, T.xInvalidVariables.exc, .ty _, T.oInvalidVariablesValueError, true, rfl, _, rfl, false, rfl, ?_⟩
    refine ⟨by show 2 ≤ sizeLine; decide, fun p np => ?_⟩
    exact q _ p (sm.trans (same_new np)) upd_same
/-! ### the law -/
theorem rest_pat {cs ls : List Nat} (p : Pat cs) : Pat (rest cs ls) := by
  have hs : ∀ x ∈ rest cs ls, x ∈ cs := fun x hx => (List.mem_filter.mp hx).1
  refine ⟨Nat.le_trans (List.length_filter_le _ _) p.len, fun x hx => p.low x (hs x hx), Nat.le_trans (nodup_sub_len _ (met cs) (met_nodup _) fun x hx => mem_met.mpr (hs x (mem_met.mp hx))) p.few⟩
theorem rest_nil (cs : List Nat) : rest cs [] = cs := by
  unfold rest
  simp
theorem rest_comm (cs a b : List Nat) : rest (rest cs a) b = rest (rest cs b) a := by
  unfold rest
  rw [List.filter_filter, List.filter_filter]
  congr 1
  funext c
  exact Bool.and_comm _ _
theorem nil_vset : ([] : List Nat) = vset [] := by decide
theorem not_vset_a {ls : List Nat} (h : ls = vset ls) (hne : ls ≠ []) : ls ++ [97] ≠ vset (ls ++ [97]) := fun e => by
  have asc := vset_asc (ls ++ [97])
  rw [← e] at asc
  cases ls with
  | nil => exact hne rfl
  | cons x r =>
    have h1 := (List.pairwise_append.mp asc).2.2 x List.mem_cons_self 97 (by simp)
    have h2 := vset_low h x List.mem_cons_self
    omega
theorem bad_text {H : Hp} {cs : List Nat} (h : cs ≠ vset cs) (hl : cs.length ≤ 100) (hc : ∀ c ∈ cs, c < 200) : Bad K H (.str (tx cs)) (.str (tx cs)) := by
  refine ⟨.inl ⟨cs, rfl, h⟩, .inl (.str _), rfl, by show 0 ≤ 40; decide, ?_, repr_ok hc⟩
  have h1 := StrLaws.reprText_len (tx cs) (fun c hx => Nat.lt_trans (hc c hx) (by decide))
  rw [tx_len] at h1
  show (reprText (tx cs)).length ≤ 100000
  omega
theorem ok_law {k : Nat} (T : Txt K mg) : FnG P w K mg base CX0 (k + 6) T.aLaw T.dLaw ["_law_script"] (spLaw K) := by
  have GLPen : FnOk P w K mg base CX0 (k + 5) T.aLPen T.dLPen ["_law_script"] (spPen K) := ok_pen T
  have GLPattern : FnOk P w K mg base CX0 (k + 5) T.aLPattern T.dLPattern ["_law_pen_here", "_law_size", "_law_count"] spPattern := ok_pattern T
  have GLPick : FnOk P w K mg base CX0 (k + 5) T.aLPick T.dLPick ["_law_pen_here", "_law_options"] (spPick K) := ok_pick T
  have GLSet : FnOk P w K mg base CX0 (k + 5) T.aLSet T.dLSet ["_law_pen_here", "_law_pattern_here"] spSet := ok_set T
  have GDelete : FnOk P w K mg base (L2.CX P w) (k + 5) T.aDelete T.dDelete ["pattern", "letters"] (spDelete K T.cInvalidVariables) := ok_delete T
  have GLRefused : FnG P w K mg base CX0 (k + 5) T.aLRefused T.dLRefused ["_law_pattern_here", "_law_letters"] (spRefused K) := ok_refused T
  refine okG T.fLaw scLaw (fun vs H Q E h => ?_) (fun cdv A outer s H vs Q E hr hgd h => ?_)
  · obtain ⟨a, ns, rfl, _⟩ := h
    rfl
  · obtain ⟨a, ns, rfl, hs, hn, q⟩ := h
    refine ⟨_, (pss_cons (ps_set (i := 1) scLaw.nd rfl (Or.inl rfl) (pe_call GLPen hr (by rfl) T.gLPen T.fLPen.kp T.bLPen .nil pass0 (pa_cons (pv 0) pa_nil)))
      (pss_cons (ps_for PassesOwn.never rfl (pi_range1 (by rfl) T.m_range (pa_cons pe_int pa_nil)) (pg_name (i := 2) scLaw.nd rfl (Or.inl rfl)) (pss_cons (ps_set (i := 3) scLaw.nd rfl (Or.inl rfl) (pe_call GLPattern hr (by rfl) T.gLPattern T.fLPattern.kp T.bLPattern .nil pass0 (pa_cons (pv 1) (pa_cons pe_int (pa_cons pe_int pa_nil)))))
      (pss_cons (ps_asg (pe_tup (pa_cons (pe_call GLSet hr (by rfl) T.gLSet T.fLSet.kp T.bLSet .nil pass0 (pa_cons (pv 1) (pa_cons (pv 3) pa_nil))) (pa_cons (pe_call GLSet hr (by rfl) T.gLSet T.fLSet.kp T.bLSet .nil pass0 (pa_cons (pv 1) (pa_cons (pv 3) pa_nil))) pa_nil))) (pg_tup (by rfl) (pgs_cons (pg_name (i := 7) scLaw.nd rfl (Or.inr rfl)) (pgs_cons (pg_name (i := 8) scLaw.nd rfl (Or.inr rfl)) pgs_nil))))
      (pss_cons (ps_set (i := 4) scLaw.nd rfl (Or.inl rfl) (pe_join pe_str (pe_lc (own := [("_law_sign", 9)]) (g := gName 9) rfl scLaw.nd (pi_str (pv 3)) (blkOk_by (N := ["_law_script", "_law_pen_here", "_law_turn", "_law_pattern_here", "_law_due", "_law_both", "_law_bad", "_law_one", "_law_other", "_law_sign"]) (sc := defScope sLaw) (by decide +kernel)) (fun _ _ _ _ _ => pg_name (i := 9) scLaw.nd rfl (Or.inl rfl)) (fun _ _ _ _ _ => pts_one (pt_cmpR op_notIn_sign (pv 9) (pv 7) rfl)) (fun _ _ _ _ _ => (pv 9)))))
      (pss_cons (ps_if (PW.pt (pw_or (pt_cmpR op_ne (pe_callB Mo.cr_reprS (by rfl) T.m_repr (by decide +kernel) (pa_cons (pe_call GDelete hr (by rfl) T.gDelete T.fDelete.kp T.bDelete .nil passL (pa_cons (pv 3) (pa_cons (pv 7) pa_nil))) pa_nil)) (pe_callB Mo.cr_reprS (by rfl) T.m_repr (by decide +kernel) (pa_cons (pv 4) pa_nil)) (nomark _)) (pw_or1 (pt_cmpR op_ne (pe_call GDelete hr (by rfl) T.gDelete T.fDelete.kp T.bDelete .nil passL (pa_cons (pv 3) (pa_cons pe_str pa_nil))) (pv 3) (nomark _))))) (pss_one (ps_ret pe_bl)) pss_nil)
      (pss_cons (ps_set (i := 5) scLaw.nd rfl (Or.inl rfl) (pe_join pe_str (pe_lc (own := [("_law_sign", 9)]) (g := gName 9) rfl scLaw.nd (pi_str (pv 4)) (blkOk_by (N := ["_law_script", "_law_pen_here", "_law_turn", "_law_pattern_here", "_law_due", "_law_both", "_law_bad", "_law_one", "_law_other", "_law_sign"]) (sc := defScope sLaw) (by decide +kernel)) (fun _ _ _ _ _ => pg_name (i := 9) scLaw.nd rfl (Or.inl rfl)) (fun _ _ _ _ _ => pts_one (pt_cmpR op_notIn_sign (pv 9) (pv 8) rfl)) (fun _ _ _ _ _ => (pv 9)))))
      (pss_cons (ps_if (PW.pt (pw_or (pt_cmpR op_ne (pe_call GDelete hr (by rfl) T.gDelete T.fDelete.kp T.bDelete .nil passL (pa_cons (pv 4) (pa_cons (pv 8) pa_nil))) (pv 5) (nomark _)) (pw_or1 (pt_cmpR op_ne (pe_call GDelete hr (by rfl) T.gDelete T.fDelete.kp T.bDelete .nil passL (pa_cons (pe_call GDelete hr (by rfl) T.gDelete T.fDelete.kp T.bDelete .nil passL (pa_cons (pv 3) (pa_cons (pv 8) pa_nil))) (pa_cons (pv 7) pa_nil))) (pv 5) (nomark _))))) (pss_one (ps_ret pe_bl)) pss_nil)
      (pss_cons (ps_set (i := 6) scLaw.nd rfl (Or.inl rfl) (pe_call GLPick hr (by rfl) T.gLPick T.fLPick.kp T.bLPick .nil pass0 (pa_cons (pv 1) (pa_cons (pe_lst (pa_cons (pe_ifExp (pt_cmpR op_ne (pv 7) pe_str (nomark _)) (pe_op op_add_str (pv 7) pe_str) pe_str) (pa_cons pe_str (pa_cons pe_str (pa_cons pe_str (pa_cons pe_non (pa_cons pe_int (pa_cons pe_bl (pa_cons (pe_tup (pa_cons pe_str pa_nil)) (pa_cons (pe_lst (pa_cons pe_str pa_nil)) (pa_cons pe_dnewK pa_nil))))))))))) pa_nil))))
      (pss_one (ps_if (pt_cmpR (op_neD hr.units) (Mo.pe_callG GLRefused hr hgd (by rfl) T.gLRefused T.fLRefused.kp T.bLRefused .nil pass0 (pa_cons (pv 3) (pa_cons (pv 6) pa_nil))) (pe_tup (pa_cons (pe_callB (Mo.cr_reprD hgd hr.units) (by rfl) T.m_repr (by decide +kernel) (pa_cons (pv 6) pa_nil)) (pa_cons pe_bl pa_nil))) (nomark _)) (pss_one (ps_ret pe_bl)) pss_nil))))))))))
      (pss_one (ps_ret pe_bl)))), ?_⟩
    refine ⟨_, rfl, a, ns, rfl, hs, hn, fun H0 d c s0 nd pen0 => ?_⟩
    refine ⟨12, rfl, by decide, by decide, for_range (lo := 0) (n := 12) (fun i σ H' => ∃ (t : Nat) (o2 o3 o4 o5 o6 o7 o8 o9 : Option V), σ = [some (.ref a), some (.ref d), o2, o3, o4, o5, o6, o7, o8, o9] ∧ Pen H' d c t ∧ t ≤ 200 * i) ?_ ?_ ?_⟩
    · exact ⟨0, none, none, none, none, none, none, none, none, rfl, pen0, Nat.zero_le _⟩
    · rintro i σ H1 hi ⟨t, o2, o3, o4, o5, o6, o7, o8, o9, rfl, pen1, ht⟩
      refine ⟨_, rfl, d, c, 40, 8, t, rfl, pen1, by decide, by decide, by decide, by omega, fun H2 zs t2 but2 pen2 ht2 hz1 hz2 hz3 => ?_⟩
      have pz : Pat zs := ⟨hz1, hz2, hz3⟩
      -- two sets
      refine ⟨_, rfl, _, rfl, d, c, zs, t2, rfl, pen2, by omega, fun H3 ls t3 but3 pen3 ht3 hls => ?_⟩
      refine ⟨_, rfl, _, rfl, d, c, zs, t3, rfl, pen3, by omega, fun H4 os t4 but4 pen4 ht4 hos => ?_⟩
      refine ⟨by show 2 ≤ sizeLine; decide, fun tp ntp => ?_⟩
      refine ⟨tp, [.str (tx ls), .str (tx os)], rfl, SqT.of upd_same, rfl, _, _, rfl, _, _, rfl, rfl, ?_⟩
      have pen5 := pen4.same (same_new (o := .tup [.str (tx ls), .str (tx os)]) ntp)
      generalize upd H4 tp (.tup [.str (tx ls), .str (tx os)]) = H5 at *
      clear but2 but3 but4 pen2 pen3 pen4
      refine ⟨⟨_, rfl⟩, _, rfl, tx zs, rfl, fun Da nDa => lc_it walk_str (fun i H' => Same H5 H' ∧ H' Da = some (.lst (((zs.take i).filter fun c => !decide (c ∈ ls)).map sg))) ⟨same_new nDa, upd_same⟩ (fun _ _ _ _ => trivial) ?_ ?_⟩
      · rintro j x H6 H7 hj ⟨s6, hD⟩ ⟨rfl, e, he, rfl⟩
        rw [tx_get] at he
        have hfl : ((zs.take j).filter fun c => !decide (c ∈ ls)).length ≤ 40 := Nat.le_trans (List.length_filter_le _ _) (Nat.le_trans (by rw [List.length_take]; exact Nat.min_le_right _ _) pz.len)
        refine ⟨rfl, _, rfl, _, rfl, e, _, rfl, rfl, _, rfl, ?_⟩
        rw [tx_list]
        refine ite2 (fun z => ?_) (fun z => ?_)
        · refine ⟨_, rfl, _, hD, fitsLt (by rw [List.length_map]; omega), Same.put s6 nDa, ?_⟩
          rw [upd_same, filter_snoc he, if_pos z, List.map_append]
          rfl
        · refine ⟨s6, ?_⟩
          rw [hD, filter_snoc he, if_neg z, List.append_nil]
      rintro H6a ⟨s6a, hDa⟩
      rw [List.take_of_length_le (by rw [tx_size]; exact Nat.le_refl _)] at hDa
      refine ⟨_, Da, (rest zs ls).map fun c => (⟨#[c]⟩ : Str), rfl, rfl, .inl (SqL.of (by rw [← signs_map]; exact hDa)), signs_room (Nat.le_trans (rest_pat pz).len (by decide)), ?_⟩
      rw [join_signs]
      have pr := rest_pat (ls := ls) pz
      have rm := repr_room pr.low (Nat.le_trans pr.len (by decide))
      -- delete(pattern, one), delete(pattern, '')
      refine ⟨_, rfl, _, rfl, zs, _, rfl, pz, .inl ⟨ls, rfl, hls, fun H7 s7 => ⟨_, rfl, rm, _, rfl, _, rfl, rm, rfl, false, same_ne _, iteF ?_⟩⟩⟩
      refine ⟨_, rfl, zs, _, rfl, pz, .inl ⟨[], congrArg V.str tx_nil, nil_vset, fun H8 s8 => ?_⟩⟩
      rw [rest_nil]
      refine ⟨_, rfl, rfl, false, same_ne _, iteF ?_⟩
      -- both
      refine ⟨⟨_, rfl⟩, _, rfl, tx (rest zs ls), rfl, fun Db nDb => lc_it walk_str (fun i H' => Same H8 H' ∧ H' Db = some (.lst ((((rest zs ls).take i).filter fun c => !decide (c ∈ os)).map sg))) ⟨same_new nDb, upd_same⟩ (fun _ _ _ _ => trivial) ?_ ?_⟩
      · rintro j x H6 H7 hj ⟨s6, hD⟩ ⟨rfl, e, he, rfl⟩
        rw [tx_get] at he
        have hfl : (((rest zs ls).take j).filter fun c => !decide (c ∈ os)).length ≤ 40 := Nat.le_trans (List.length_filter_le _ _) (Nat.le_trans (by rw [List.length_take]; exact Nat.min_le_right _ _) pr.len)
        refine ⟨rfl, _, rfl, _, rfl, e, _, rfl, rfl, _, rfl, ?_⟩
        rw [tx_list]
        refine ite2 (fun z => ?_) (fun z => ?_)
        · refine ⟨_, rfl, _, hD, fitsLt (by rw [List.length_map]; omega), Same.put s6 nDb, ?_⟩
          rw [upd_same, filter_snoc he, if_pos z, List.map_append]
          rfl
        · refine ⟨s6, ?_⟩
          rw [hD, filter_snoc he, if_neg z, List.append_nil]
      rintro H6b ⟨s6b, hDb⟩
      rw [List.take_of_length_le (by rw [tx_size]; exact Nat.le_refl _)] at hDb
      refine ⟨_, Db, (rest (rest zs ls) os).map fun c => (⟨#[c]⟩ : Str), rfl, rfl, .inl (SqL.of (by rw [← signs_map]; exact hDb)), signs_room (Nat.le_trans (rest_pat pr).len (by decide)), ?_⟩
      rw [join_signs]
      -- delete(due, other), delete(delete(pattern, other), one)
      refine ⟨_, rfl, _, rfl, rest zs ls, _, rfl, pr, .inl ⟨os, rfl, hos, fun H9 s9 => ⟨_, rfl, rfl, false, same_ne _, iteF ?_⟩⟩⟩
      refine ⟨_, rfl, _, rfl, zs, _, rfl, pz, .inl ⟨os, rfl, hos, fun H10 s10 => ⟨_, rfl, rest zs os, _, rfl, rest_pat pz, .inl ⟨ls, rfl, hls, fun H11 s11 => ?_⟩⟩⟩⟩
      rw [rest_comm zs os ls]
      refine ⟨_, rfl, rfl, false, same_ne _, iteF ?_⟩
      have pen11 := (((((pen5.same s6a).same s7).same s8).same s6b).same s9).same s10 |>.same s11
      clear s6a s7 s8 s6b s9 s10 s11 hDa hDb nDa nDb pen5
      -- the bad value
      refine ⟨_, rfl, _, rfl, rfl, _, rfl, ite2 (fun e => ?A) (fun e => ?B)⟩
      case' A =>
        have hne : ls ≠ [] := fun z => neg_of e (by rw [z, ← tx_nil])
        have ha : Str.ofString "a" = tx [97] := by decide +kernel
        refine ⟨_, rfl, tx ls, Str.ofString "a", rfl, rfl, fits5 (by rw [ha, tx_len, tx_len]; have := vset_len hls; show _ + 1 ≤ _; omega), ?_⟩
        rw [show tx ls ++ Str.ofString "a" = tx (ls ++ [97]) by rw [ha, tx_app]]
        have hb1 := not_vset_a hls hne
        have hb2 : (ls ++ [97]).length ≤ 100 := by rw [List.length_append]; have := vset_len hls; show _ + 1 ≤ _; omega
        have hb3 : ∀ c ∈ ls ++ [97], c < 200 := fun c hc => (List.mem_append.mp hc).elim (fun z => by have := vset_low hls c z; omega) (fun z => by rw [List.mem_singleton.mp z]; decide)
        generalize ls ++ [97] = bs at hb1 hb2 hb3 ⊢
      case' B =>
        have hb1 : [98, 97] ≠ vset [98, 97] := by decide
        have hb2 : [98, 97].length ≤ 100 := by decide
        have hb3 : ∀ c ∈ [98, 97], c < 200 := by decide
        rw [show Str.ofString "ba" = tx [98, 97] by decide +kernel]
        generalize [98, 97] = bs at hb1 hb2 hb3 ⊢
        unfold tC
      all_goals
        refine ⟨by show 1 ≤ sizeLine; decide, fun tp1 n1 => ⟨by show 1 ≤ sizeLine; decide, fun lp n2 dp n3 => ⟨by show 10 ≤ sizeLine; decide, fun l nl => ?_⟩⟩⟩
        have sA : Str.ofString "a" = tx [97] := by decide +kernel
        have s1 := same_new (o := .tup [.str (Str.ofString "a")]) n1
        have s2 := same_new (o := .lst [.str (Str.ofString "a")]) n2
        have s3 := same_new (o := .dK []) n3
        have s4 := same_new (o := .lst [.str (tx bs), .str (Str.ofString "zz"), .str (Str.ofString "A"), .str (Str.ofString " "), .non, .int 0, .bl true, .ref tp1, .ref lp, .ref dp]) nl
        have pl := (((pen11.same s1).same s2).same s3)
        refine ⟨d, c, l, _, t4, rfl, pl.same s4, SqL.of upd_same, (pl.new nl).1, by show 0 < 10; decide, by show 10 < _; decide, by omega, fun H12 v t12 b12 p12 h12 hv => ?_⟩
        have m1 : H12 tp1 = some (.tup [.str (Str.ofString "a")]) := b12 _ _ (pen11.new n1).1 (s4 _ _ (s3 _ _ (s2 _ _ upd_same)))
        have m2 : H12 lp = some (.lst [.str (Str.ofString "a")]) := b12 _ _ ((pen11.same s1).new n2).1 (s4 _ _ (s3 _ _ upd_same))
        have m3 : H12 dp = some (.dK []) := b12 _ _ (((pen11.same s1).same s2).new n3).1 (s4 _ _ upd_same)
        obtain ⟨dd, bad⟩ : ∃ dd, ∀ H', Same H12 H' → Bad K H' v dd := by
          simp only [List.mem_cons, List.not_mem_nil, or_false] at hv
          rcases hv with rfl | rfl | rfl | rfl | rfl | rfl | rfl | rfl | rfl | rfl
          · exact ⟨_, fun H' _ => bad_text hb1 hb2 hb3⟩
          · rw [show Str.ofString "zz" = tx [122, 122] by decide +kernel]
            exact ⟨_, fun H' _ => bad_text (by decide) (by decide) (by decide)⟩
          · rw [show Str.ofString "A" = tx [65] by decide +kernel]
            exact ⟨_, fun H' _ => bad_text (by decide) (by decide) (by decide)⟩
          · rw [show Str.ofString " " = tx [32] by decide +kernel]
            exact ⟨_, fun H' _ => bad_text (by decide) (by decide) (by decide)⟩
          · exact ⟨.none, fun H' _ => ⟨.inr ⟨_, .base .non, by decide +kernel⟩, .inl .non, rfl, by decide, by decide +kernel, by decide +kernel⟩⟩
          · exact ⟨.int 0, fun H' _ => ⟨.inr ⟨_, .base (.int 0), by decide +kernel⟩, .inl (.int 0), by decide +kernel, by decide, by decide +kernel, by decide +kernel⟩⟩
          · exact ⟨.bool true, fun H' _ => ⟨.inr ⟨_, .base (.bl true), by decide +kernel⟩, .inl (.bl true), rfl, by decide, by decide +kernel, by decide +kernel⟩⟩
          · exact ⟨.tuple [.str (Str.ofString "a")], fun H' s' => ⟨.inr ⟨_, .base (.tup (s' _ _ m1)), by decide +kernel⟩, .inl (.tup (SqT.of (s' _ _ m1)) (.cons (.str _) .nil)), by decide +kernel, by decide +kernel, by decide +kernel, by decide +kernel⟩⟩
          · exact ⟨.list [.str (Str.ofString "a")], fun H' s' => ⟨.inr ⟨_, .base (.lst (s' _ _ m2)), by decide +kernel⟩, .inl (.lst (SqL.of (s' _ _ m2)) (.cons (.str _) .nil)), by decide +kernel, by decide +kernel, by decide +kernel, by decide +kernel⟩⟩
          · exact ⟨.dict [], fun H' s' => ⟨.inr ⟨_, .base (.dK (s' _ _ m3)), by decide +kernel⟩, .inr ⟨dp, rfl, s' _ _ m3, rfl⟩, by decide +kernel, by decide +kernel, by decide +kernel, by decide +kernel⟩⟩
        -- it is refused
        refine ⟨_, rfl, _, rfl, zs, v, dd, rfl, pz, bad, fun H13 p13 s13 hp13 => ?_⟩
        have bd := bad H13 s13
        refine ⟨_, rfl, v, dd, rfl, bd.dat, bd.sh, bd.dp, fits5 bd.len, by show 2 ≤ sizeLine; decide, fun p14 n14 => ?_⟩
        have s14 := same_new (o := .tup [.str dd.shown, .bl true]) n14
        have shp : SeqAt.shaped (.tuple [.str dd.shown, .bool true]) = true := by
          show ((PyData.strOk dd.shown && true) && _) = true
          rw [bd.ok]
          rfl
        refine ⟨.tuple [.str dd.shown, .bool true], .tuple [.str dd.shown, .bool true], .tup (SqT.of (s14 _ _ hp13)) (.cons (.str _) (.cons (.bl true) .nil)), .tup (SqT.of upd_same) (.cons (.str _) (.cons (.bl true) .nil)), shp, shp, false, ?_, iteF ?_⟩
        · rw [SeqAt.eqv_refl _ (SeqAt.canLay_of_shaped shp)]
          rfl
        · exact ⟨t12, _, _, _, _, _, _, _, _, rfl, (p12.same s13).same s14, by omega⟩
    · rintro σ H1 ⟨t, o2, o3, o4, o5, o6, o7, o8, o9, rfl, _⟩
      exact q H1
end
end Mo

namespace Mo
open PySem PySem.Spec PyProof.Rows L2
theorem txt_mk {K : PySem.W.Frag} {h : Heap} {mg : Str → Option Value} {fa : Addr} (X : K.In h) (G : h.Ns mainGlobals mg) (hfa : mg "law" = some (.ref fa))
    {cInvalidPattern : Addr} (eInvalidPattern : PySem.W.nsIn K mainGlobals "InvalidPattern" = some (some (.ref cInvalidPattern)))
    {cInvalidText : Addr} (eInvalidText : PySem.W.nsIn K mainGlobals "InvalidText" = some (some (.ref cInvalidText)))
    {cInvalidVariables : Addr} (eInvalidVariables : PySem.W.nsIn K mainGlobals "InvalidVariables" = some (some (.ref cInvalidVariables)))
    {nmInvalidVariables qInvalidVariables : Str} {NInvalidVariables : Addr} {bsInvalidVariables : List Value} {snInvalidVariables : List Str} {subInvalidVariables : List Value} {abInvalidVariables : Bool} {colInvalidVariables : Option Bool} {ddInvalidVariables : Option Addr} {u0InvalidVariables u1InvalidVariables u2InvalidVariables u3InvalidVariables u5InvalidVariables : Option Value}
    (xLInvalidVariables : K.lookup cInvalidVariables = some (excClassObj nmInvalidVariables qInvalidVariables cInvalidVariables NInvalidVariables bsInvalidVariables [.type "ValueError", .type "Exception", .type "BaseException", .type "object"] true snInvalidVariables subInvalidVariables abInvalidVariables colInvalidVariables ddInvalidVariables u0InvalidVariables u1InvalidVariables u2InvalidVariables u3InvalidVariables u5InvalidVariables "ValueError.__new__"))
    (saInvalidVariables : PySem.W.findIn K (.ref cInvalidVariables) "__setattr__" = some (some (.builtin "object.__setattr__")))
    (gaInvalidVariables : PySem.W.findIn K (.ref cInvalidVariables) "__getattribute__" = some (some (.builtin "BaseException.__getattribute__")))
    (ggInvalidVariables : PySem.W.findIn K (.ref cInvalidVariables) "__getattr__" = some none)
    (nbInvalidVariables : PySem.W.findIn K (.ref cInvalidVariables) "value" = some none)
    (exInvalidVariables : PySem.W.subIn K (.ref cInvalidVariables) (.type "BaseException") = some true)
    (tyInvalidVariables : PySem.W.typeIn K (.ref cInvalidVariables) = some (.type "type"))
    (hdInvalidVariables : PySem.W.hasDictIn K cInvalidVariables = true)
    (kCInvalidVariables : PySem.W.keepIn K (.ref cInvalidVariables) = true)
    (sCInvalidVariables : PySem.W.subIn K (.ref cInvalidVariables) (.ref cInvalidVariables) = some true)
    (caInvalidVariables : PySem.W.findIn K (.ref cInvalidVariables) "__class__" = some (some (.builtin "object.__class__")))
    (cnInvalidVariables : PySem.W.specialIn K (.builtin "object.__class__") "__get__" = some (some (.builtin "getset_descriptor.__get__")))
    (ctInvalidVariables : PySem.W.takesIn K (.builtin "object.__class__") = some true)
    (cmInvalidVariables : PySem.W.mroIn K cInvalidVariables (.type "object") = some true)
    {iInvalidVariables : Addr} (iCInvalidVariables : PySem.W.findIn K (.ref cInvalidVariables) "__init__" = some (some (.ref iInvalidVariables))) (tIInvalidVariables : PySem.W.typeIn K (.ref iInvalidVariables) = some (.type "function"))
    {iodInvalidVariables ianInvalidVariables : Option Addr} {islInvalidVariables : Array (Option Value)} {iocInvalidVariables ikVInvalidVariables idcInvalidVariables ipmInvalidVariables icdInvalidVariables ictInvalidVariables : Value} (iLInvalidVariables : K.lookup iInvalidVariables = some ⟨iocInvalidVariables, iodInvalidVariables, .func (PySem.W.fnOf "__init__" "InvalidVariables.__init__" (defArgs sInitInvalidVariables) (defBody sInitInvalidVariables) (defScope sInitInvalidVariables) .none ikVInvalidVariables idcInvalidVariables ipmInvalidVariables ianInvalidVariables icdInvalidVariables ictInvalidVariables), islInvalidVariables⟩) (iDInvalidVariables : PySem.W.codeIn K icdInvalidVariables "InvalidVariables.__init__" = true) (iKInvalidVariables : PySem.W.keepIn K (.ref iInvalidVariables) = true)
    (suInvalidVariablesInvalidText : PySem.W.subIn K (.ref cInvalidVariables) (.ref cInvalidText) = some false)
    (icInvalidText : PySem.W.isClsIn K cInvalidText = true)
    (itInvalidText : PySem.W.typeIn K (.ref cInvalidText) = some (.type "type"))
    (suInvalidVariablesInvalidPattern : PySem.W.subIn K (.ref cInvalidVariables) (.ref cInvalidPattern) = some false)
    (icInvalidPattern : PySem.W.isClsIn K cInvalidPattern = true)
    (itInvalidPattern : PySem.W.typeIn K (.ref cInvalidPattern) = some (.type "type"))
    (suInvalidVariablesValueError : PySem.W.subIn K (.ref cInvalidVariables) (.type "ValueError") = some true)
    {od0 an0 : Option Addr} {sl0 : Array (Option Value)} {oc0 kV0 dc0 pm0 cd0 ct0 : Value} {f0 : Addr}
    (a0 : PySem.W.nsIn K mainGlobals "is_pattern" = some (some (.ref f0))) (l0 : K.lookup f0 = some ⟨oc0, od0, .func (PySem.W.fnOf "is_pattern" "is_pattern" (defArgs sIsPattern) (defBody sIsPattern) (defScope sIsPattern) .none kV0 dc0 pm0 an0 cd0 ct0), sl0⟩) (c0 : PySem.W.codeIn K cd0 "is_pattern" = true) (k0 : PySem.W.keepIn K (.ref f0) = true)
    {od1 an1 : Option Addr} {sl1 : Array (Option Value)} {oc1 kV1 dc1 pm1 cd1 ct1 : Value} {f1 : Addr}
    (a1 : PySem.W.nsIn K mainGlobals "is_variable_set" = some (some (.ref f1))) (l1 : K.lookup f1 = some ⟨oc1, od1, .func (PySem.W.fnOf "is_variable_set" "is_variable_set" (defArgs sIsVariableSet) (defBody sIsVariableSet) (defScope sIsVariableSet) .none kV1 dc1 pm1 an1 cd1 ct1), sl1⟩) (c1 : PySem.W.codeIn K cd1 "is_variable_set" = true) (k1 : PySem.W.keepIn K (.ref f1) = true)
    {od2 an2 : Option Addr} {sl2 : Array (Option Value)} {oc2 kV2 dc2 pm2 cd2 ct2 : Value} {f2 : Addr}
    (a2 : PySem.W.nsIn K mainGlobals "check_pattern" = some (some (.ref f2))) (l2 : K.lookup f2 = some ⟨oc2, od2, .func (PySem.W.fnOf "check_pattern" "check_pattern" (defArgs sCheckPattern) (defBody sCheckPattern) (defScope sCheckPattern) .none kV2 dc2 pm2 an2 cd2 ct2), sl2⟩) (c2 : PySem.W.codeIn K cd2 "check_pattern" = true) (k2 : PySem.W.keepIn K (.ref f2) = true)
    {od3 an3 : Option Addr} {sl3 : Array (Option Value)} {oc3 kV3 dc3 pm3 cd3 ct3 : Value} {f3 : Addr}
    (a3 : PySem.W.nsIn K mainGlobals "check_variable_set" = some (some (.ref f3))) (l3 : K.lookup f3 = some ⟨oc3, od3, .func (PySem.W.fnOf "check_variable_set" "check_variable_set" (defArgs sCheckVariableSet) (defBody sCheckVariableSet) (defScope sCheckVariableSet) .none kV3 dc3 pm3 an3 cd3 ct3), sl3⟩) (c3 : PySem.W.codeIn K cd3 "check_variable_set" = true) (k3 : PySem.W.keepIn K (.ref f3) = true)
    {od4 an4 : Option Addr} {sl4 : Array (Option Value)} {oc4 kV4 dc4 pm4 cd4 ct4 : Value} {f4 : Addr}
    (a4 : PySem.W.nsIn K mainGlobals "delete" = some (some (.ref f4))) (l4 : K.lookup f4 = some ⟨oc4, od4, .func (PySem.W.fnOf "delete" "delete" (defArgs sDelete) (defBody sDelete) (defScope sDelete) .none kV4 dc4 pm4 an4 cd4 ct4), sl4⟩) (c4 : PySem.W.codeIn K cd4 "delete" = true) (k4 : PySem.W.keepIn K (.ref f4) = true)
    {od5 an5 : Option Addr} {sl5 : Array (Option Value)} {oc5 kV5 dc5 pm5 cd5 ct5 : Value} {f5 : Addr}
    (a5 : PySem.W.nsIn K mainGlobals "_law_pen" = some (some (.ref f5))) (l5 : K.lookup f5 = some ⟨oc5, od5, .func (PySem.W.fnOf "_law_pen" "_law_pen" (defArgs sLPen) (defBody sLPen) (defScope sLPen) .none kV5 dc5 pm5 an5 cd5 ct5), sl5⟩) (c5 : PySem.W.codeIn K cd5 "_law_pen" = true) (k5 : PySem.W.keepIn K (.ref f5) = true)
    {od6 an6 : Option Addr} {sl6 : Array (Option Value)} {oc6 kV6 dc6 pm6 cd6 ct6 : Value} {f6 : Addr}
    (a6 : PySem.W.nsIn K mainGlobals "_law_draw" = some (some (.ref f6))) (l6 : K.lookup f6 = some ⟨oc6, od6, .func (PySem.W.fnOf "_law_draw" "_law_draw" (defArgs sLDraw) (defBody sLDraw) (defScope sLDraw) .none kV6 dc6 pm6 an6 cd6 ct6), sl6⟩) (c6 : PySem.W.codeIn K cd6 "_law_draw" = true) (k6 : PySem.W.keepIn K (.ref f6) = true)
    {od7 an7 : Option Addr} {sl7 : Array (Option Value)} {oc7 kV7 dc7 pm7 cd7 ct7 : Value} {f7 : Addr}
    (a7 : PySem.W.nsIn K mainGlobals "_law_pick" = some (some (.ref f7))) (l7 : K.lookup f7 = some ⟨oc7, od7, .func (PySem.W.fnOf "_law_pick" "_law_pick" (defArgs sLPick) (defBody sLPick) (defScope sLPick) .none kV7 dc7 pm7 an7 cd7 ct7), sl7⟩) (c7 : PySem.W.codeIn K cd7 "_law_pick" = true) (k7 : PySem.W.keepIn K (.ref f7) = true)
    {od8 an8 : Option Addr} {sl8 : Array (Option Value)} {oc8 kV8 dc8 pm8 cd8 ct8 : Value} {f8 : Addr}
    (a8 : PySem.W.nsIn K mainGlobals "_law_names" = some (some (.ref f8))) (l8 : K.lookup f8 = some ⟨oc8, od8, .func (PySem.W.fnOf "_law_names" "_law_names" (defArgs sLNames) (defBody sLNames) (defScope sLNames) .none kV8 dc8 pm8 an8 cd8 ct8), sl8⟩) (c8 : PySem.W.codeIn K cd8 "_law_names" = true) (k8 : PySem.W.keepIn K (.ref f8) = true)
    {od9 an9 : Option Addr} {sl9 : Array (Option Value)} {oc9 kV9 dc9 pm9 cd9 ct9 : Value} {f9 : Addr}
    (a9 : PySem.W.nsIn K mainGlobals "_law_nested" = some (some (.ref f9))) (l9 : K.lookup f9 = some ⟨oc9, od9, .func (PySem.W.fnOf "_law_nested" "_law_nested" (defArgs sLNested) (defBody sLNested) (defScope sLNested) .none kV9 dc9 pm9 an9 cd9 ct9), sl9⟩) (c9 : PySem.W.codeIn K cd9 "_law_nested" = true) (k9 : PySem.W.keepIn K (.ref f9) = true)
    {od10 an10 : Option Addr} {sl10 : Array (Option Value)} {oc10 kV10 dc10 pm10 cd10 ct10 : Value} {f10 : Addr}
    (a10 : PySem.W.nsIn K mainGlobals "_law_pattern" = some (some (.ref f10))) (l10 : K.lookup f10 = some ⟨oc10, od10, .func (PySem.W.fnOf "_law_pattern" "_law_pattern" (defArgs sLPattern) (defBody sLPattern) (defScope sLPattern) .none kV10 dc10 pm10 an10 cd10 ct10), sl10⟩) (c10 : PySem.W.codeIn K cd10 "_law_pattern" = true) (k10 : PySem.W.keepIn K (.ref f10) = true)
    {od11 an11 : Option Addr} {sl11 : Array (Option Value)} {oc11 kV11 dc11 pm11 cd11 ct11 : Value} {f11 : Addr}
    (a11 : PySem.W.nsIn K mainGlobals "_law_set" = some (some (.ref f11))) (l11 : K.lookup f11 = some ⟨oc11, od11, .func (PySem.W.fnOf "_law_set" "_law_set" (defArgs sLSet) (defBody sLSet) (defScope sLSet) .none kV11 dc11 pm11 an11 cd11 ct11), sl11⟩) (c11 : PySem.W.codeIn K cd11 "_law_set" = true) (k11 : PySem.W.keepIn K (.ref f11) = true)
    {od12 an12 : Option Addr} {sl12 : Array (Option Value)} {oc12 kV12 dc12 pm12 cd12 ct12 : Value} {f12 : Addr}
    (a12 : PySem.W.nsIn K mainGlobals "_law_refused" = some (some (.ref f12))) (l12 : K.lookup f12 = some ⟨oc12, od12, .func (PySem.W.fnOf "_law_refused" "_law_refused" (defArgs sLRefused) (defBody sLRefused) (defScope sLRefused) .none kV12 dc12 pm12 an12 cd12 ct12), sl12⟩) (c12 : PySem.W.codeIn K cd12 "_law_refused" = true) (k12 : PySem.W.keepIn K (.ref f12) = true)
    {od13 an13 : Option Addr} {sl13 : Array (Option Value)} {oc13 kV13 dc13 pm13 cd13 ct13 : Value} {f13 : Addr}
    (a13 : PySem.W.nsIn K mainGlobals "law" = some (some (.ref f13))) (l13 : K.lookup f13 = some ⟨oc13, od13, .func (PySem.W.fnOf "law" "law" (defArgs sLaw) (defBody sLaw) (defScope sLaw) .none kV13 dc13 pm13 an13 cd13 ct13), sl13⟩) (c13 : PySem.W.codeIn K cd13 "law" = true) (k13 : PySem.W.keepIn K (.ref f13) = true)
    {t_VARIABLES : Tok} (z_VARIABLES : PySem.W.nsIn K mainGlobals "VARIABLES" = some (some (.str "abcdefghijklmnopqrstuvwxyz" t_VARIABLES)))
    {t_LONGEST_PATTERN : Tok} (z_LONGEST_PATTERN : PySem.W.nsIn K mainGlobals "LONGEST_PATTERN" = some (some (.int 40 t_LONGEST_PATTERN)))
    {t_MOST_VARIABLES : Tok} (z_MOST_VARIABLES : PySem.W.nsIn K mainGlobals "MOST_VARIABLES" = some (some (.int 8 t_MOST_VARIABLES)))
    (z_all : PySem.W.nsIn K mainGlobals "all" = some none)
    (z_len : PySem.W.nsIn K mainGlobals "len" = some none)
    (z_set : PySem.W.nsIn K mainGlobals "set" = some none)
    (z_isinstance : PySem.W.nsIn K mainGlobals "isinstance" = some none)
    (z_str : PySem.W.nsIn K mainGlobals "str" = some none)
    (z_list : PySem.W.nsIn K mainGlobals "list" = some none)
    (z_abs : PySem.W.nsIn K mainGlobals "abs" = some none)
    (z_range : PySem.W.nsIn K mainGlobals "range" = some none)
    (z_sorted : PySem.W.nsIn K mainGlobals "sorted" = some none)
    (z_ValueError : PySem.W.nsIn K mainGlobals "ValueError" = some none)
    (z_repr : PySem.W.nsIn K mainGlobals "repr" = some none) :
    ∃ T : Txt K mg, T.aLaw = fa ∧ ∀ (s : Shared) (v : Value), BindsTo s T.dLaw ⟨[v], []⟩ [("_law_script", v)] := by
  have e := hfa.symm.trans (PySem.W.mg_of X G a13)
  cases e
  have F0 := fun_mk (st := sIsPattern) l0 c0 k0
  have F1 := fun_mk (st := sIsVariableSet) l1 c1 k1
  have F2 := fun_mk (st := sCheckPattern) l2 c2 k2
  have F3 := fun_mk (st := sCheckVariableSet) l3 c3 k3
  have F4 := fun_mk (st := sDelete) l4 c4 k4
  have F5 := fun_mk (st := sLPen) l5 c5 k5
  have F6 := fun_mk (st := sLDraw) l6 c6 k6
  have F7 := fun_mk (st := sLPick) l7 c7 k7
  have F8 := fun_mk (st := sLNames) l8 c8 k8
  have F9 := fun_mk (st := sLNested) l9 c9 k9
  have F10 := fun_mk (st := sLPattern) l10 c10 k10
  have F11 := fun_mk (st := sLSet) l11 c11 k11
  have F12 := fun_mk (st := sLRefused) l12 c12 k12
  have F13 := fun_mk (st := sLaw) l13 c13 k13
  have FIInvalidVariables := fun_mk (st := sInitInvalidVariables) iLInvalidVariables iDInvalidVariables iKInvalidVariables
  exact ⟨⟨_, PySem.W.mg_of X G eInvalidPattern, _, PySem.W.mg_of X G eInvalidText, _, PySem.W.mg_of X G eInvalidVariables, _, _, FIInvalidVariables, FIInvalidVariables.binds (ps := ["self", "value"]) fun _ _ _ _ _ _ us hl => match us, hl with | [_, _], _ => rfl, ⟨⟨⟨_, _, _, _, _, _, _, _, _, _, _, _, _, _, _, xLInvalidVariables, by decide +kernel⟩, saInvalidVariables, exInvalidVariables, tyInvalidVariables, kCInvalidVariables⟩, ⟨gaInvalidVariables, ggInvalidVariables, exInvalidVariables, hdInvalidVariables⟩, ⟨gaInvalidVariables, ggInvalidVariables, exInvalidVariables, hdInvalidVariables, caInvalidVariables, cnInvalidVariables, ctInvalidVariables, cmInvalidVariables⟩, nbInvalidVariables, PySem.W.exm_ref exInvalidVariables hdInvalidVariables tyInvalidVariables sCInvalidVariables, iCInvalidVariables, tIInvalidVariables⟩, (kitAny_cons (kit1_ref suInvalidVariablesInvalidPattern sCInvalidVariables icInvalidPattern itInvalidPattern) (fun _ => (kitAny_cons (kit1_ref suInvalidVariablesInvalidText sCInvalidVariables icInvalidText itInvalidText) (fun _ => kitAny_nil) (fun z => nomatch z))) (fun z => nomatch z)), kit1_type suInvalidVariablesValueError (by decide +kernel), _, _, F0, F0.binds (ps := ["value"]) fun _ _ _ _ _ _ us hl => match us, hl with | [_], _ => rfl, PySem.W.mg_of X G a0, _, _, F1, F1.binds (ps := ["value"]) fun _ _ _ _ _ _ us hl => match us, hl with | [_], _ => rfl, PySem.W.mg_of X G a1, _, _, F2, F2.binds (ps := ["value"]) fun _ _ _ _ _ _ us hl => match us, hl with | [_], _ => rfl, PySem.W.mg_of X G a2, _, _, F3, F3.binds (ps := ["value"]) fun _ _ _ _ _ _ us hl => match us, hl with | [_], _ => rfl, PySem.W.mg_of X G a3, _, _, F4, F4.binds (ps := ["pattern", "letters"]) fun _ _ _ _ _ _ us hl => match us, hl with | [_, _], _ => rfl, PySem.W.mg_of X G a4, _, _, F5, F5.binds (ps := ["_law_script"]) fun _ _ _ _ _ _ us hl => match us, hl with | [_], _ => rfl, PySem.W.mg_of X G a5, _, _, F6, F6.binds (ps := ["_law_pen_here", "_law_size"]) fun _ _ _ _ _ _ us hl => match us, hl with | [_, _], _ => rfl, PySem.W.mg_of X G a6, _, _, F7, F7.binds (ps := ["_law_pen_here", "_law_options"]) fun _ _ _ _ _ _ us hl => match us, hl with | [_, _], _ => rfl, PySem.W.mg_of X G a7, _, _, F8, F8.binds (ps := ["_law_pen_here", "_law_count"]) fun _ _ _ _ _ _ us hl => match us, hl with | [_, _], _ => rfl, PySem.W.mg_of X G a8, _, _, F9, F9.binds (ps := ["_law_names_here"]) fun _ _ _ _ _ _ us hl => match us, hl with | [_], _ => rfl, PySem.W.mg_of X G a9, _, _, F10, F10.binds (ps := ["_law_pen_here", "_law_size", "_law_count"]) fun _ _ _ _ _ _ us hl => match us, hl with | [_, _, _], _ => rfl, PySem.W.mg_of X G a10, _, _, F11, F11.binds (ps := ["_law_pen_here", "_law_pattern_here"]) fun _ _ _ _ _ _ us hl => match us, hl with | [_, _], _ => rfl, PySem.W.mg_of X G a11, _, _, F12, F12.binds (ps := ["_law_pattern_here", "_law_letters"]) fun _ _ _ _ _ _ us hl => match us, hl with | [_, _], _ => rfl, PySem.W.mg_of X G a12, _, _, F13, F13.binds (ps := ["_law_script"]) fun _ _ _ _ _ _ us hl => match us, hl with | [_], _ => rfl, PySem.W.mg_of X G a13, _, PySem.W.mg_of X G z_VARIABLES, _, PySem.W.mg_of X G z_LONGEST_PATTERN, _, PySem.W.mg_of X G z_MOST_VARIABLES, PySem.W.mg_none_of X G z_all, PySem.W.mg_none_of X G z_len, PySem.W.mg_none_of X G z_set, PySem.W.mg_none_of X G z_isinstance, PySem.W.mg_none_of X G z_str, PySem.W.mg_none_of X G z_list, PySem.W.mg_none_of X G z_abs, PySem.W.mg_none_of X G z_range, PySem.W.mg_none_of X G z_sorted, PySem.W.mg_none_of X G z_ValueError, PySem.W.mg_none_of X G z_repr⟩, rfl, fun s v => .of_eq rfl⟩
theorem all_mk {l : PySem.W.OpenLaw} {w : World} {K : PySem.W.Frag} {mg : Str → Option Value} {fa : Addr} (hT : ∃ T : Txt K mg, T.aLaw = fa ∧ ∀ (s : Shared) (v : Value), BindsTo s T.dLaw ⟨[v], []⟩ [("_law_script", v)]) :
    ∃ fd : FuncData, (∀ (s : Shared) (v : Value), BindsTo s fd ⟨[v], []⟩ [("_law_script", v)]) ∧ ∀ base : Heap, K.In base → base.Ns mainGlobals mg → FnG l.prog w K mg base CX0 6 fa fd ["_law_script"] (spLaw K) := by
  obtain ⟨T, rfl, hb⟩ := hT
  exact ⟨T.dLaw, hb, fun base _ _ => ok_law (k := 0) T⟩
end Mo
open PySem PySem.W PyProof.Rows
set_option maxHeartbeats 0 in
theorem PySem.Challenge.cw_mustoccur_k03_deletion_holds : PySem.Challenge.rw_mustoccur_k03_deletion.Holds := by
  w_on; o_law; k_head; (case hw => w_witness2)
  k_fill
  refine Mo.walkG (l := PySem.Challenge.rw_mustoccur_k03_deletion) (n := 63) (k := 6) (x := "_law_script") (CX := fun _ => L2.CX0) (sp := fun w => Mo.spLaw _) rfl (by decide) rfl ⟨rfl, by decide, by decide⟩ (fun w h Y => PySem.W.kIn_of Y) ?F (fun _ _ a ns hl _ hS => ⟨a, ns, rfl, hS, hl, fun _ => rfl⟩) (fun _ _ _ _ _ h => h)
  case F =>
    intro w mg fa h KX G hmg
    refine Mo.all_mk ?_
    refine' Mo.txt_mk KX G hmg ?eInvalidPattern ?eInvalidText ?eInvalidVariables ?xLInvalidVariables ?saInvalidVariables ?gaInvalidVariables ?ggInvalidVariables ?nbInvalidVariables ?exInvalidVariables ?tyInvalidVariables ?hdInvalidVariables ?kCInvalidVariables ?sCInvalidVariables ?caInvalidVariables ?cnInvalidVariables ?ctInvalidVariables ?cmInvalidVariables ?iCInvalidVariables ?tIInvalidVariables ?iLInvalidVariables ?iDInvalidVariables ?iKInvalidVariables ?suInvalidVariablesInvalidText ?icInvalidText ?itInvalidText ?suInvalidVariablesInvalidPattern ?icInvalidPattern ?itInvalidPattern ?suInvalidVariablesValueError ?a0 ?l0 ?c0 ?k0 ?a1 ?l1 ?c1 ?k1 ?a2 ?l2 ?c2 ?k2 ?a3 ?l3 ?c3 ?k3 ?a4 ?l4 ?c4 ?k4 ?a5 ?l5 ?c5 ?k5 ?a6 ?l6 ?c6 ?k6 ?a7 ?l7 ?c7 ?k7 ?a8 ?l8 ?c8 ?k8 ?a9 ?l9 ?c9 ?k9 ?a10 ?l10 ?c10 ?k10 ?a11 ?l11 ?c11 ?k11 ?a12 ?l12 ?c12 ?k12 ?a13 ?l13 ?c13 ?k13 ?z_VARIABLES ?z_LONGEST_PATTERN ?z_MOST_VARIABLES ?z_all ?z_len ?z_set ?z_isinstance ?z_str ?z_list ?z_abs ?z_range ?z_sorted ?z_ValueError ?z_repr
    (case eInvalidPattern => k_is); (case eInvalidText => k_is); (case eInvalidVariables => k_is); (case xLInvalidVariables => k_is); (case saInvalidVariables => k_is); (case gaInvalidVariables => k_is); (case ggInvalidVariables => k_is); (case nbInvalidVariables => k_is); (case exInvalidVariables => k_is); (case tyInvalidVariables => k_is); (case hdInvalidVariables => k_is); (case kCInvalidVariables => k_is); (case sCInvalidVariables => k_is); (case caInvalidVariables => k_is); (case cnInvalidVariables => k_is); (case ctInvalidVariables => k_is); (case cmInvalidVariables => k_is); (case iCInvalidVariables => k_is); (case tIInvalidVariables => k_is); (case iLInvalidVariables => k_is); (case iDInvalidVariables => k_is); (case iKInvalidVariables => k_is); (case suInvalidVariablesInvalidText => k_is); (case icInvalidText => k_is); (case itInvalidText => k_is); (case suInvalidVariablesInvalidPattern => k_is); (case icInvalidPattern => k_is); (case itInvalidPattern => k_is); (case suInvalidVariablesValueError => k_is); (case a0 => k_is); (case l0 => k_is); (case c0 => k_is); (case k0 => k_is); (case a1 => k_is); (case l1 => k_is); (case c1 => k_is); (case k1 => k_is); (case a2 => k_is); (case l2 => k_is); (case c2 => k_is); (case k2 => k_is); (case a3 => k_is); (case l3 => k_is); (case c3 => k_is); (case k3 => k_is); (case a4 => k_is); (case l4 => k_is); (case c4 => k_is); (case k4 => k_is); (case a5 => k_is); (case l5 => k_is); (case c5 => k_is); (case k5 => k_is); (case a6 => k_is); (case l6 => k_is); (case c6 => k_is); (case k6 => k_is); (case a7 => k_is); (case l7 => k_is); (case c7 => k_is); (case k7 => k_is); (case a8 => k_is); (case l8 => k_is); (case c8 => k_is); (case k8 => k_is); (case a9 => k_is); (case l9 => k_is); (case c9 => k_is); (case k9 => k_is); (case a10 => k_is); (case l10 => k_is); (case c10 => k_is); (case k10 => k_is); (case a11 => k_is); (case l11 => k_is); (case c11 => k_is); (case k11 => k_is); (case a12 => k_is); (case l12 => k_is); (case c12 => k_is); (case k12 => k_is); (case a13 => k_is); (case l13 => k_is); (case c13 => k_is); (case k13 => k_is); (case z_VARIABLES => k_is); (case z_LONGEST_PATTERN => k_is); (case z_MOST_VARIABLES => k_is); (case z_all => k_is); (case z_len => k_is); (case z_set => k_is); (case z_isinstance => k_is); (case z_str => k_is); (case z_list => k_is); (case z_abs => k_is); (case z_range => k_is); (case z_sorted => k_is); (case z_ValueError => k_is); (case z_repr => k_is)
