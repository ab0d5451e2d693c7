import PyProof.Rows.All
import Wide.All
import OpenK.AllK
import Wide.FinOn
import HandS.ForMost
import HandS.SetKeys
import HandS.Walk
import HandS.Style
import HandS.SetFor
import HandS.IsInst
import HandS.Wide
import PyProof.Draws
import PyProof.EnumMake
import HandS.Replace
import HandS.RaiseMore
import HandS.Exc
import HandS.WordsExc
import HandS.ExcInit
import HandS.ExcField
import HandS.ExcIs
import HandS.TryOnly
import HandS.CallSlots
import HandS.ExcOwn
import PyProof.ReprRoads
import HandS.TupAny
import HandS.TupMul
import PyProof.TupleOfStr
import PyProof.NeKinds
import PyProof.EqAt
import PyProof.ReprBulk
import PyProof.Rows.StrBin
import PyProof.Rows.ReprOcc
import PyProof.ReprLen
import HandS.Ends
import HandS.EndOwn
import KE.KExcInit
import PyProof.ExcBaseAll.OverflowError
import HandS.TryMany
import HandS.Evl
import HandS.More
import KE.KEqSeq
import HandS.CallLocal
import HandS.SetTxt0
import HandS.Set
import HandS.Strs
import KE.GoesEnum
import HandS.Zip
import KE.GoesZip
import KE.GoesMore
import PyProof.Rows.TmSorted
import PyProof.Rows.StrCountLaw
import HandS.Text
import PySem.Challenge.RW_mustoccur_k70_fragments_joined
set_option Elab.async false
set_option linter.all false
set_option maxRecDepth 100000
set_option maxHeartbeats 8000000
/-! Rules that the laws of this program want and the layer lacks: repr and reversal of a text, enumerate of a text, the set of a text's signs and its size. -/
namespace Mo
open PySem PySem.Spec PyProof.Rows L2
/-! ### signs met, in the order of first occurrence -/
def metStep (acc : List Nat) (c : Nat) : List Nat := if c ∈ acc then acc else acc ++ [c]
def met (cs : List Nat) : List Nat := cs.foldl metStep []
theorem met_snoc (cs : List Nat) (c : Nat) : met (cs ++ [c]) = metStep (met cs) c := by
  unfold met
  rw [List.foldl_append]
  rfl
theorem mem_metStep {acc : List Nat} {c d : Nat} : d ∈ metStep acc c ↔ d ∈ acc ∨ d = c := by
  unfold metStep
  by_cases h : c ∈ acc
  · rw [if_pos h]
    constructor
    · exact Or.inl
    · rintro (q | q)
      · exact q
      · rw [q]; exact h
  · rw [if_neg h, List.mem_append, List.mem_singleton]
theorem mem_fold : ∀ (cs acc : List Nat) (d : Nat), d ∈ cs.foldl metStep acc ↔ d ∈ acc ∨ d ∈ cs
  | [], acc, d => by simp
  | c :: cs, acc, d => by
    rw [List.foldl_cons, mem_fold cs (metStep acc c) d, mem_metStep, List.mem_cons, or_assoc]
theorem mem_met {cs : List Nat} {d : Nat} : d ∈ met cs ↔ d ∈ cs := by
  unfold met
  rw [mem_fold]
  simp
theorem metStep_length (acc : List Nat) (c : Nat) : (metStep acc c).length = if c ∈ acc then acc.length else acc.length + 1 := by
  unfold metStep
  split <;> simp
theorem metStep_nodup {acc : List Nat} (h : acc.Nodup) (c : Nat) : (metStep acc c).Nodup := by
  unfold metStep
  by_cases q : c ∈ acc
  · rw [if_pos q]; exact h
  · rw [if_neg q]
    exact List.nodup_append.mpr ⟨h, by simp, by rintro a ha b hb rfl; exact q (by rw [← List.mem_singleton.mp hb]; exact ha)⟩
theorem fold_nodup : ∀ (cs acc : List Nat), acc.Nodup → (cs.foldl metStep acc).Nodup
  | [], _, h => h
  | c :: cs, _, h => fold_nodup cs _ (metStep_nodup h c)
theorem met_nodup (cs : List Nat) : (met cs).Nodup := fold_nodup cs [] List.nodup_nil
theorem met_length_le : ∀ cs : List Nat, (met cs).length ≤ cs.length := fun cs => by
  have key : ∀ (cs acc : List Nat), (cs.foldl metStep acc).length ≤ acc.length + cs.length := by
    intro cs
    induction cs with
    | nil => intro acc; simp
    | cons c cs ih =>
      intro acc
      rw [List.foldl_cons]
      have h1 := ih (metStep acc c)
      have h2 := metStep_length acc c
      rw [List.length_cons]
      split at h2 <;> omega
  have h := key cs []
  simpa [met] using h
/-- the keys that are signs of cs -/
def inS (cs : List Nat) (k : Key) : Bool := cs.any fun c => decide (k = Sum.inr (⟨#[c]⟩ : Str))
theorem sign_inj {c d : Nat} (h : (⟨#[c]⟩ : Str) = ⟨#[d]⟩) : c = d := by
  injection h with h
  simpa using h
theorem inS_sign (cs : List Nat) (c : Nat) : inS cs (Sum.inr ⟨#[c]⟩) = decide (c ∈ cs) := by
  unfold inS
  by_cases h : c ∈ cs
  · rw [decide_eq_true h]
    exact List.any_eq_true.mpr ⟨c, h, decide_eq_true rfl⟩
  · rw [decide_eq_false h]
    cases q : cs.any fun d => decide ((Sum.inr ⟨#[c]⟩ : Key) = Sum.inr ⟨#[d]⟩) with
    | false => rfl
    | true =>
      obtain ⟨d, hd, e⟩ := List.any_eq_true.mp q
      exact absurd (by rw [sign_inj (Sum.inr.inj (of_decide_eq_true e))]; exact hd) h
section
variable {P : Program} {w : World} {A : Around} {E : Value → Shared → Prop} {s : Shared}
theorem signs_loop {I : Addr} {fp wr : List Addr} {G : Array GenState → Array GenState → Prop} {n : Nat} {Pv : Nat → Value → Prop} {St : Nat → Shared → Prop} {R : Result → Shared → Prop}
    (W : WalksS P w A.in1 I fp wr G n Pv St) (D : Addr) (hD : D ∉ fp) (cs : List Nat) (hn : n = cs.length) (hb : cs.length + 1 < scanBound)
    (hval : ∀ i v, Pv i v → ∃ c t, cs[i]? = some c ∧ v = .str ⟨#[c]⟩ t) :
    ∀ (k i : Nat) (s : Shared), n - i = k → i ≤ n → St i s → s.heap.SetOf (mixKind P w) D (inS (cs.take i)) (met (cs.take i)).length →
      (∀ s', Moved (D :: wr) G s s' → s'.heap.SetOf (mixKind P w) D (inS cs) (met cs).length → R (.ok (.ret .none)) s') →
      codeAny (model P w) A (.builtin "set.update.loop" ⟨[.ref D, .ref I], []⟩) R s := by
  have hDw : D ∉ wr := fun h => hD (W.sub _ h)
  have up : ∀ b ∈ wr, b ∈ D :: wr := fun b q => List.mem_cons_of_mem _ q
  intro k
  induction k with
  | zero =>
    intro i s hk hi hst hS hR
    obtain rfl : i = n := by omega
    refine codeAny_builtin PyProof.Rows.F.entry_set_update_loop (by
      rw [Around.under_plainId PyProof.Rows.F.plain_set_update_loop _]
      show wpAny _ A.in1 (pyNext (.ref I) >>= _) _ _ s
      refine wpAny_bind (W.done s _ _ hst fun s' hm => wpAny_pure (hR s' (hm.mono up) ?_))
      rw [List.take_of_length_le (by omega)] at hS
      obtain ⟨o, es, ep, t, ho, rest⟩ := hS
      exact ⟨o, es, ep, t, hm.heap D _ hDw ho, rest⟩)
  | succ k ih =>
    intro i s hk hi hst hS hR
    have hlt : i < n := by omega
    refine codeAny_builtin PyProof.Rows.F.entry_set_update_loop (by
      rw [Around.under_plainId PyProof.Rows.F.plain_set_update_loop _]
      show wpAny _ A.in1 (pyNext (.ref I) >>= _) _ _ s
      refine wpAny_bind (W.item i s _ _ hlt hst fun v s' hP hst' hm => ?_)
      obtain ⟨c, t, hc, rfl⟩ := hval i v hP
      have hS' : s'.heap.SetOf (mixKind P w) D (inS (cs.take i)) (met (cs.take i)).length := by
        obtain ⟨o, es, ep, tb, ho, rest⟩ := hS
        exact ⟨o, es, ep, tb, hm.heap D _ hDw ho, rest⟩
      show wpAny _ A.in1 (holding [Value.str ⟨#[c]⟩ t] (setAdd D (.str ⟨#[c]⟩ t)) >>= _) _ _ s'
      refine wpAny_bind (wpAny_holding (by
        unfold setAdd
        refine wpAny_holding (wpAny_bind ((mixKind P w).pyHash (k := Sum.inr ⟨#[c]⟩) (mixKind_str _ _ _ _) ?_))
        have room : (met (cs.take i)).length + 1 < scanBound := by
          have h1 := met_length_le (cs.take i)
          rw [List.length_take] at h1
          omega
        refine wpAny_setAddHashed_of (knd := mixKind P w) (s := { s' with toks := s'.toks + 1 }) (mixKind_str _ _ _ _) rfl hS' room fun h' hsb hS2 => ?_
        have e3 : cs.take (i + 1) = cs.take i ++ [c] := by
          rw [List.take_add_one, hc]
          rfl
        have hS3 : h'.SetOf (mixKind P w) D (inS (cs.take (i + 1))) (met (cs.take (i + 1))).length := by
          have f1 : (fun k' => inS (cs.take i) k' || decide (k' = Sum.inr (⟨#[c]⟩ : Str))) = inS (cs.take (i + 1)) := by
            funext k'
            rw [e3]
            unfold inS
            rw [List.any_append]
            simp
          have f2 : (if inS (cs.take i) (Sum.inr ⟨#[c]⟩) = true then (met (cs.take i)).length else (met (cs.take i)).length + 1) = (met (cs.take (i + 1))).length := by
            rw [e3, met_snoc, metStep_length, inS_sign]
            by_cases q : c ∈ cs.take i
            · rw [if_pos (decide_eq_true q), if_pos (mem_met.mpr q)]
            · rw [if_neg (by rw [decide_eq_false q]; exact Bool.false_ne_true), if_neg (fun z => q (mem_met.mp z))]
          rw [← f1, ← f2]
          exact hS2
        refine wpAny_pure ⟨plainId_quiet PyProof.Rows.F.plain_set_update_loop _, ih (i + 1) _ (by omega) hlt (W.frame _ s' _ _ hst' (Nat.le_succ _) fun b q o e => ?_) hS3 fun s2 hm2 hS4 => ?_⟩
        · rw [hsb.2 b (fun z : b = D => hD (by rw [← z]; exact q))]
          exact e
        · refine hR s2 (Moved.trans W.gtrans ((hm.mono up).then_heap (Nat.le_succ _) fun b o q e => ?_) hm2) hS4
          rw [hsb.2 b (fun z : b = D => q (by rw [z]; exact List.mem_cons_self))]
          exact e)))

set_option maxHeartbeats 8000000 in
/-- set(a text) -/
theorem call_set_signs {z : Str} {t : Tok} {Q : Value → Shared → Prop} (hh : A.handled = none) (hb : z.cps.size + 1 < scanBound)
    (h : ∀ (h' : Heap) (tk : Nat), h'.SetOf (mixKind P w) s.heap.objs.size (inS z.cps.toList) (met z.cps.toList).length → (∀ b o, s.heap.get? b = some o → h'.get? b = some o) → Q (.ref s.heap.objs.size) { s with heap := h', toks := tk }) :
    wpAny (model P w) A (call (.type "set") [.str z t]) Q E s := by
  obtain ⟨c, tl, hmro⟩ := PySem.F.called_set.mro
  have hmade := PySem.F.called_set.made; have hsub := PySem.F.called_set.sub
  refine wpAny_call (codeAny_of_tree (by
    show wpAny _ _ (callAny (.type "set") _) _ _ _
    refine wpAny_pure ⟨Code.quiet_builtin _ (by decide +kernel), codeAny_builtin PySem.F.entry_type_call ?_⟩
    rw [Around.under_plain (weight_type_call_type "set" [.str z t] []) rfl]
    have h1 := PySem.F.called_set.notType; have h2 := PySem.F.called_set.canCreate
    have hct := PySem.F.typeCall_set_1 (.str z t)
    repeat (any_goals (first | assumption | wp_step))
    refine codeAny_mono (code_set_new_1 (.str z t) (E := E) (Q₁ := fun obj s₁ => ∃ led : Bool, obj = .ref s.heap.objs.size ∧ s₁ = { s with heap := s.heap.push { cls := .type "set", dict := none, data := .set #[] 0 (.fresh 0 0 led) } }) fun led => ⟨led, rfl, rfl⟩) fun r s₁ hr => ?_
    cases r with
    | error e => exact hr
    | ok fl =>
      cases fl with
      | ret obj =>
        obtain ⟨led, rfl, rfl⟩ := hr
        generalize hNew : ({ cls := .type "set", dict := none, data := .set #[] 0 (.fresh 0 0 led) } : Obj) = nw
        have hfr : ∀ (h : Heap) (a : Addr), h.get? a = some nw → h.SetOf (mixKind P w) a (inS []) (met []).length := by
          intro h a e
          rw [← hNew] at e
          exact ⟨_, #[], 0, _, e, ⟨rfl, rfl, rfl⟩, rfl, (fun e he => by simp at he), (fun k => by simp [inS]), (by decide), (by rfl), rfl⟩
        have hcls : nw.cls = .type "set" := by rw [← hNew]
        have hnf : nw.isFreed = false := by rw [← hNew]; rfl
        have hS : (s.heap.push nw).get? s.heap.objs.size = some nw := Heap.get?_push_size _ hnf
        have hT : Shared.TypeIs { s with heap := s.heap.push nw } (.ref s.heap.objs.size) "set" := ⟨_, hS, hcls⟩
        have hli := PySem.F.called_set.init.lookup; have hbi := PySem.F.called_set.init.bind (.ref s.heap.objs.size)
        repeat (any_goals (first | assumption | wp_step))
        refine codeAny_mono (codeAny_call_builtin (R := wants (fun r s₂ => r = .none ∧ ∃ h' tk, s₂ = { s with heap := h', toks := tk } ∧ h'.SetOf (mixKind P w) s.heap.objs.size (inS z.cps.toList) (met z.cps.toList).length ∧
          (∀ b o, s.heap.get? b = some o → h'.get? b = some o)) E) PySem.F.called_set.init.plain PySem.F.entry_set_init (check_set_init_1 hT ?_)) fun r₂ s₂ hr₂ => ?_
        · subst hNew
          have n1 : isSubtype (.type "str") (.type "set") = pure false := by rw [isSubtype_type]; kernel_rfl
          have n2 : isSubtype (.type "str") (.type "frozenset") = pure false := by rw [isSubtype_type]; kernel_rfl
          have n3 : (Value.type "str" == Value.type "dict") = false := by decide
          unfold Builtin.«set.__init__» noKeywords Builtin.Frozenset.updateFrom
          generalize hPI : pyIter = PI
          wp_walk
          subst hPI
          have hh3 : A.in1.in1.in1.handled = none := by simp [hh]
          generalize hNew : ({ cls := .type "set", data := .set #[] 0 (.fresh 0 0 led) } : Obj) = nw at *
          have hz1 : (s.heap.push nw).objs.size = s.heap.objs.size + 1 := Heap.size_push ..
          have fin : ∀ (ty : String) (wk : Walks P w A.in1.in1.in1 (s.heap.push nw).objs.size [(s.heap.push nw).objs.size] [(s.heap.push nw).objs.size] z.cps.size (SignAt z) (fun i h => h.IsStrIter (s.heap.push nw).objs.size ty z t i))
              (Rk : Result → Shared → Prop), (∀ h' tk, h'.SetOf (mixKind P w) s.heap.objs.size (inS z.cps.toList) (met z.cps.toList).length → (∀ b o, s.heap.get? b = some o → h'.get? b = some o) → Rk (.ok (.ret .none)) { s with heap := h', toks := tk }) →
              codeAny (model P w) A.in1.in1 (.builtin "set.update.loop" ⟨[.ref s.heap.objs.size, .ref (s.heap.push nw).objs.size], []⟩) Rk
                { s with heap := (s.heap.push nw).push { cls := .type ty, data := .fields #[.str z t, .int 0 0] } } := by
            intro ty wk Rk hR
            refine signs_loop (wk.toS) s.heap.objs.size (by rw [hz1]; simp) z.cps.toList (by simp) (by simpa using hb) (fun i v hv => ?_) (z.cps.size - 0) 0 _ (by omega) (Nat.zero_le _) ⟨_, Heap.get?_push_size _ rfl, rfl, rfl⟩ ?_ ?_
            · obtain ⟨c, u, hc, rfl⟩ := hv
              exact ⟨c, u, by rw [Array.getElem?_toList]; exact hc, rfl⟩
            · exact hfr _ _ (Heap.get?_push_of_some _ hS)
            · intro s' hm hS'
              obtain ⟨h', g', d', tk', os'⟩ := s'
              obtain rfl : g' = s.gens := hm.gens
              obtain rfl : d' = s.drawn := hm.drawn
              obtain rfl : os' = s.os := hm.os
              refine hR h' tk' hS' fun b o e => ?_
              have hb0 : b < s.heap.objs.size := Heap.lt_size e
              have n1 : b ∉ s.heap.objs.size :: [(s.heap.push nw).objs.size] := by
                rw [hz1]
                intro q
                rcases List.mem_cons.mp q with q | q
                · exact Nat.ne_of_lt hb0 q
                · exact Nat.ne_of_lt (Nat.lt_succ_of_lt hb0) (List.mem_singleton.mp q)
              exact hm.heap b o n1 (Heap.get?_push_of_some _ (Heap.get?_push_of_some _ e))
          cases ha : z.cps.all (· < 128)
          · refine wpAny_pyIter_wide ha (wpAny_bind (wpAny_runValue (fin _ (Walks.strWide hh3 _ z t) _ fun h' tk hS2 hk2 => wpAny_pure ?_)))
            exact wpAny_pure ⟨rfl, h', tk, rfl, hS2, hk2⟩
          · refine wpAny_pyIter_ascii ha (wpAny_bind (wpAny_runValue (fin _ (Walks.strAscii hh3 _ z t) _ fun h' tk hS2 hk2 => wpAny_pure ?_)))
            exact wpAny_pure ⟨rfl, h', tk, rfl, hS2, hk2⟩
        · cases r₂ with
          | error e => exact hr₂
          | ok fl₂ =>
            cases fl₂ with
            | ret r =>
              obtain ⟨rfl, h', tk, rfl, hS', hk'⟩ := hr₂
              repeat (any_goals (first | assumption | wp_step))
              exact h _ _ hS' hk'
            | _ => exact hr₂.elim
      | _ => exact hr.elim))
end
end Mo

namespace Mo
open PySem PySem.Spec PyProof.Rows L2
/-! ### the rules over the layer -/
section
variable {X : Cx}
def rSetS (P : Program) (w : World) : List V → Hp → VK → Prop := fun xs H Q => ∃ z : Str, xs = [.str z] ∧ z.cps.size ≤ 4000 ∧ ∀ p, H p = none → Q (.ref p) (upd H p (SetK P w p (inS z.cps.toList) (met z.cps.toList).length))
/-- set(z), z a text -/
theorem cr_setS (hc : X.calm = true) : CallR X (.type "set") (rSetS X.prog X.w) := by
  intro pins s σ H xs us Q I r h
  obtain ⟨z, rfl, hz, q⟩ := h
  obtain ⟨u, rfl, t, rfl⟩ := vals1 r
  refine call_set_signs (I.ok.hd hc) (by unfold scanBound; omega) fun h' tk hS hk => ?_
  exact ⟨.ref _, _, I.laid (t' := tk) hk (Nat.le_refl _) (setK_new hS), rfl, q _ (I.hok.fresh (Nat.le_refl _))⟩
def rLenK (P : Program) (w : World) : List V → Hp → VK → Prop := fun xs H Q => ∃ a S n, xs = [V.ref a] ∧ H a = some (SetK P w a S n) ∧ (n : Int) < 2 ^ 62 ∧ Q (.int (n : Nat)) H
/-- len(a set) -/
theorem cr_lenK : CallR X (.builtin "len") (rLenK X.prog X.w) := by
  intro pins s σ H xs us Q I r h
  obtain ⟨a, S, n, rfl, ha, hn, q⟩ := h
  obtain ⟨u, rfl, ru⟩ := vals1 r
  cases ru
  obtain ⟨o, es, ep, t, ho, hex, hd, _, _, _, hf, hes⟩ := setK_get I ha
  refine call_len_set ho hex hd hf (by rw [hes]; omega) ⟨.int (n : Nat), H, I.tok _, ⟨_, by rw [hes]⟩, q⟩
/-- repr(z), z a text -/
theorem cr_reprS : CallR X (.builtin "repr") (fun xs H Q => ∃ z : Str, xs = [.str z] ∧ (reprText z).length ≤ sizeLine ∧ Q (.str (reprText z)) H) := by
  intro pins s σ H xs us Q I r h
  obtain ⟨z, rfl, hz, q⟩ := h
  obtain ⟨u, rfl, t, rfl⟩ := vals1 r
  exact PySem.P.repr_of_str ⟨.str _, H, I.tok _, ⟨_, rfl⟩, q⟩ hz
/-! rules within a comprehension's block: the written part named, so that the reading is the same in every block -/
def rLenSq (K : PySem.W.Frag) : List V → Hp → VK → Prop := fun xs H Q => ∃ p ys, xs = [.ref p] ∧ (SqL K H p ys ∨ SqT K H p ys) ∧ Q (.int ys.length) H
theorem call_len_seqK {K : PySem.W.Frag} (h : X.K = K) : CallR X (.builtin "len") (rLenSq K) := by
  subst h
  exact call_len_seq
theorem ix_listK {K : PySem.W.Frag} (h : X.K = K) : IxR X (rIxL K) := by
  subst h
  exact ix_list
theorem op_notIn_seqK {K : PySem.W.Frag} (h : X.K = K) : OpR X (compareOp .NotIn) (rIn K true) := by
  subst h
  exact op_notIn_seq
theorem op_in_seqK {K : PySem.W.Frag} (h : X.K = K) : OpR X (compareOp .In) (rIn K false) := by
  subst h
  exact op_in_seq
theorem pg_tupK {K : PySem.W.Frag} {es : List Expr} {t : TGs} {k n : Nat} {pos : Pos} (h : X.K = K) (hc : X.calm = true) (hs : PGs X es t)
    (hn : (assignEach es X.env).length = n := by rfl) (hst : (assignEach es X.env).findIdx? (·.1) = none := by rfl) : PG X (.Tuple es k pos) (gTup K n t) := by
  subst h
  exact pg_tup hc hs hn hst
/-- z[::-1], z a text -/
def revS (z : Str) : Str := ⟨z.cps.toList.reverse.toArray⟩
def tRevS (te : TE) : TE := fun σ H Q => te σ H fun x H1 => ∃ z, x = .str z ∧ z.length ≤ sizeLine ∧ Q (.str (revS z)) H1
theorem back_idx (n : Nat) : Builtin.Str.strSliceIndices none none (-1) n = (List.range n).reverse := by
  show sliceRange ((n : Int) - 1) (-1) (-1) = _
  rw [PySem.W.krv_sliceRange, PySem.W.krv_range]
theorem back_pick (z : Str) : ((Builtin.Str.strSliceIndices none none (-1) z.length).filterMap (z.cps[·]?)).toArray = z.cps.toList.reverse.toArray := by
  rw [back_idx, List.filterMap_reverse]
  show ((List.range z.cps.size).filterMap (z.cps[·]?)).reverse.toArray = _
  rw [PySem.W.krv_all]
theorem pe_revS {e : Expr} {te : TE} {k : Nat} {p1 p2 p3 pos : Pos} (he : PE X e te) : PE X (.Subscript e (.Slice none none (some (.UnaryOp .USub (.Constant (.int 1) k p1) p2)) p3) pos) (tRevS te) := by
  refine ⟨fun pins s σ H Q I h => ?_⟩
  refine Subscript_ (thn (he.run pins s σ H _ I h) fun v s1 ⟨x, H1, I1, r1, z, ez, hz, q⟩ => ?_)
  subst ez
  obtain ⟨t, rfl⟩ := r1
  have hst : PO X (some (.UnaryOp .USub (.Constant (.int 1) k p1) p2)) (tPart (tUn (rU fun i => .int (-i)) (tC (.int 1)))) := po_some (pe_un un_neg pe_int)
  refine wpAny_Slice (thn (po_none.run pins s1 σ H1 (fun o H2 => o = none ∧ H2 = H1) I1 ⟨rfl, rfl⟩) fun vl s2 ⟨l, H2, I2, pl, el, e2⟩ => ?_)
  subst el e2
  refine thn (po_none.run pins s2 σ H2 (fun o H3 => o = none ∧ H3 = H2) I2 ⟨rfl, rfl⟩) fun vu s3 ⟨u, H3, I3, pu, eu, e3⟩ => ?_
  subst eu e3
  refine thn (hst.run pins s3 σ H3 (fun o H4 => o = some (-1) ∧ H4 = H3) I3 ⟨1, rfl, -1, rfl, rfl, rfl⟩) fun vs s4 ⟨o, H4, I4, ps, eo, e4⟩ => ?_
  subst eo e4
  have I5 : Inv X pins σ H4 { s4 with heap := s4.heap.push { cls := .type "slice", data := .fields #[vl, vu, vs] } } := I4.kept (t' := s4.toks) fun b ob q => Heap.get?_push_of_some _ q
  obtain ⟨l, rfl, el⟩ := IsPart.raw pl
  obtain ⟨u, rfl, eu⟩ := IsPart.raw pu
  obtain ⟨sp, rfl, es⟩ := IsPart.raw ps
  show wpAny (model X.prog X.w) X.A (subscriptTail e (.Slice none none (some (.UnaryOp .USub (.Constant (.int 1) k p1) p2)) p3) (.str z t) (.ref s4.heap.objs.size)) (EP X pins σ Q) X.xe { s4 with heap := s4.heap.push { cls := .type "slice", data := .fields #[partValue l, partValue u, partValue sp] } }
  refine tail_any (ops := [.str z t, .ref s4.heap.objs.size]) (typeIs_str _ _ _) (F.slot_str_getitem.lookup) ?_ (by with_unfolding_all rfl)
  refine wpAny_getItem_str_slice (l := l) (u := u) (st := sp) ⟨_, Heap.get?_push_size _ rfl, rfl, rfl⟩ (by rw [es]; rfl) ?_
  unfold sliceMade slicePicked
  rw [el, eu, es]
  show Made.post (Made.str ⟨((Builtin.Str.strSliceIndices none none (-1) z.length).filterMap (z.cps[·]?)).toArray⟩) (EP X pins σ Q) _
  rw [back_pick]
  refine ⟨?_, .str (revS z), H4, I5.tok _, ⟨_, rfl⟩, q⟩
  show (z.cps.toList.reverse.toArray).size ≤ sizeLine
  rw [List.size_toArray, List.length_reverse, Array.length_toList]
  exact hz
/-! ### enumerate(z), z a text -/
def IteS (z : Str) : It := ⟨fun i _ => i < z.cps.size, fun i H v H' => ∃ T c, v = .ref T ∧ H T = none ∧ z.cps[i]? = some c ∧ H' = upd H T (.tup [.int (i : Nat), .str ⟨#[c]⟩]), fun i _ => z.cps.size ≤ i⟩
theorem strIter_kind (z : Str) : strIterType z = "str_ascii_iterator" ∨ strIterType z = "str_iterator" := by
  unfold strIterType
  split
  · exact .inl rfl
  · exact .inr rfl
theorem draws_str {P : Program} {w : World} {A : Around} (hh : A.handled = none) (it : Addr) (z : Str) (t : Tok) :
    Draws P w A it [it] z.cps.size (fun i v => ∃ c u, z.cps[i]? = some c ∧ v = .str ⟨#[c]⟩ u) (fun i h => h.IsStrIter it (strIterType z) z t i) := by
  rcases strIter_kind z with e | e
  · rw [e]; exact Draws.strAscii hh it z t
  · rw [e]; exact Draws.strWide hh it z t
theorem turn_enumS {P : Program} {w : World} {K : PySem.W.Frag} {elts : List Expr} {kk : Nat} {tpos : Pos} (z : Str) (t : Tok) (e it : Addr) :
    Turn P w K (.Tuple elts kk tpos) (IteS z) [e, it] e (fun i h => (∃ old, IsEnum h e it ((i : Nat) : Int) old) ∧ h.IsStrIter it (strIterType z) z t i ∧ e ≠ it ∧ i ≤ z.cps.size) where
  mem := by simp
  obj := fun i h st b hb => by
    obtain ⟨⟨old, he⟩, ⟨o, ho, hc, hd⟩, _⟩ := st
    rcases (by simpa using hb : b = e ∨ b = it) with q | q
    · rw [q]; exact ⟨_, he, fun v q => nomatch q⟩
    · rw [q]; exact ⟨o, ho, fun v q => by rw [hd] at q; cases q⟩
  keep := fun i h h' st k => let ⟨⟨old, he⟩, ⟨o, ho, r⟩, hne⟩ := st; ⟨⟨old, k e (by simp) _ he⟩, ⟨o, k it (by simp) o ho, r⟩, hne⟩
  item := by
    intro X hP hw hK hc i pins s σ H E I hf st hg
    subst hP hw hK
    obtain ⟨⟨old, he⟩, hit, hne, hle⟩ := st
    have hi : i < z.cps.size := hg
    have hel : e < s.heap.objs.size := Heap.lt_size he
    have hil : it < s.heap.objs.size := by obtain ⟨_, q, _⟩ := hit; exact Heap.lt_size q
    have hh : X.A.in1.handled = none := by simpa using I.ok.hd hc
    refine wpAny_pyNext_enum_itemD (draws_str hh it z t) he hit hi hne (by simpa using hne) fun x h' tk hP ho hit' hT hsz hk => ?_
    obtain ⟨c, u, hcx, rfl⟩ := hP
    refine ⟨_, rfl, wpAny_letOwnedTupleGo_enum (s := { s with heap := h', toks := tk + 1 }) ho fun h2 he' sb => ?_⟩
    have hT2 := (sb.2 _ (Nat.ne_of_gt hel)).trans hT
    have new : ObjOk X.prog X.w (upd H s.heap.objs.size (.tup [.int (i : Nat), .str ⟨#[c]⟩])) h2 s.heap.objs.size (.tup [.int (i : Nat), .str ⟨#[c]⟩]) :=
      ⟨by show 2 ≤ sizeLine; decide, [.int i tk, .str ⟨#[c]⟩ u], .cons ⟨_, rfl⟩ (.cons ⟨_, rfl⟩ .nil), ⟨_, hT2, rfl, _, rfl⟩⟩
    have I1 : Inv X pins σ (upd H s.heap.objs.size (.tup [.int (i : Nat), .str ⟨#[c]⟩])) { s with heap := h2, toks := tk + 1 } :=
      I.turnedNew (ch := [e, it]) (fun b ob hb q => (sb.2 b (fun z => hb (by simp [z]))).trans (hk b ob (fun z => hb (by simp [z])) (fun z => hb (by simp [z])) q)) hf (Nat.le_refl _) new
    obtain ⟨oi, hoi, r⟩ := hit'
    refine ⟨.ref s.heap.objs.size, _, I1, rfl, ⟨_, c, rfl, I.hok.fresh (Nat.le_refl _), hcx, rfl⟩, ⟨⟨.str ⟨#[c]⟩ u, ?_⟩, ⟨oi, (sb.2 it (Ne.symm hne)).trans hoi, r⟩, hne, hi⟩, fun b hb => ?_⟩
    · have e1 : ((i + 1 : Nat) : Int) = (i : Int) + 1 := by omega
      rw [e1]; exact he'
    · have hb' : b < s.heap.objs.size := by
        rcases (by simpa using hb : b = e ∨ b = it) with q | q
        · rw [q]; exact hel
        · rw [q]; exact hil
      rw [upd_ne (Nat.ne_of_lt hb')]
      exact (hf b hb).1
  done := by
    intro X hP hw hK hc i pins s σ H E I hf st hg
    subst hP hw hK
    obtain ⟨⟨old, he⟩, hit, hne, hle⟩ := st
    have hi : i = z.cps.size := Nat.le_antisymm hle hg
    subst hi
    obtain ⟨f0, f1, f2, f3, f4, f5⟩ := hf it (by simp)
    have hh : X.A.in1.handled = none := by simpa using I.ok.hd hc
    exact wpAny_pyNext_enum_endD (draws_str hh it z t) he hit fun h' eb => ⟨rfl, I.turned (t' := s.toks) (fun b o hb q => eb b o hb q) f0 f1 f3 f4 f5⟩
  self := fun A i s Q E st h => let ⟨⟨_, he⟩, _⟩ := st; wpAny_pyIter_enum he h
def iEnumS (ta : TA) : TI := fun σ H R => ta σ H fun vs H1 => ∃ z : Str, vs = [.str z] ∧ R (IteS z) H1
theorem pi_enumS {e : Expr} {ta : TA} {p pos tpos : Pos} {elts : List Expr} {kk : Nat} (hg : Gl X "enumerate") (hm : X.mg "enumerate" = none) (ha : PA X [e] ta) (hs : starEach [e] X.env = [(false, eval e X.env)] := by rfl) :
    PI X (.Tuple elts kk tpos) (.Call (.Name "enumerate" p) [e] [] pos) (iEnumS ta) := by
  refine ⟨fun pins s σ H R I h => ?_⟩
  refine Call_ (ld_blt I hg hm boot_enumerate (PyProof.Rows.callWith_type1 (thn (ha.run pos pins s σ H _ I h) fun us s1 ⟨vs, H1, I1, r1, q1⟩ => ?_) hs rfl))
  obtain ⟨z, rfl, q⟩ := q1
  obtain ⟨u, rfl, t, rfl⟩ := vals1 r1
  refine call_enumerate_str fun h' he hit hsz hk => wpAny_pyIter_enum he ?_
  have I2 : Inv X pins σ H1 { s1 with heap := h' } := I1.kept (t' := s1.toks) hk
  refine ⟨s1.heap.objs.size + 1, [s1.heap.objs.size + 1, s1.heap.objs.size], _, _, H1, rfl, I2, turn_enumS z t (s1.heap.objs.size + 1) s1.heap.objs.size, ⟨⟨.none, he⟩, hit, Nat.succ_ne_self _, Nat.zero_le _⟩, fun b hb => ?_, q⟩
  have hle : s1.heap.objs.size ≤ b := by
    rcases (by simpa using hb : b = s1.heap.objs.size + 1 ∨ b = s1.heap.objs.size) with q | q
    · rw [q]; exact Nat.le_add_right _ _
    · rw [q]; exact Nat.le_refl _
  exact I1.fpOk hle (I1.hok.fresh hle)
theorem walk_enumS {z : Str} : Walk (IteS z) z.cps.size (fun _ => True) (YPair (fun i => some (.int (i : Nat))) (fun i => z.cps[i]?.map fun c => .str ⟨#[c]⟩)) :=
  ⟨fun _ _ hi _ => hi, fun _ _ => Nat.le_refl _, fun i H v H' _ _ ⟨T, c, h1, h2, h3, h4⟩ => ⟨T, .int (i : Nat), .str ⟨#[c]⟩, h1, h2, h4, rfl, by show Option.map _ z.cps[i]? = _; rw [h3]; rfl⟩⟩
end
end Mo

namespace Mo
open PySem PySem.Spec PyProof.Rows L2
/-! ### texts as lists of codes -/
def tx (cs : List Nat) : Str := ⟨cs.toArray⟩
abbrev sg (c : Nat) : V := .str ⟨#[c]⟩
theorem tx_eta (z : Str) : tx z.cps.toList = z := rfl
theorem tx_list (cs : List Nat) : (tx cs).cps.toList = cs := rfl
theorem tx_len (cs : List Nat) : (tx cs).length = cs.length := by show cs.toArray.size = _; simp
theorem tx_size (cs : List Nat) : (tx cs).cps.size = cs.length := by show cs.toArray.size = _; simp
theorem tx_inj {a b : List Nat} (h : tx a = tx b) : a = b := by
  have q := congrArg (fun z : Str => z.cps.toList) h
  exact q
theorem tx_app (a b : List Nat) : tx a ++ tx b = tx (a ++ b) := by
  show (⟨a.toArray ++ b.toArray⟩ : Str) = ⟨(a ++ b).toArray⟩
  simp
theorem tx_app1 (a : List Nat) (c : Nat) : tx a ++ (⟨#[c]⟩ : Str) = tx (a ++ [c]) := tx_app a [c]
theorem tx_get {cs : List Nat} {i : Nat} : (tx cs).cps[i]? = cs[i]? := by
  show cs.toArray[i]? = cs[i]?
  simp
theorem fits5 {n : Nat} (h : n ≤ 100000) : n ≤ sizeLine := Nat.le_trans h (by decide)
theorem fitsLt {n : Nat} (h : n ≤ 100000) : n < sizeLine := Nat.lt_of_le_of_lt h (by decide)
/-- small letters alone -/
def Low (cs : List Nat) : Prop := ∀ c ∈ cs, 97 ≤ c ∧ c ≤ 122
theorem tx_nil : Str.ofString "" = tx [] := by decide +kernel
theorem join_signs : ∀ cs : List Nat, Txt.join (Str.ofString "") (cs.map fun c => (⟨#[c]⟩ : Str)) = tx cs := by
  have key : ∀ cs : List Nat, Str.join (tx []) (cs.map fun c => (⟨#[c]⟩ : Str)) = tx cs := by
    intro cs
    induction cs with
    | nil => rfl
    | cons c r ih =>
      cases r with
      | nil => rfl
      | cons e r =>
        show (⟨#[c]⟩ : Str) ++ tx [] ++ Str.join (tx []) ((e :: r).map fun c => (⟨#[c]⟩ : Str)) = tx (c :: e :: r)
        rw [ih]
        show tx [c] ++ tx [] ++ tx (e :: r) = _
        rw [tx_app, tx_app]
        rfl
  intro cs
  show Builtin.Str.glued _ _ = _
  rw [StrLaws.glued_eq_join, tx_nil]
  exact key cs
/-! ### the pen -/
def penD (c : Addr) (t r : Int) : List (Key × V) := [(.inr "cells", .ref c), (.inr "turn", .int t), (.inr "rest", .int r)]
theorem k_ct : ¬ ((Sum.inr "cells" : Key) = (Sum.inr "turn" : Key)) := by decide +kernel
theorem k_cr : ¬ ((Sum.inr "cells" : Key) = (Sum.inr "rest" : Key)) := by decide +kernel
theorem k_tr : ¬ ((Sum.inr "turn" : Key) = (Sum.inr "rest" : Key)) := by decide +kernel
theorem pen_cells (c : Addr) (t r : Int) : valV (penD c t r) (Sum.inr "cells") = some (.ref c) := valV_pos rfl
theorem pen_turn (c : Addr) (t r : Int) : valV (penD c t r) (Sum.inr "turn") = some (.int t) := by
  unfold penD
  rw [valV_neg k_ct, valV_pos rfl]
theorem pen_rest (c : Addr) (t r : Int) : valV (penD c t r) (Sum.inr "rest") = some (.int r) := by
  unfold penD
  rw [valV_neg k_cr, valV_neg k_tr, valV_pos rfl]
theorem put_turn (c : Addr) (t r u : Int) : putK (penD c t r) (Sum.inr "turn") (.int u) = penD c u r := by
  unfold putK penD
  have k1 := k_ct
  have k2 : ¬ ((Sum.inr "rest" : Key) = (Sum.inr "turn" : Key)) := fun e => k_tr e.symm
  simp only [List.any_cons, List.map_cons, List.map_nil, k1, k2, if_false, if_true, decide_true, decide_false, Bool.true_or, Bool.or_true, Bool.false_or]
theorem put_rest (c : Addr) (t r u : Int) : putK (penD c t r) (Sum.inr "rest") (.int u) = penD c t u := by
  unfold putK penD
  have k1 := k_cr
  have k2 := k_tr
  simp only [List.any_cons, List.map_cons, List.map_nil, k1, k2, if_false, if_true, decide_true, decide_false, Bool.true_or, Bool.or_true, Bool.false_or]
theorem pen_merge (c : Addr) (t r : Int) : mergeK [] (penD c t r) = penD c t r := by
  have k1 := k_ct
  have k2 := k_cr
  have k3 := k_tr
  simp only [mergeK, penD, putK, List.foldl_cons, List.foldl_nil, List.any_nil, List.any_cons, List.nil_append, List.cons_append, k1, k2, k3, decide_false, Bool.or_false, Bool.false_eq_true, if_false]
/-- the pen at d, its cells at c, t draws done -/
def Pen (H : Hp) (d c : Addr) (t : Nat) : Prop := ∃ (ns : List Int) (r : Int), H d = some (.dK (penD c t r)) ∧ H c = some (.lst (ns.map V.int)) ∧ ns.length ≤ 63 ∧ 0 ≤ r
theorem Pen.ne {H : Hp} {d c : Addr} {t : Nat} (h : Pen H d c t) : d ≠ c := by
  obtain ⟨ns, r, h1, h2, _⟩ := h
  exact ne_of h1 h2 (by intro z; cases z)
/-- all but d is as it was -/
def But (d : Addr) (H H' : Hp) : Prop := ∀ b o, b ≠ d → H b = some o → H' b = some o
theorem But.refl (d : Addr) (H : Hp) : But d H H := fun _ _ _ h => h
theorem But.trans {d : Addr} {H H1 H2 : Hp} (a : But d H H1) (b : But d H1 H2) : But d H H2 := fun c o n h => b c o n (a c o n h)
theorem But.same {d : Addr} {H H1 : Hp} (a : Same H H1) : But d H H1 := fun c o _ h => a c o h
theorem But.none {d : Addr} {H H1 : Hp} (a : But d H H1) {p : Addr} (h : H1 p = none) (n : p ≠ d) : H p = none := by
  cases q : H p with
  | none => rfl
  | some o =>
    rw [a p o n q] at h
    cases h
theorem Pen.new {H : Hp} {d c : Addr} {t : Nat} (h : Pen H d c t) {p : Addr} (hp : H p = none) : p ≠ d ∧ p ≠ c := by
  obtain ⟨ns, r, h1, h2, _⟩ := h
  exact ⟨(ne_of_none h1 hp).symm, (ne_of_none h2 hp).symm⟩
theorem Pen.upd {H : Hp} {d c : Addr} {t : Nat} (h : Pen H d c t) {p : Addr} {o : HO} (h1 : p ≠ d) (h2 : p ≠ c) : Pen (upd H p o) d c t := by
  obtain ⟨ns, r, e1, e2, e3⟩ := h
  exact ⟨ns, r, by rw [upd_ne h1.symm]; exact e1, by rw [upd_ne h2.symm]; exact e2, e3⟩
theorem Pen.same {H H' : Hp} {d c : Addr} {t : Nat} (h : Pen H d c t) (s : Same H H') : Pen H' d c t := by
  obtain ⟨ns, r, e1, e2, e3⟩ := h
  exact ⟨ns, r, s _ _ e1, s _ _ e2, e3⟩
theorem same_new {H : Hp} {p : Addr} {o : HO} (h : H p = none) : Same H (L2.upd H p o) := fun b x e => by
  rw [upd_ne (ne_of_none e h)]
  exact e
theorem But.set {d : Addr} {H : Hp} {o : HO} : But d H (L2.upd H d o) := fun b x n e => by
  rw [upd_ne n]
  exact e
theorem But.put {d : Addr} {H H' : Hp} {o : HO} (b : But d H H') {D : Addr} (n : H D = Option.none) : But d H (L2.upd H' D o) := fun x y nx e => by
  rw [upd_ne (ne_of_none e n)]
  exact b x y nx e
theorem Same.put {H H' : Hp} {o : HO} (b : Same H H') {D : Addr} (n : H D = Option.none) : Same H (L2.upd H' D o) := fun x y e => by
  rw [upd_ne (ne_of_none e n)]
  exact b x y e
theorem pen_set {H : Hp} {d c : Addr} {t : Nat} (h : Pen H d c t) {u : Nat} {r : Int} (hr : 0 ≤ r) : Pen (L2.upd H d (.dK (penD c u r))) d c u := by
  have n := h.ne
  obtain ⟨ns, r0, e1, e2, e3, _⟩ := h
  exact ⟨ns, r, upd_same, by rw [upd_ne n.symm]; exact e2, e3, hr⟩
def spDraw : Sp := fun vs H Q _ => ∃ (d c : Addr) (n : Int) (t : Nat), vs = [.ref d, .int n] ∧ Pen H d c t ∧ 0 < n ∧ n < 1073741824 ∧ t < 1073741824 ∧
  ∀ H' k t', But d H H' → Pen H' d c t' → t' ≤ t + 1 → 0 ≤ k → k < n → Q (.int k) H'
def spPick (K : PySem.W.Frag) : Sp := fun vs H Q _ => ∃ (d c l : Addr) (xs : List V) (t : Nat), vs = [.ref d, .ref l] ∧ Pen H d c t ∧ SqL K H l xs ∧ l ≠ d ∧ 0 < xs.length ∧ xs.length < 1073741824 ∧ t < 1073741824 ∧
  ∀ H' v t', But d H H' → Pen H' d c t' → t' ≤ t + 1 → v ∈ xs → Q v H'
end Mo

namespace Mo
open PySem PySem.Spec PyProof.Rows L2
/-! ### the pen -/
def srcD (c : Addr) (t r : Int) : List (Key × V) := [(.inr "cells", .ref c), (.inr "index", .int t), (.inr "rest", .int r)]
theorem s_ct : ¬ ((Sum.inr "cells" : Key) = (Sum.inr "index" : Key)) := by decide +kernel
theorem s_cr : ¬ ((Sum.inr "cells" : Key) = (Sum.inr "rest" : Key)) := by decide +kernel
theorem s_tr : ¬ ((Sum.inr "index" : Key) = (Sum.inr "rest" : Key)) := by decide +kernel
theorem src_cells (c : Addr) (t r : Int) : valV (srcD c t r) (Sum.inr "cells") = some (.ref c) := valV_pos rfl
theorem src_index (c : Addr) (t r : Int) : valV (srcD c t r) (Sum.inr "index") = some (.int t) := by
  unfold srcD
  rw [valV_neg s_ct, valV_pos rfl]
theorem src_rest (c : Addr) (t r : Int) : valV (srcD c t r) (Sum.inr "rest") = some (.int r) := by
  unfold srcD
  rw [valV_neg s_cr, valV_neg s_tr, valV_pos rfl]
theorem sput_index (c : Addr) (t r u : Int) : putK (srcD c t r) (Sum.inr "index") (.int u) = srcD c u r := by
  unfold putK srcD
  have k1 := s_ct
  have k2 : ¬ ((Sum.inr "rest" : Key) = (Sum.inr "index" : Key)) := fun e => s_tr e.symm
  simp only [List.any_cons, List.map_cons, List.map_nil, k1, k2, if_false, if_true, decide_true, decide_false, Bool.true_or, Bool.or_true, Bool.false_or]
theorem sput_rest (c : Addr) (t r u : Int) : putK (srcD c t r) (Sum.inr "rest") (.int u) = srcD c t u := by
  unfold putK srcD
  have k1 := s_cr
  have k2 := s_tr
  simp only [List.any_cons, List.map_cons, List.map_nil, k1, k2, if_false, if_true, decide_true, decide_false, Bool.true_or, Bool.or_true, Bool.false_or]
theorem src_merge (c : Addr) (t r : Int) : mergeK [] (srcD c t r) = srcD c t r := by
  have k1 := s_ct
  have k2 := s_cr
  have k3 := s_tr
  simp only [mergeK, srcD, putK, List.foldl_cons, List.foldl_nil, List.any_nil, List.any_cons, List.nil_append, List.cons_append, k1, k2, k3, decide_false, Bool.or_false, Bool.false_eq_true, if_false]
/-- the pen at d, its cells at c, t draws done -/
def Src (H : Hp) (d c : Addr) (t : Nat) : Prop := ∃ (ns : List Int) (r : Int), H d = some (.dK (srcD c t r)) ∧ H c = some (.lst (ns.map V.int)) ∧ ns.length ≤ 63 ∧ 0 ≤ r
theorem Src.ne {H : Hp} {d c : Addr} {t : Nat} (h : Src H d c t) : d ≠ c := by
  obtain ⟨ns, r, h1, h2, _⟩ := h
  exact ne_of h1 h2 (by intro z; cases z)
theorem Src.new {H : Hp} {d c : Addr} {t : Nat} (h : Src H d c t) {p : Addr} (hp : H p = none) : p ≠ d ∧ p ≠ c := by
  obtain ⟨ns, r, h1, h2, _⟩ := h
  exact ⟨(ne_of_none h1 hp).symm, (ne_of_none h2 hp).symm⟩
theorem Src.upd {H : Hp} {d c : Addr} {t : Nat} (h : Src H d c t) {p : Addr} {o : HO} (h1 : p ≠ d) (h2 : p ≠ c) : Src (upd H p o) d c t := by
  obtain ⟨ns, r, e1, e2, e3⟩ := h
  exact ⟨ns, r, by rw [upd_ne h1.symm]; exact e1, by rw [upd_ne h2.symm]; exact e2, e3⟩
theorem Src.same {H H' : Hp} {d c : Addr} {t : Nat} (h : Src H d c t) (s : Same H H') : Src H' d c t := by
  obtain ⟨ns, r, e1, e2, e3⟩ := h
  exact ⟨ns, r, s _ _ e1, s _ _ e2, e3⟩
theorem src_set {H : Hp} {d c : Addr} {t : Nat} (h : Src H d c t) {u : Nat} {r : Int} (hr : 0 ≤ r) : Src (L2.upd H d (.dK (srcD c u r))) d c u := by
  have n := h.ne
  obtain ⟨ns, r0, e1, e2, e3, _⟩ := h
  exact ⟨ns, r, upd_same, by rw [upd_ne n.symm]; exact e2, e3, hr⟩
def spSDraw : Sp := fun vs H Q _ => ∃ (d c : Addr) (n : Int) (t : Nat), vs = [.ref d, .int n] ∧ Src H d c t ∧ 0 < n ∧ n < 1073741824 ∧ t < 1073741824 ∧
  ∀ H' k t', But d H H' → Src H' d c t' → t' ≤ t + 1 → 0 ≤ k → k < n → Q (.int k) H'
def spSPick (K : PySem.W.Frag) : Sp := fun vs H Q _ => ∃ (d c l : Addr) (xs : List V) (t : Nat), vs = [.ref d, .ref l] ∧ Src H d c t ∧ SqL K H l xs ∧ l ≠ d ∧ 0 < xs.length ∧ xs.length < 1073741824 ∧ t < 1073741824 ∧
  ∀ H' v t', But d H H' → Src H' d c t' → t' ≤ t + 1 → v ∈ xs → Q v H'
end Mo

namespace Mo
open PySem PySem.Spec PyProof.Rows L2
section
variable {X : Cx}
/-- x //= y of ints, a divisor that is small -/
theorem ip_fdiv : PIp X .FloorDiv (fun x y H Q => ∃ i j, x = .int i ∧ y = .int j ∧ (j ≠ 0 ∧ j.natAbs < 1073741824) ∧ Q (.int (i.fdiv j)) H) := by
  intro pins s σ H x y v u Q I r1 r2 h
  obtain ⟨i, j, e1, e2, hc, q⟩ := h
  subst e1; subst e2
  obtain ⟨t, rfl⟩ := r1
  obtain ⟨t', rfl⟩ := r2
  exact ifloordiv_int hc.1 ⟨.int _, H, I.tok _, ⟨_, rfl⟩, q⟩ (.inl (PyProof.noPylong_small hc.2))
/-- x += y of texts -/
theorem ip_addS : PIp X .Add (fun x y H Q => ∃ i j, x = .str i ∧ y = .str j ∧ i.length + j.length ≤ sizeLine ∧ Q (.str (i ++ j)) H) :=
  fun pins s σ H x y u v Q I rx ry h => iop_add_str pins s σ H x y u v Q I rx ry h
end
end Mo

namespace Mo
open PySem PySem.Spec PyProof.Rows L2
/-! ### an error that is kept behind its except suite -/
/-- at a: an error of the class cls, its own dict d -/
def exV (a : Addr) (cls : Value) (d : Option Addr) : HO := .ext fun h => ∃ oe vs, h.get? a = some oe ∧ Zc cls d oe ∧ oe.data = .fields vs
section
variable {X : Cx} {pins : List (Addr × Obj)} {σ : L2.St} {H : Hp} {s : Shared}
/-- an object that was not there at the entry is tracked from now on -/
theorem track {a : Addr} {oe : Obj} {vs : Array Value} {o : HO} (I : Inv X pins σ H s) (ha : s.heap.get? a = some oe) (hd : oe.data = .fields vs) (na : H a = none) (nL : a ≠ X.env.locals)
    (n0 : ∀ u, X.s_0.heap.get? a = some u → a ∈ X.ex) (np : ∀ p ∈ X.pn ++ pins, p.1 ≠ a) (new : ObjOk X.prog X.w (upd H a o) s.heap a o) : Inv X pins σ (upd H a o) s := by
  have ne : ∀ b u, H b = some u → b ≠ a := fun b u e => ne_of_none e na
  refine ⟨I.ok, I.os, I.bare, ⟨I.base.keep, I.base.slot, fun b u q n hx => ?_, I.base.there, fun b xs e => ?_, fun b u w e => ?_, fun b ps e => ?_⟩, I.loc, I.cell, ?_, fun x c e => ?_, fun p hp => ?_, fun b u e => ?_, I.len⟩
  · rw [upd_ne (fun z : b = a => hx (by rw [z]; exact n0 u (by rw [← z]; exact q)))]
    exact I.base.free b u q n hx
  · have q := I.base.tups b xs e
    rw [upd_ne (ne _ _ q)]
    exact q
  · have q := I.base.frzs b u w e
    rw [upd_ne (ne _ _ q)]
    exact q
  · obtain ⟨more, q⟩ := I.base.tbls b ps e
    exact ⟨more, by rw [upd_ne (ne _ _ q)]; exact q⟩
  · rw [upd_ne nL.symm]
    exact I.free
  · obtain ⟨v, oc, hoc, hcc⟩ := I.cell x c e
    have nca : c ≠ a := fun z => by
      rw [z, ha] at hoc
      cases hoc
      rw [hd] at hcc
      cases hcc
    rw [upd_ne nca]
    exact I.freeC x c e
  · obtain ⟨h1, h2, h3⟩ := I.pin p hp
    exact ⟨h1, by rw [upd_ne (np p hp)]; exact h2, h3⟩
  · by_cases hb : b = a
    · subst hb
      rw [upd_same] at e
      cases e
      exact new
    · rw [upd_ne hb] at e
      refine (I.hok b u e).stay (fun c v _ q => q) (fun c q => ?_) fun c xs q => ?_
      · rw [upd_ne (ne _ _ q)]
        exact q
      · rw [upd_ne (ne _ _ q)]
        exact q
theorem exV_ok {P : Program} {w : World} {H : Hp} {h : Heap} {a : Addr} {cls : Value} {d : Option Addr} {oe : Obj} {vs : Array Value} (e : h.get? a = some oe) (z : Zc cls d oe) (hd : oe.data = .fields vs) : ObjOk P w H h a (exV a cls d) :=
  ⟨⟨oe, vs, e, z, hd⟩, ⟨oe, e⟩, fun h1 h2 ⟨o1, v1, e1, z1, d1⟩ k => ⟨o1, v1, k _ e1, z1, d1⟩⟩
theorem exV_at {a : Addr} {cls : Value} {d : Option Addr} (I : Inv X pins σ H s) (e : H a = some (exV a cls d)) : ∃ oe vs, s.heap.get? a = some oe ∧ Zc cls d oe ∧ oe.data = .fields vs := (I.hok a _ e).1
end
/-- what 'except x as n: kept = n' wishes of an error of the body: n in slot i, kept in slot j; behind it the error is tracked -/
def wKeep (K : PySem.W.Frag) (c : Value) (i j : Nat) (Wout : WX) (D : Ends) : WX := fun cls d σ H =>
  ∃ b, PySem.W.exmOne K cls c = some b ∧ (b = true → ∀ a, H a = none → D.nx (((σ.set i (some (.ref a))).set j (some (.ref a))).set i none) (upd H a (exV a cls d))) ∧ (b = false → Wout cls d σ H)
section
variable {X : Cx} {x n kx : Str} {c : Value} {i j : Nat} {body : List Stmt} {np np2 kp ap pos pos' : Pos} {tb : WX → TS} {Wout : WX}
theorem ps_try_keep (hs : X.stack = X.env :: X.outer) (hf : X.env.frame = some X.env.locals) (hN : X.N.Nodup) (hi : X.N[i]? = some n) (hj : X.N[j]? = some kx) (hln : X.env.kindOf n = some .local) (hlk : X.env.kindOf kx = some .local) (hc : Names X x c) (tk : Takes X Wout)
    (hb : ∀ (W : WX) (pn : List (Addr × Obj)) (xe : Value → Shared → Prop), Takes (X.tr pn xe) W → PassesOwn (model X.prog X.w) X.A X.env xe → PSs (X.tr pn xe) body (tb W))
    (hsu : ∀ (a : Addr) (oe : Obj) (pn : List (Addr × Obj)), PSs (X.suite a ((a, oe) :: pn)) [.Assign [.Name kx kp] (.Name n np2) ap] (tAsg (tVar i) (gName j))) :
    PS X (.Try body [.ExceptHandler (some (.Name x np)) (some n) [.Assign [.Name kx kp] (.Name n np2) ap] pos'] [] [] pos) (fun D σ H => tb (wKeep X.K c i j Wout D) D σ H) := by
  refine ⟨fun pins s σ H D I h => ?_⟩
  have ok := I.ok
  have hfr : X.A.frames = some (X.env :: X.outer) := ok.frames.trans (by rw [hs])
  refine wpAny_Try_except (wpAny_mono ((hb (wKeep X.K c i j Wout D) (X.pn ++ pins) (fun e s₁ => wpAny (model X.prog X.w) X.A (noteFrame e X.env) (fun _ s₂ => wpAny (model X.prog X.w) X.A (setFlight e none) (fun _ s₃ =>
    wpAny (model X.prog X.w) X.A (handleBy e X.env [.ExceptHandler (some (.Name x np)) (some n) [.Assign [.Name kx kp] (.Name n np2) ap] pos']) (SP X pins D) X.xe s₃) X.xe s₂) X.xe s₁) (fun u s' xx => ?_) PassesOwn.looking).run [] s σ H D (I.toTry _) h) (fun f s1 hsp => ?_) (fun e s1 he => he))
  · obtain ⟨a, B, sI, pins', σ', H', cls, d, rfl, J', nb, up, sky, na, os, ag, b, hb1, hyes, hno⟩ := xx
    have J : Inv X pins σ' H' sI := J'.ofTry ok
    have sky' : Sky B (X.env :: X.outer) a (Zc cls d) X.env.locals s'.heap := hs ▸ sky
    show wpAny (model X.prog X.w) X.A (noteFrame (.ref a) X.env) _ _ _
    refine Sky.land Zc.steady hfr hf sky' fun h3 fl3 up3 => ?_
    have J3 : Inv X pins σ' H' { s' with heap := h3 } := J.landed nb fl3.1 (up.trans up3) os ag
    obtain ⟨oe3, vs3, he3, hz3, hd3⟩ := fl3.there
    have nfr : a ∉ frs (X.env :: X.outer) := fun hm => by
      obtain ⟨_, o', e', hnf⟩ := fl3.2.2.1.mem hm
      rw [he3] at e'
      cases e'
      exact hnf _ hd3
    have nL : a ≠ X.env.locals := fun z => nfr (List.mem_filterMap.mpr ⟨X.env, List.mem_cons_self, hf.trans (congrArg some z.symm)⟩)
    have nF : a ∉ X.fs := fun hm => by
      obtain ⟨e, he, q⟩ := List.mem_filterMap.mp hm
      exact nfr (List.mem_filterMap.mpr ⟨e, List.mem_cons_of_mem _ he, q⟩)
    have nB : B.get? a = none := fl3.2.1
    have nI : sI.heap.get? a = none := by
      cases q : sI.heap.get? a with
      | none => rfl
      | some o =>
        have z := nb a o q (by show a ∉ frs X.stack; rw [hs]; exact nfr)
        rw [nB] at z
        cases z
    have n0 : ∀ u, X.s_0.heap.get? a = some u → a ∈ X.ex := fun u q => by
      by_cases hx : a ∈ X.ex
      · exact hx
      · obtain ⟨o', z⟩ := J.base.there a u q hx
        rw [nI] at z
        cases z
    have npp : ∀ p ∈ X.pn ++ pins, p.1 ≠ a := fun p hp z => by
      have q := (J.pin p hp).1
      rw [z, nI] at q
      cases q
    have S3 := J3.suite he3 hd3 na nL nF
    refine wpAny_handleBy_cons (codeAny_handlers_test ?_) (by intro q; cases q)
    have LT : PySem.W.Looks (model X.prog X.w) h3 (typeOf (.ref a)) cls := fun A Q E s k q => wpAny_typeOf_ref (k _ _ he3) (hz3.1 ▸ q)
    have LM := PySem.W.exm_one (M := model X.prog X.w) J3.kIn LT hb1
    have test : ∀ {Q : Value → Shared → Prop} {E : Value → Shared → Prop}, Q c { s' with heap := h3 } → wpAny (model X.prog X.w) (X.A.mark (some (.ref a))) (eval (.Name x np) X.env) Q E { s' with heap := h3 } := fun {Q E} q => by
      rcases hc with ⟨hg, hdbg, hm | ⟨hm, hv, hnn⟩⟩
      · exact ld_glob (X := X.suite a ((a, oe3) :: (X.pn ++ pins))) S3 hg hm q hdbg
      · exact ld_blt (X := X.suite a ((a, oe3) :: (X.pn ++ pins))) S3 hg hm hv q hnn hdbg
    refine test (LM.here ?_)
    cases b with
    | true =>
      refine codeAny_handlers_suite_as (HandSPX.lands_againZ fl3 fun h4 fl4 up4 => ?_)
      have J4 : Inv X pins σ' H' { s' with heap := h4 } := J.landed nb fl4.1 ((up.trans up3).trans up4) os ag
      obtain ⟨oe4, vs4, he4, hz4, hd4⟩ := fl4.there
      refine store_ok (X := X.suite a ((a, oe4) :: (X.pn ++ pins))) (v := .ref a) (J4.suite he4 hd4 na nL nF) hN hi (.inl hln) rfl (fun s5 S5 => ?_) (.inr hln)
      have lenσ : i < σ'.length := by
        rw [J.len]
        exact (List.getElem?_eq_some_iff.mp hi).1
      have want : tAsg (tVar i) (gName j) { nx := fun σ6 H6 => σ6 = (σ'.set i (some (.ref a))).set j (some (.ref a)) ∧ H6 = H', rt := fun _ _ => False, bk := fun _ _ => False, ct := fun _ _ => False } (σ'.set i (some (.ref a))) H' :=
        ⟨.ref a, by rw [List.getElem?_set_self lenσ], rfl, rfl⟩
      refine wpAny_mono ((hsu a oe4 (X.pn ++ pins)).run [] s5 _ H' _ S5 want) (fun f s6 hsp => ?_) (fun _ _ z => False.elim z)
      cases f with
      | next =>
        obtain ⟨σ6, H6, S6, rfl, rfl⟩ := hsp
        obtain ⟨he6, _⟩ := S6.pin (a, oe4) (List.mem_append_left _ List.mem_cons_self)
        have J6 : Inv X pins _ H6 s6 := S6.unsuite ok
        have J7 := track J6 he6 hd4 na nL n0 npp (exV_ok he6 hz4 hd4)
        exact gone_ok J7 hN hi hln fun s7 J8 => ⟨_, _, J8, hyes rfl a na⟩
      | brk => exact hsp.elim fun _ z => z.elim fun _ z => z.2.elim
      | cont => exact hsp.elim fun _ z => z.elim fun _ z => z.2.elim
      | ret u => exact hsp.elim fun _ z => z.elim fun _ z => z.elim fun _ z => z.2.2.elim
    | false =>
      show wpAny _ X.A (handleBy (.ref a) X.env []) _ _ _
      refine wpAny_handleBy_nil ?_
      obtain ⟨k1, k2, k3, oe, vs, T, oT, ts', he, hz, hd, h1, hr⟩ := id fl3
      unfold PySem.passOn
      refine wpAny_bind (wpAny_field he hd h1 ?_)
      rw [if_neg (show ¬ ((Value.ref T == Value.none) = true) from by simp)]
      have fin : wpAny (model X.prog X.w) X.A (setFlight (.ref a) X.env.frame) (fun _ s4 => wpAny (model X.prog X.w) X.A (throw (.ref a) : Sem Flow) (SP X pins D) X.xe s4) X.xe { s' with heap := h3 } := by
        rw [hf]
        refine HandSPX.setFlight_upZ fl3 fun h4 hh4 up4 => wpAny_throw (tk _ _ ⟨a, B, sI, pins, σ', H', cls, d, rfl, J, nb, (up.trans up3).trans up4, .inr (.inr (hs ▸ hh4)), na, os, ag, hno rfl⟩)
      first
        | exact wpAny_bind (wpAny_pure (wpAny_bind fin))
        | exact wpAny_bind fin
  · cases f with
    | next => exact hsp.elim fun σ1 z => z.elim fun H1 z => wpAny_execs_nil ⟨σ1, H1, z.1.ofTry ok, z.2⟩
    | brk => exact hsp.elim fun σ1 z => z.elim fun H1 z => ⟨σ1, H1, z.1.ofTry ok, z.2⟩
    | cont => exact hsp.elim fun σ1 z => z.elim fun H1 z => ⟨σ1, H1, z.1.ofTry ok, z.2⟩
    | ret u => exact hsp.elim fun v z => z.elim fun σ1 z => z.elim fun H1 z => ⟨v, σ1, H1, z.1.ofTry ok, z.2⟩
end
end Mo

/-! ### isinstance and the fields of an error that has its own dict -/
namespace Mo
open PySem PySem.W PySem.Spec PySem.Calls PyProof.Rows
section
variable {prog : Program} {w : World} {A : Around} {E : Value → Shared → Prop} {s : Shared} {K : Frag} {x D : Addr} {ox oy : Obj}
theorem err_class {Q : Option Value → Shared → Prop} (C : L2.ExcC K D) (X : K.In s.heap) (I : PySem.W.InstAt s.heap x ox D (some oy)) (h : Q (some (.ref D)) { s with toks := s.toks + 1 }) : wpAny (model prog w) A (getAttr? (.ref x) "__class__") Q E s := by
  have hf : findObj K D (some oy) "__class__" = some (.bind (.builtin "getset_descriptor.__get__") (.builtin "object.__class__")) := findObj_data (by obtain ⟨cd, hc, _⟩ := any_some C.hd; rw [hc]; rfl) C.ha C.hn C.ht
  obtain ⟨hp, g, d, t, os⟩ := s
  have a0 := I.type (M := model prog w)
  have a1 := looks_findIn (M := model prog w) X C.hg
  have a2 := looks_findIn (M := model prog w) X C.hk
  have a3 := looks_find (M := model prog w) X I hf
  have sub : Looks (model prog w) hp (isInstance (.ref x) (.type "BaseException")) true := a0.andThen (looks_subIn X C.hs)
  have y2 : (Value.builtin "BaseException.__getattribute__" == Value.builtin "object.__getattribute__") = false := by decide +kernel
  have y1 : (onTheHeap (Value.ref D) && Value.builtin "BaseException.__getattribute__" == Value.builtin "object.__getattribute__") = false := by rw [y2]; rfl
  have y0 : (false && onTheHeap (Value.builtin "BaseException.__getattribute__")) = false := rfl
  unfold getAttr? getAttrBy? getAttrBy
  refine wpAny_bind (wpAny_mkText (wpAny_bind (wpAny_attempt (wpAny_holding (wpAny_bind (a0.at (wpAny_bind (a1.at ?_))))))))
  show wpAny _ _ (if (onTheHeap (Value.ref D) && Value.builtin "BaseException.__getattribute__" == Value.builtin "object.__getattribute__") = true then _ else _) _ _ _
  rw [y1, if_neg Bool.false_ne_true]
  unfold getAttrByItsOwn hookBefore
  refine wpAny_bind (by
    rw [if_pos (show onTheHeap (Value.ref D) = true from rfl)]
    refine a2.at (wpAny_bind (wpAny_attempt (wpAny_holding ?_)))
    unfold callGetattribute
    rw [y0, if_neg Bool.false_ne_true]
    unfold boundAndCalled
    rw [PySem.F.excAttr_ValueError.ga.bind (.ref x)]
    refine wpAny_bind (wpAny_pure (by
      show wpAny _ _ (call (.builtin "BaseException.__getattribute__") [.ref x, .str "__class__" t]) _ _ _
      refine wpAny_call (codeAny_call_builtin PySem.F.excAttr_ValueError.ga.plain PySem.F.entry_bexc_ga (@check_slot (model prog w) _ _ ⟨hp, g, d, t + 1, os⟩ "BaseException.__getattribute__" "BaseException" "__getattribute__" (.ref x) [.str "__class__" t] [] _ (by decide +kernel) (by decide +kernel) sub (PySem.F.args_bexc_ga (.ref x) (.str "__class__" t)) ?_))
      unfold Builtin.«object.__getattribute__»
      refine wpAny_bind (wpAny_of_eq (a := ((Value.ref x : Value), [Value.str "__class__" t])) (by first | rfl | (simp only [slotArgs]; rfl)) (wpAny_bind (wpAny_pure (wpAny_bind (a0.at (wpAny_bind (a3.at ?_)))))))
      show wpAny _ _ (holding [Value.builtin "object.__class__"] (call (.builtin "getset_descriptor.__get__") [.builtin "object.__class__", .ref x, .ref D]) >>= ret) _ _ _
      refine wpAny_bind (wpAny_holding (wpAny_call (class_get (s := ⟨hp, g, d, t + 1, os⟩) (ox := ox) (od := some oy) X I C.hm (wpAny_pure ?_))))
      show wpAny _ _ (handedOut (.ref D)) _ _ _
      rw [handedOut_of (v := .ref D) rfl]
      first | exact wpAny_pure (wpAny_pure h) | exact wpAny_pure h | exact wpAny_pure (wpAny_bind (wpAny_pure (wpAny_pure h))))))
theorem err_kit (C : L2.ExcC K D) : KitX K (.ref x) (.ref D) (fun h => ∃ ox oy, PySem.W.InstAt h x ox D (some oy)) where
  ty := fun _ _ _ ⟨_, _, I⟩ => I.type
  it := fun M h X _ => by
    obtain ⟨cd, hc, _⟩ := any_some C.hd
    unfold clsIn at hc
    split at hc
    · rename_i c' d' cd' sl' ho
      intro A' Q' E' s' k q
      unfold isType loadHead
      exact wpAny_bind (wpAny_loadPart (k _ _ (X _ _ ho)) (wpAny_pure q))
    · cases hc
  ne := fun h tp dd its n sl X htp => by
    obtain ⟨cd, hc, _⟩ := any_some C.hd
    refine Bool.eq_false_iff.mpr fun q => ?_
    obtain rfl : D = tp := Value.ref.inj (beq_iff_eq.mp q)
    unfold clsIn at hc
    split at hc
    · rename_i c' d' cd' sl' ho
      cases (X _ _ ho).symm.trans htp
    · cases hc
  ca := fun X ⟨_, _, I⟩ k => err_class C X I k
end
end Mo
namespace Mo
open PySem PySem.Spec PyProof.Rows L2
section
variable {X : Cx} {pins : List (Addr × Obj)} {σ : L2.St} {H : Hp} {s : Shared}
/-- an error at a, its class at C, its dict at dd with the fields fs -/
def ErrAt (H : Hp) (a C dd : Addr) (fs : List (Str × V)) : Prop := H a = some (exV a (.ref C) (some dd)) ∧ H dd = some (.xd fs)
theorem ErrAt.inst {a C dd : Addr} {fs : List (Str × V)} (e : ErrAt H a C dd fs) (I : Inv X pins σ H s) : ∃ ox od mA, PySem.W.InstAt s.heap a ox C (some od) ∧ s.heap.Ns1 dd mA ∧ (∀ f, RelO (fs.lookup f) (mA f)) ∧ ∀ f, PySem.W.lookIn f od = some (mA f) := by
  obtain ⟨oe, vs, ha, hz, hd⟩ := exV_at I e.1
  obtain ⟨mA, hns, hr⟩ := (show ObjOk X.prog X.w H s.heap dd (.xd fs) from I.hok dd _ e.2)
  obtain ⟨od, ho, hl⟩ := lookIn_ns hns
  exact ⟨oe, od, mA, ⟨ha, hz.1, by unfold PySem.W.notCls; rw [hd] <;> rfl, by rw [hz.2]; exact ho⟩, hns, hr, hl⟩
/-- isinstance(err, c) -/
def rIsX (K : PySem.W.Frag) : List V → Hp → VK → Prop := fun xs H Q => ∃ (a C dd : Addr) (fs : List (Str × V)) (c : V) (u : Value) (b : Bool), xs = [.ref a, c] ∧ ErrAt H a C dd fs ∧ ExcC K C ∧ ClsV c u ∧ PySem.W.kitOne K (.ref C) u = some b ∧ Q (.bl b) H
theorem cr_isX : CallR X (.builtin "isinstance") (rIsX X.K) := by
  intro pins s σ H xs us Q I r h
  obtain ⟨a, C, dd, fs, c, u, b, rfl, ea, T, k, e, q⟩ := h
  obtain ⟨u1, u2, rfl, r1, r2⟩ := vals2 r
  cases r1
  obtain rfl := k.eq r2
  obtain ⟨ox, od, mA, J, _⟩ := ea.inst I
  exact PySem.W.kia_one (err_kit T) I.kIn ⟨ox, od, J⟩ e (fun z => nomatch z) fun tk => ⟨.bl b, H, I.tok tk, rfl, q⟩
/-- isinstance(err, (c1, c2, ..)) -/
def rIsXT (K : PySem.W.Frag) : List V → Hp → VK → Prop := fun xs H Q => ∃ (a C dd tp : Addr) (fs : List (Str × V)) (cs : List V) (us : List Value) (b : Bool), xs = [.ref a, .ref tp] ∧ ErrAt H a C dd fs ∧ ExcC K C ∧ H tp = some (.tup cs) ∧ Paired ClsV cs us ∧ PySem.W.kitAny K (.ref C) us = some b ∧ Q (.bl b) H
theorem cr_isXT : CallR X (.builtin "isinstance") (rIsXT X.K) := by
  intro pins s σ H xs us Q I r h
  obtain ⟨a, C, dd, tp, fs, cs, ws, b, rfl, ea, T, hT, k, e, q⟩ := h
  obtain ⟨u1, u2, rfl, r1, r2⟩ := vals2 r
  cases r1
  cases (show u2 = Value.ref tp from r2)
  obtain ⟨ox, od, mA, J, _⟩ := ea.inst I
  obtain ⟨_, its, rv, ⟨oc, od', dt, sl⟩, h1, h2, n, h3⟩ := (show ObjOk X.prog X.w H s.heap tp (.tup cs) from I.hok tp _ hT)
  obtain rfl := ClsV.all k rv
  simp only at h2 h3
  subst h2 h3
  exact PySem.W.kia_tup (err_kit T) I.kIn ⟨ox, od, J⟩ h1 e (fun z => nomatch z) fun tk => ⟨.bl b, H, I.tok tk, rfl, q⟩
/-- err.f -/
def tXv (K : PySem.W.Frag) (f : Str) (te : TE) : TE := fun σ H Q => te σ H fun x H1 => ∃ (a C dd : Addr) (fs : List (Str × V)) (v : V), x = .ref a ∧ ErrAt H1 a C dd fs ∧ XfC K C ∧ PySem.W.findIn K (.ref C) f = some none ∧ fs.lookup f = some v ∧ Q v H1
theorem pe_xv {e : Expr} {te : TE} {pos : Pos} {f : Str} (he : PE X e te) (hb : attributeBase e f X.env (eval e X.env) = eval e X.env := by rfl) : PE X (.Attribute e f pos) (tXv X.K f te) := by
  refine ⟨fun pins s σ H Q I h => ?_⟩
  refine attr_of hb (thn (he.run pins s σ H _ I h) fun u s1 hh => ?_)
  obtain ⟨x, H1, I1, rx, a, C, dd, fs, v, rfl, ea, T, hno, l, q⟩ := hh
  obtain rfl : u = Value.ref a := rx
  obtain ⟨ox, od, mA, J, hns, hr, hl⟩ := ea.inst I1
  obtain ⟨u, hu, ru⟩ := RelO.some_of (v := v) (o := mA f) (by rw [← l]; exact hr f)
  exact HandSPX.exc_get I1.kIn J T.ga T.gg T.exC (PySem.W.findObj_own T.hdC hno rfl (by rw [hl, hu])) (handed_of ru) ⟨v, H1, I1.tok _, ru, q⟩
end
end Mo

/-! ### defs called where no repr is under way: then repr of lists, tuples and dicts is known to the letter -/
namespace Mo
open PySem PySem.Spec PyProof.Rows L2
/-- as FnOk, for callers under no guard -/
structure FnG (P : Program) (w : World) (K : PySem.W.Frag) (mg : Str → Option Value) (base : Heap) (CX : CXT) (k : Nat) (f : Addr) (fd : FuncData) (ps : List Str) (sp : Sp) : Prop where
  len : ∀ vs H Q E, sp vs H Q E → vs.length = ps.length
  run : ∀ (A : Around) (outer : List Env) (s : Shared) (H : Hp) (args : Args) (us : List Value) (vs : List V) (Q : VK) (E : XK), Room k A → A.guards = some [] → Env0 P w K mg base A outer s H → BindsTo s fd args (ps.zip us) → Vals vs us → sp vs H Q E →
    codeAny (model P w) A (.call (.ref f) args) (CR CX outer P w H s Q E) s
section
variable {P : Program} {w : World} {K : PySem.W.Frag} {mg : Str → Option Value} {base : Heap} {CX : CXT} {k : Nat} {f : Addr} {fd : FuncData} {ps : List Str} {sp : Sp}
theorem FnG.of (F : FnOk P w K mg base CX k f fd ps sp) : FnG P w K mg base CX k f fd ps sp := ⟨F.len, fun A o s H a us vs Q E hr _ => F.run A o s H a us vs Q E hr⟩
/-- a def by its body, its guards told -/
theorem okG_of {x qual : Str} {st : Stmt} {N : List Str} (F : Fun K x qual st f fd) (S : FnScope N ps (defScope st)) (len : ∀ vs H Q E, sp vs H Q E → vs.length = ps.length)
    (hbody : ∀ (cdv : Value) (A : Around) (outer : List Env) (s : Shared) (H : Hp) (vs : List V) (Q : VK) (E : XK), Room k (A.deeper (envOfC qual (defScope st) s.heap.objs.size f cdv)) → A.guards = some [] → sp vs H Q E →
      ∃ t, PSs (cxOf CX P w K mg base N qual (defScope st) f cdv A outer s H E) (defBody st) t ∧ t { nx := fun _ H' => Q .non H', rt := Q } (start N vs) H) : FnG P w K mg base CX (k + 1) f fd ps sp := by
  obtain ⟨oc, od, kV, doc, pm, an, cdv, ct, osl, rfl, lk, hcd⟩ := F.ex
  refine ⟨len, fun A outer s H args us vs Q E hr hg e0 hb r hsp => ?_⟩
  have kept : ∀ b o, base.get? b = some o → s.heap.get? b = some o := fun b o e => (e0.bs b o e).1
  have KX : K.In s.heap := e0.mod.kin.keeps kept
  have kinds : ∀ y ∈ ps.zip us, (defScope st).names.lookup y.1 = some .local ∨ ((defScope st).names.lookup y.1 = some .cell ∧ ((cellsFrom (s.heap.objs.size + 1) (defScope st).names []).lookup y.1).isSome = true) := fun y hy =>
    (S.par y.1 (List.of_mem_zip (a := y.1) (b := y.2) hy).1).elim .inl fun q => .inr ⟨q, PySem.W.cellsFrom_some _ _ _ (.inl q)⟩
  refine codeAny_call_function hr.depth (KX _ _ lk) rfl S.co S.gen rfl (PySem.W.codeRec_of KX hcd) (hb _ _ _ _ (wpAny_newFunctionEnv_cells S.kind kinds fun env he s1 x => ?_))
  subst he
  refine ⟨(e0.mod.nolimit.keeps kept).keeps x.toInCall.keep, codeAny_func ?_⟩
  obtain ⟨t, ht, hq⟩ := hbody cdv A outer s H vs Q E (hr.deeper _) hg hsp
  have I : Inv (cxOf CX P w K mg base N qual (defScope st) f cdv A outer s H E) [] (start N vs) H s1 := inv_start S hr.hd e0 (len _ _ _ _ hsp) r x
  refine wpAny_mono (ht.run [] s1 (start N vs) H _ I hq) (fun fl s' hs => ?_) fun e s' hs => hs
  cases fl with
  | ret u => exact hs.elim fun v z => z.elim fun σ' z => z.elim fun H' z => ⟨v, H', z.1.os, z.1.bare, z.1.base, z.1.hok, z.2.1, z.2.2⟩
  | next => exact hs.elim fun σ' z => z.elim fun H' z => ⟨V.non, H', z.1.os, z.1.bare, z.1.base, z.1.hok, rfl, z.2⟩
  | brk => exact hs.elim fun _ z => z.elim fun _ z => z.2.elim
  | cont => exact hs.elim fun _ z => z.elim fun _ z => z.2.elim
/-- a def that raises nothing -/
theorem okG {x qual : Str} {st : Stmt} {N : List Str} (F : Fun K x qual st f fd) (S : FnScope N ps (defScope st)) (len : ∀ vs H Q E, sp vs H Q E → vs.length = ps.length)
    (hbody : ∀ (cdv : Value) (A : Around) (outer : List Env) (s : Shared) (H : Hp) (vs : List V) (Q : VK) (E : XK), Room k (A.deeper (envOfC qual (defScope st) s.heap.objs.size f cdv)) → A.guards = some [] → sp vs H Q E →
      ∃ t, PSs (cxOf CX0 P w K mg base N qual (defScope st) f cdv A outer s H E).nox (defBody st) t ∧ t { nx := fun _ H' => Q .non H', rt := Q } (start N vs) H) : FnG P w K mg base CX0 (k + 1) f fd ps sp :=
  okG_of F S len fun cdv A outer s H vs Q E hr hg hsp => (hbody cdv A outer s H vs Q E hr hg hsp).elim fun t z => ⟨t, z.1.nox, z.2⟩
end
section
variable {X : Cx} {CX : CXT} {x : Str} {f : Addr} {k : Nat} {fd : FuncData} {ps : List Str} {sp : Sp} {ds : List Value} {dvs : List V} {E : XK} {e : Expr} {es : List Expr} {t : TA} {p pos : Pos}
theorem run_G {pins : List (Addr × Obj)} {σ : L2.St} {H : Hp} {s : Shared} {Q : VK} {us : List Value} {vs : List V} (F : FnG X.prog X.w X.K X.mg X.base CX k f fd ps sp) (hr : Room k X.A) (hu : X.A.guards = some []) (hb : Binds X.K fd ps ds) (hd : Vals dvs ds) (hx : Passes CX X E)
    (I : Inv X pins σ H s) (r : Vals vs us) (h : sp (vs ++ dvs) H Q E) : wpAny (model X.prog X.w) X.A (call (.ref f) us) (EP X pins σ Q) X.xe s := by
  have rr : Vals (vs ++ dvs) (us ++ ds) := r.append hd
  refine wpAny_call (codeAny_mono (F.run X.A X.stack s H ⟨us, []⟩ (us ++ ds) (vs ++ dvs) Q E hr hu I.env0 (hb s us I.kIn (rr.length.symm.trans (F.len _ _ _ _ h))) rr h) fun r s' hq => ?_)
  cases r with
  | error e => exact hx pins σ H s e s' I hq
  | ok fl =>
    cases fl with
    | ret u => exact I.after hq
    | next => exact hq.elim
    | brk => exact hq.elim
    | cont => exact hq.elim
/-- f(e, ..), f by FnG -/
theorem pe_callG (F : FnG X.prog X.w X.K X.mg X.base CX k f fd ps sp) (hr : Room k X.A) (hu : X.A.guards = some []) (hg : Gl X x) (hm : X.mg x = some (.ref f)) (hk : PySem.W.keepIn X.K (.ref f) = true) (hb : Binds X.K fd ps ds) (hd : Vals dvs ds) (hx : Passes CX X E)
    (ha : PA X (e :: es) t) (hdb : (x == ("__debug__" : Str)) = false := by decide) (he : starEach (e :: es) X.env = (false, eval e X.env) :: starEach es X.env := by rfl) (hpl : (backTo pos (starEach es X.env)).any (·.1) = false := by rfl) :
    PE X (.Call (.Name x p) (e :: es) [] pos) (tCall sp dvs E t) :=
  ⟨fun pins s σ H Q I h => wpAny_Call_Name_kw (ld_glob I hg hm (PySem.W.callWith_K (h₀ := X.base) I.ok.mod.kin hk (thn (ha.run pos pins s σ H _ I h) fun us s1 ⟨vs, H1, I1, r, q⟩ => ⟨I1.kIn, run_G F hr hu hb hd hx I1 r q⟩) he hpl) hdb)⟩
end
/-! ### repr of data -/
/-- data with the empty dict -/
def Dat (K : PySem.W.Frag) (H : Hp) (x : V) (d : PyData) : Prop := Dp K H x d ∨ ∃ a, x = .ref a ∧ H a = some (.dK []) ∧ d = .dict []
section
variable {X : Cx} {pins : List (Addr × Obj)} {σ : L2.St} {H : Hp} {s : Shared}
theorem Dat.reads {x : V} {u : Value} {d : PyData} (I : Inv X pins σ H s) (h : Dat X.K H x d) (r : RelV x u) : ∃ as, Reads s.heap u d as ∧ (d.hasDict = true → sysModules ∉ as) := by
  rcases h with h | ⟨a, rfl, ha, rfl⟩
  · obtain ⟨as, q⟩ := Dp.reads I d x u h r
    have key : ∀ {x : V} {d : PyData}, Dp X.K H x d → d.hasDict = false := by
      intro x d h
      refine Dp.rec (motive_1 := fun _ d _ => d.hasDict = false) (motive_2 := fun _ ds _ => PyData.hasDictAll ds = false) ?_ ?_ ?_ ?_ ?_ ?_ ?_ ?_ h
      · rfl
      · intro b; rfl
      · intro i; rfl
      · intro z; rfl
      · intro a xs ds _ _ ih; exact ih
      · intro a xs ds _ _ ih; exact ih
      · rfl
      · intro v vs d ds _ _ i1 i2
        show (PyData.hasDict d || PyData.hasDictAll ds) = false
        rw [i1, i2]
        rfl
    exact ⟨as, q, fun z => by rw [key h] at z; cases z⟩
  · obtain rfl : u = Value.ref a := r
    obtain ⟨_, hs, vs, kv, o, es, ep, ho, hc, hdt, hes⟩ := (show ObjOk X.prog X.w H s.heap a (.dK []) from I.hok a _ ha)
    cases kv
    have e0 : es.toList = [] := by
      obtain ⟨_, hp, _⟩ := hes
      cases q : es.toList with
      | nil => rfl
      | cons x r => rw [q] at hp; cases hp
    refine ⟨_, .dict (as := []) (bs := []) ho hc.1 hdt (by rw [e0]; exact .nil) (by rw [e0]; exact .nil), fun _ z => ?_⟩
    rw [List.append_nil, List.mem_singleton] at z
    rw [← z] at hs
    simp at hs
/-- repr(data) -/
def rReprD (K : PySem.W.Frag) : List V → Hp → VK → Prop := fun xs H Q => ∃ (x : V) (d : PyData), xs = [x] ∧ Dat K H x d ∧ d.showable = true ∧ d.depth ≤ 40 ∧ d.shown.length ≤ sizeLine ∧ Q (.str d.shown) H
theorem cr_reprD (hg : X.A.guards = some []) (hu : X.A.units + 64 < cLine) : CallR X (.builtin "repr") (rReprD X.K) := by
  intro pins s σ H xs us Q I r h
  obtain ⟨x, d, rfl, hd, hs, hdp, hz, q⟩ := h
  obtain ⟨u, rfl, ru⟩ := vals1 r
  obtain ⟨as, rd, hsm⟩ := hd.reads I ru
  cases rd with
  | none => exact PySem.P.repr_of_none ⟨.str _, H, I.tok _, ⟨_, rfl⟩, q⟩
  | bool b => exact PySem.P.repr_of_bool ⟨.str _, H, I.tok _, ⟨_, rfl⟩, q⟩
  | int i t => exact PySem.P.repr_of_int (of_decide_eq_true hs) ⟨.str _, H, I.tok _, ⟨_, rfl⟩, q⟩
  | str z t => exact PySem.P.repr_of_str ⟨.str _, H, I.tok _, ⟨_, rfl⟩, q⟩ hz
  | list a1 a2 a3 a4 => exact repr_of_reads' (.list a1 a2 a3 a4) hs hsm hg (by omega) (fun _ _ e => e) (fun h' u' tk hk => ⟨.str _, H, I.kept (t' := tk) hk, ⟨_, rfl⟩, q⟩) hz
  | tuple a1 a2 a3 a4 => exact repr_of_reads' (.tuple a1 a2 a3 a4) hs hsm hg (by omega) (fun _ _ e => e) (fun h' u' tk hk => ⟨.str _, H, I.kept (t' := tk) hk, ⟨_, rfl⟩, q⟩) hz
  | dict a1 a2 a3 a4 a5 => exact repr_of_reads' (.dict a1 a2 a3 a4 a5) hs hsm hg (by omega) (fun _ _ e => e) (fun h' u' tk hk => ⟨.str _, H, I.kept (t' := tk) hk, ⟨_, rfl⟩, q⟩) hz
end
end Mo
namespace Mo
open PySem PySem.Spec PyProof.Rows L2
/-- an own error class over ValueError with one field f, its __init__ at fI -/
structure ErrC (K : PySem.W.Frag) (C fI : Addr) (f : Str) : Prop where
  oex : OexC K C
  xf : XfC K C
  exc : ExcC K C
  no : PySem.W.findIn K (.ref C) f = some none
  te : PySem.W.exmOne K (.ref C) (.ref C) = some true
  iC : PySem.W.findIn K (.ref C) "__init__" = some (some (.ref fI))
  tI : PySem.W.typeIn K (.ref fI) = some (.type "function")
/-- its __init__: self.f = y -/
def spInit (C : Addr) (f : Str) : Sp := fun vs H Q _ => ∃ (a : Addr) (y : V), vs = [.ref a, y] ∧ H a = some (exo a C none) ∧ ∀ dx, H dx = none → dx ≠ a → Q .non (upd (upd H dx (exd dx [(f, y)])) a (exo a C (some dx)))
/-- raising it: what is left to be shown -/
theorem err_read {C : Addr} {f : Str} {H : Hp} {v : V} {Q : XK} (h : ∀ d H', H d = none → Same H H' → H' d = some (.xd [(f, v)]) → Q (.ref C) (some d) H') :
    [v].length ≤ 1000 ∧ ∀ a, H a = none → spInit C f (.ref a :: ([v] ++ [])) (upd H a (exo a C none)) (fun x H2 => x = .non ∧ ∃ (d : Addr) (fs : List (Str × V)), H2 a = some (exo a C (some d)) ∧ H2 d = some (exd d fs) ∧ H d = none ∧ Q (.ref C) (some d) (upd (del H2 a) d (.xd fs))) (fun _ _ _ => False) := by
  refine ⟨by show 1 ≤ 1000; decide, fun a na => ⟨a, v, rfl, upd_same, fun dx nd ne => ⟨rfl, dx, [(f, v)], upd_same, by rw [upd_ne ne, upd_same], ?_, ?_⟩⟩⟩
  · rw [upd_ne ne] at nd
    exact nd
  · have nd' : H dx = none := by rw [upd_ne ne] at nd; exact nd
    refine h dx _ nd' (fun b o e => ?_) upd_same
    have nb : b ≠ dx := ne_of_none e nd'
    have nba : b ≠ a := ne_of_none e na
    rw [upd_ne nb, del_ne nba, upd_ne nba, upd_ne nb, upd_ne nba]
    exact e
theorem kit1_type {K : PySem.W.Frag} {C : Addr} {T : String} {b : Bool} (h : PySem.W.subIn K (.ref C) (.type T) = some b) (hm : PySem.W.kitMeta T = true) : PySem.W.kitOne K (.ref C) (.type T) = some b := by
  show (if (Value.ref C == Value.type T) = true then some true else (if PySem.W.kitMeta T = true then PySem.W.subIn K (.ref C) (.type T) else none)) = some b
  rw [if_neg (by intro z; cases beq_iff_eq.mp z), if_pos hm]
  exact h
theorem kit1_ref {K : PySem.W.Frag} {C D : Addr} (h : PySem.W.subIn K (.ref C) (.ref D) = some false) (hs : PySem.W.subIn K (.ref C) (.ref C) = some true) (hc : PySem.W.isClsIn K D = true) (ht : PySem.W.typeIn K (.ref D) = some (.type "type")) : PySem.W.kitOne K (.ref C) (.ref D) = some false := by
  have hc2 : (PySem.W.clsIn K D).isSome = true := hc
  show (if (Value.ref C == Value.ref D) = true then some true else (if ((PySem.W.clsIn K D).isSome && PySem.W.typeIn K (.ref D) == some (.type "type")) = true then PySem.W.subIn K (.ref C) (.ref D) else none)) = some false
  rw [if_neg (by intro z; rw [← beq_iff_eq.mp z, hs] at h; cases h), if_pos (by rw [hc2, ht]; rfl)]
  exact h
end Mo

/-! ### data of any kind: None, bools, ints, texts, lists, tuples, dicts (keys ints and texts), at any depth -/
namespace Mo
open PySem PySem.Spec PyProof.Rows L2
def keyD : Key → PyData
  | .inl i => .int i
  | .inr x => .str x
mutual
inductive Dx (N : Addr → Prop) (H : Hp) : V → PyData → Prop
  | non : Dx N H .non .none
  | bl (b : Bool) : Dx N H (.bl b) (.bool b)
  | int (i : Int) : Dx N H (.int i) (.int i)
  | str (x : Str) : Dx N H (.str x) (.str x)
  | lst {a : Addr} {xs : List V} {ds : List PyData} : H a = some (.lst xs) → ¬ N a → DxAll N H xs ds → Dx N H (.ref a) (.list ds)
  | tup {a : Addr} {xs : List V} {ds : List PyData} : H a = some (.tup xs) → ¬ N a → DxAll N H xs ds → Dx N H (.ref a) (.tuple ds)
  | dct {a : Addr} {kvs : List (Key × V)} {ds : List PyData} : H a = some (.dK kvs) → ¬ N a → DxAll N H (kvs.map (·.2)) ds → Dx N H (.ref a) (.dict ((kvs.map fun kv => keyD kv.1).zip ds))
inductive DxAll (N : Addr → Prop) (H : Hp) : List V → List PyData → Prop
  | nil : DxAll N H [] []
  | cons {v : V} {vs : List V} {d : PyData} {ds : List PyData} : Dx N H v d → DxAll N H vs ds → DxAll N H (v :: vs) (d :: ds)
end
theorem DxAll.length {N : Addr → Prop} {H : Hp} : ∀ {vs : List V} {ds : List PyData}, DxAll N H vs ds → vs.length = ds.length
  | _, _, .nil => rfl
  | _, _, .cons _ t => by rw [List.length_cons, List.length_cons, DxAll.length t]
mutual
theorem Dx.same {N : Addr → Prop} {H H' : Hp} (s : Same H H') : ∀ {v : V} {d : PyData}, Dx N H v d → Dx N H' v d
  | _, _, .non => .non
  | _, _, .bl b => .bl b
  | _, _, .int i => .int i
  | _, _, .str x => .str x
  | _, _, .lst h n t => .lst (s _ _ h) n (DxAll.same s t)
  | _, _, .tup h n t => .tup (s _ _ h) n (DxAll.same s t)
  | _, _, .dct h n t => .dct (s _ _ h) n (DxAll.same s t)
theorem DxAll.same {N : Addr → Prop} {H H' : Hp} (s : Same H H') : ∀ {v : List V} {d : List PyData}, DxAll N H v d → DxAll N H' v d
  | _, _, .nil => .nil
  | _, _, .cons h t => .cons (Dx.same s h) (DxAll.same s t)
end
mutual
/-- all but what N names, which the data does not hold -/
theorem Dx.but {N : Addr → Prop} {H H' : Hp} (s : ∀ b o, ¬ N b → H b = some o → H' b = some o) : ∀ {v : V} {d : PyData}, Dx N H v d → Dx N H' v d
  | _, _, .non => .non
  | _, _, .bl b => .bl b
  | _, _, .int i => .int i
  | _, _, .str x => .str x
  | _, _, .lst h n t => .lst (s _ _ n h) n (DxAll.but s t)
  | _, _, .tup h n t => .tup (s _ _ n h) n (DxAll.but s t)
  | _, _, .dct h n t => .dct (s _ _ n h) n (DxAll.but s t)
theorem DxAll.but {N : Addr → Prop} {H H' : Hp} (s : ∀ b o, ¬ N b → H b = some o → H' b = some o) : ∀ {v : List V} {d : List PyData}, DxAll N H v d → DxAll N H' v d
  | _, _, .nil => .nil
  | _, _, .cons h t => .cons (Dx.but s h) (DxAll.but s t)
end
mutual
/-- another N that names no more of what is there -/
theorem Dx.more {N N' : Addr → Prop} {H : Hp} (s : ∀ b, H b ≠ none → N' b → N b) : ∀ {v : V} {d : PyData}, Dx N H v d → Dx N' H v d
  | _, _, .non => .non
  | _, _, .bl b => .bl b
  | _, _, .int i => .int i
  | _, _, .str x => .str x
  | _, _, .lst h n t => .lst h (fun z => n (s _ (by rw [h]; exact Option.some_ne_none _) z)) (DxAll.more s t)
  | _, _, .tup h n t => .tup h (fun z => n (s _ (by rw [h]; exact Option.some_ne_none _) z)) (DxAll.more s t)
  | _, _, .dct h n t => .dct h (fun z => n (s _ (by rw [h]; exact Option.some_ne_none _) z)) (DxAll.more s t)
theorem DxAll.more {N N' : Addr → Prop} {H : Hp} (s : ∀ b, H b ≠ none → N' b → N b) : ∀ {v : List V} {d : List PyData}, DxAll N H v d → DxAll N' H v d
  | _, _, .nil => .nil
  | _, _, .cons h t => .cons (Dx.more s h) (DxAll.more s t)
end
theorem DxAll.append {N : Addr → Prop} {H : Hp} : ∀ {vs ws : List V} {ds es : List PyData}, DxAll N H vs ds → DxAll N H ws es → DxAll N H (vs ++ ws) (ds ++ es)
  | _, _, _, _, .nil, h => h
  | _, _, _, _, .cons a t, h => .cons a (DxAll.append t h)
theorem DxAll.get {N : Addr → Prop} {H : Hp} : ∀ {vs : List V} {ds : List PyData} {i : Nat} {v : V}, DxAll N H vs ds → vs[i]? = some v → ∃ d, ds[i]? = some d ∧ Dx N H v d
  | _, _, _, _, .nil, h => by simp at h
  | _, _, 0, _, .cons a t, h => by
    obtain rfl := Option.some.inj h
    exact ⟨_, rfl, a⟩
  | _, _, i + 1, _, .cons a t, h => by
    obtain ⟨d, e, q⟩ := DxAll.get (i := i) t h
    exact ⟨d, e, q⟩
theorem DxAll.mem {N : Addr → Prop} {H : Hp} {vs : List V} {ds : List PyData} {v : V} (h : DxAll N H vs ds) (hv : v ∈ vs) : ∃ d ∈ ds, Dx N H v d := by
  obtain ⟨i, hi⟩ := List.mem_iff_getElem?.mp hv
  obtain ⟨d, e, q⟩ := h.get hi
  exact ⟨d, List.mem_of_getElem? e, q⟩
section
variable {X : Cx} {N : Addr → Prop} {pins : List (Addr × Obj)} {σ : L2.St} {H : Hp} {s : Shared}
theorem key_reads {h : Heap} {k : Key} {u : Value} (e : keyIs k u = true) : Reads h u (keyD k) [] := by
  rcases keyIs_shape e with ⟨i, t, rfl, rfl⟩ | ⟨z, t, rfl, rfl⟩
  · exact .int i t
  · exact .str z t
theorem keys_read {P : Program} {w : World} {h : Heap} : ∀ {es : List DictEntry} {vs : List (Key × Value)}, Pairs (mixKind P w) es vs → ReadsAll h (es.map (·.key)) (vs.map fun kv => keyD kv.1) []
  | _, _, .nil => .nil
  | _, _, .cons e _ t => by
    have q := ReadsAll.cons (key_reads (h := h) e) (keys_read t)
    exact q
theorem vals_eq {P : Program} {w : World} : ∀ {es : List DictEntry} {vs : List (Key × Value)}, Pairs (mixKind P w) es vs → es.map (·.val) = vs.map (·.2)
  | _, _, .nil => rfl
  | _, _, .cons _ e t => by
    rw [List.map_cons, List.map_cons, e, vals_eq t]
theorem kv_keys : ∀ {kvs : List (Key × V)} {vs : List (Key × Value)}, KV kvs vs → kvs.map (fun kv => keyD kv.1) = vs.map (fun kv => keyD kv.1)
  | _, _, .nil => rfl
  | _, _, .cons h t => by
    rw [List.map_cons, List.map_cons, h.1, kv_keys t]
theorem kv_vals : ∀ {kvs : List (Key × V)} {vs : List (Key × Value)}, KV kvs vs → Vals (kvs.map (·.2)) (vs.map (·.2))
  | _, _, .nil => .nil
  | _, _, .cons h t => .cons h.2 (kv_vals t)
mutual
theorem Dx.reads (I : Inv X pins σ H s) (hs : H sysModules = none) : ∀ {x : V} {d : PyData}, Dx N H x d → ∀ {u : Value}, RelV x u → ∃ as, Reads s.heap u d as ∧ sysModules ∉ as
  | _, _, .non, u, r => by
    obtain rfl : u = Value.none := r
    exact ⟨[], .none, by simp⟩
  | _, _, .bl b, u, r => by
    obtain rfl : u = Value.bool b := r
    exact ⟨[], .bool b, by simp⟩
  | _, _, .int i, u, r => by
    obtain ⟨t, rfl⟩ : ∃ t, u = Value.int i t := r
    exact ⟨[], .int i t, by simp⟩
  | _, _, .str x, u, r => by
    obtain ⟨t, rfl⟩ : ∃ t, u = Value.str x t := r
    exact ⟨[], .str x t, by simp⟩
  | _, _, .lst (a := a) (xs := xs) ha hN t, u, r => by
    obtain rfl : u = Value.ref a := r
    obtain ⟨_, its, n, rv, e⟩ := (show ObjOk X.prog X.w H s.heap a (.lst xs) from I.hok a _ ha)
    obtain ⟨as, q, ns⟩ := DxAll.reads I hs t rv
    refine ⟨a :: as, .list e rfl rfl (by simpa using q), fun z => ?_⟩
    rcases List.mem_cons.mp z with z | z
    · rw [z, ha] at hs
      cases hs
    · exact ns z
  | _, _, .tup (a := a) (xs := xs) ha hN t, u, r => by
    obtain rfl : u = Value.ref a := r
    obtain ⟨_, its, rv, o, e, hc, n, hd⟩ := (show ObjOk X.prog X.w H s.heap a (.tup xs) from I.hok a _ ha)
    obtain ⟨as, q, ns⟩ := DxAll.reads I hs t rv
    exact ⟨as, .tuple e hc hd (by simpa using q), ns⟩
  | _, _, .dct (a := a) (kvs := kvs) (ds := ds) ha hN t, u, r => by
    obtain rfl : u = Value.ref a := r
    obtain ⟨_, _, vs, kv, o, es, ep, ho, hc, hdt, _, hp, _⟩ := (show ObjOk X.prog X.w H s.heap a (.dK kvs) from I.hok a _ ha)
    obtain ⟨as, q, ns⟩ := DxAll.reads I hs t (kv_vals kv)
    have hl := DxAll.length t
    have hl2 : (kvs.map fun kv => keyD kv.1).length = ds.length := by rw [List.length_map, ← hl, List.length_map]
    have k1 := keys_read (h := s.heap) hp
    rw [← kv_keys kv] at k1
    refine ⟨_, .dict (as := []) (bs := as) ho hc.1 hdt ?_ ?_, fun z => ?_⟩
    · rw [List.map_fst_zip (Nat.le_of_eq hl2)]
      exact k1
    · rw [List.map_snd_zip (Nat.le_of_eq hl2.symm), vals_eq hp]
      exact q
    · rcases List.mem_append.mp z with z | z
      · rw [List.mem_singleton.mp z, ha] at hs
        cases hs
      · exact ns z
theorem DxAll.reads (I : Inv X pins σ H s) (hs : H sysModules = none) : ∀ {xs : List V} {ds : List PyData}, DxAll N H xs ds → ∀ {us : List Value}, Vals xs us → ∃ as, ReadsAll s.heap us ds as ∧ sysModules ∉ as
  | _, _, .nil, _, .nil => ⟨[], .nil, by simp⟩
  | _, _, .cons h t, _, .cons r rs => by
    obtain ⟨as, q, n⟩ := Dx.reads I hs h r
    obtain ⟨bs, q2, n2⟩ := DxAll.reads I hs t rs
    exact ⟨as ++ bs, .cons q q2, fun z => (List.mem_append.mp z).elim n n2⟩
end
/-- repr(data) -/
def rReprX : List V → Hp → VK → Prop := fun xs H Q => ∃ (N : Addr → Prop) (x : V) (d : PyData), xs = [x] ∧ Dx N H x d ∧ d.showable = true ∧ d.depth ≤ 40 ∧ d.shown.length ≤ sizeLine ∧ Q (.str d.shown) H
theorem cr_reprX (hb : ∃ mm, X.base.Ns sysModules mm) (hg : X.A.guards = some []) (hu : X.A.units + 64 < cLine) : CallR X (.builtin "repr") rReprX := by
  intro pins s σ H xs us Q I r h
  obtain ⟨N, x, d, rfl, hd, hs, hdp, hz, q⟩ := h
  obtain ⟨u, rfl, ru⟩ := vals1 r
  have h1 : H sysModules = none := by
    obtain ⟨mm, o, es, ep, e, _⟩ := hb
    exact (I.bs _ _ e).2
  obtain ⟨as, rd, hsm⟩ := Dx.reads I h1 hd ru
  cases rd with
  | none => exact PySem.P.repr_of_none ⟨.str _, H, I.tok _, ⟨_, rfl⟩, q⟩
  | bool b => exact PySem.P.repr_of_bool ⟨.str _, H, I.tok _, ⟨_, rfl⟩, q⟩
  | int i t => exact PySem.P.repr_of_int (of_decide_eq_true hs) ⟨.str _, H, I.tok _, ⟨_, rfl⟩, q⟩
  | str z t => exact PySem.P.repr_of_str ⟨.str _, H, I.tok _, ⟨_, rfl⟩, q⟩ hz
  | list a1 a2 a3 a4 => exact repr_of_reads' (.list a1 a2 a3 a4) hs (fun _ => hsm) hg (by omega) (fun _ _ e => e) (fun h' u' tk hk => ⟨.str _, H, I.kept (t' := tk) hk, ⟨_, rfl⟩, q⟩) hz
  | tuple a1 a2 a3 a4 => exact repr_of_reads' (.tuple a1 a2 a3 a4) hs (fun _ => hsm) hg (by omega) (fun _ _ e => e) (fun h' u' tk hk => ⟨.str _, H, I.kept (t' := tk) hk, ⟨_, rfl⟩, q⟩) hz
  | dict a1 a2 a3 a4 a5 => exact repr_of_reads' (.dict a1 a2 a3 a4 a5) hs (fun _ => hsm) hg (by omega) (fun _ _ e => e) (fun h' u' tk hk => ⟨.str _, H, I.kept (t' := tk) hk, ⟨_, rfl⟩, q⟩) hz
end
end Mo

/-! ### rules for data of any kind -/
namespace Mo
open PySem PySem.Spec PyProof.Rows L2
section
variable {X : Cx}
/-- a list of anything == [] -/
def rEqNil (K : PySem.W.Frag) : R2 := fun x y H Q => ∃ a b xs, x = .ref a ∧ y = .ref b ∧ SqL K H a xs ∧ SqL K H b [] ∧ Q (.bl xs.isEmpty) H
theorem op_eqNil (hu : X.A.units + 64 < cLine) : OpR X (compareOp .Eq) (rEqNil X.K) := by
  intro pins s σ H x y v u Q I rx ry h
  obtain ⟨a, b, xs, rfl, rfl, ha, hb, q⟩ := h
  cases rx
  cases ry
  obtain ⟨is, r1, p1, _⟩ := I.list ha
  obtain ⟨js, r2, p2, _⟩ := I.list hb
  cases r2
  cases r1 with
  | nil => exact SeqAt.eq_listAt (e := fun _ => true) p1.isList p2.isList rfl (by omega) (fun j h1 => absurd h1 (by simp)) ⟨.bl true, H, I, rfl, q⟩
  | cons r rs => exact SeqAt.eq_list_lengthsAt p1.isList p2.isList (by simp) (by omega) ⟨.bl false, H, I, rfl, q⟩
/-- a list of anything != [] -/
def rNeNil (K : PySem.W.Frag) : R2 := fun x y H Q => ∃ a b xs, x = .ref a ∧ y = .ref b ∧ SqL K H a xs ∧ SqL K H b [] ∧ Q (.bl (!xs.isEmpty)) H
theorem op_neNil (hu : X.A.units + 64 < cLine) : OpR X (compareOp .NotEq) (rNeNil X.K) := by
  intro pins s σ H x y v u Q I rx ry h
  obtain ⟨a, b, xs, rfl, rfl, ha, hb, q⟩ := h
  cases rx
  cases ry
  obtain ⟨is, r1, p1, _⟩ := I.list ha
  obtain ⟨js, r2, p2, _⟩ := I.list hb
  cases r2
  cases r1 with
  | nil => exact SeqAt.RcNeAt.lists (e := fun _ => true) p1.isList p2.isList rfl (by omega) (fun j h1 => absurd h1 (by simp)) X.prog X.w X.xe _ ⟨.bl false, H, I, rfl, q⟩
  | cons r rs => exact SeqAt.RcNeAt.lists_lengths p1.isList p2.isList (by simp) (by omega) X.prog X.w X.xe _ ⟨.bl true, H, I, rfl, q⟩
/-- a tuple of anything != () -/
def rNeNilT (K : PySem.W.Frag) : R2 := fun x y H Q => ∃ a b xs, x = .ref a ∧ y = .ref b ∧ SqT K H a xs ∧ SqT K H b [] ∧ Q (.bl (!xs.isEmpty)) H
theorem op_neNilT (hu : X.A.units + 64 < cLine) : OpR X (compareOp .NotEq) (rNeNilT X.K) := by
  intro pins s σ H x y v u Q I rx ry h
  obtain ⟨a, b, xs, rfl, rfl, ha, hb, q⟩ := h
  cases rx
  cases ry
  obtain ⟨is, r1, p1, _⟩ := I.tuple ha
  obtain ⟨js, r2, p2, _⟩ := I.tuple hb
  cases r2
  have k1 : s.heap.IsTuple a is.toArray := p1
  have k2 : s.heap.IsTuple b (List.nil (α := Value)).toArray := p2
  refine SeqAt.RcNeAt.tuples (e := fun _ => true) k1 k2 (by omega) (fun j _ h2 => absurd h2 (by simp)) X.prog X.w X.xe _ ?_
  cases r1 with
  | nil => exact ⟨.bl false, H, I, rfl, q⟩
  | cons r rs => exact ⟨.bl true, H, I, by simp only [List.size_toArray, List.length_cons, List.length_nil, Nat.min_zero, List.range_zero, List.all_nil, Bool.true_and]; rfl, q⟩
theorem vals_signs : ∀ (cs : List Nat) (l : List Value), l.length = cs.length → (∀ (j : Nat) (v : Value), l[j]? = some v → ∃ c u, cs[j]? = some c ∧ v = .str ⟨#[c]⟩ u) → Vals (cs.map sg) l
  | [], [], _, _ => .nil
  | [], _ :: _, h, _ => by simp at h
  | _ :: _, [], h, _ => by simp at h
  | c :: cs, v :: l, h, q => by
    obtain ⟨c', u, e1, rfl⟩ := q 0 v rfl
    obtain rfl := Option.some.inj e1
    exact .cons ⟨u, rfl⟩ (vals_signs cs l (by simpa using h) fun j v e => q (j + 1) v e)
/-- tuple(a text) -/
theorem cr_tupS (hc : X.calm = true) : CallR X (.type "tuple") (fun xs H Q => ∃ cs : List Nat, xs = [.str (tx cs)] ∧ cs.length ≤ 100000 ∧ ∀ p, H p = none → Q (.ref p) (upd H p (.tup (cs.map sg)))) := by
  intro pins s σ H xs us Q I r h
  obtain ⟨cs, rfl, hz, q⟩ := h
  obtain ⟨u, rfl, t, rfl⟩ := vals1 r
  refine call_tuple_str (I.ok.hd hc) (tx cs) t (fun h' tk acc hk hacc => ?_) (by rw [tx_size]; exact fits5 hz)
  have I1 : Inv X pins σ H { s with heap := h', toks := tk } := I.kept (t' := tk) hk
  have I2 := I1.laid (t' := tk) (o := .tup (cs.map sg)) (h' := h'.push { cls := .type "tuple", data := .seq acc }) (fun b o e => Heap.get?_push_of_some _ e) (Nat.le_refl _) ⟨by rw [List.length_map]; exact fits5 hz, acc.toList, vals_signs cs acc.toList (by have := hacc.1; rw [tx_size] at this; simpa using this) (fun j v e => by
    obtain ⟨c, u, e1, e2⟩ := hacc.2 j v (by simpa using e)
    exact ⟨c, u, tx_get.symm.trans e1, e2⟩), IsTup.new _ _⟩
  exact ⟨.ref h'.objs.size, _, I2, rfl, q _ (I1.hok.fresh (Nat.le_refl _))⟩
/-- z * n, n a small number -/
def mulS (cs : List Nat) (n : Nat) : List Nat := (List.replicate n cs).flatten
theorem foldl_cat (a : List Nat) : ∀ (n : Nat) (acc : List Nat), ((List.replicate n a.toArray).foldl (fun x y => x ++ y) acc.toArray) = (acc ++ (List.replicate n a).flatten).toArray
  | 0, acc => by simp
  | n + 1, acc => by
    rw [List.replicate_succ, List.foldl_cons, List.replicate_succ, List.flatten_cons, ← List.append_assoc, ← foldl_cat a n (acc ++ a)]
    simp
theorem mulS_eq (cs : List Nat) (n : Nat) : Txt.mul (tx cs) (n : Int) = tx (mulS cs n) := by
  unfold Txt.mul mulS
  by_cases h0 : n = 0
  · subst h0
    rfl
  · rw [if_neg (by omega)]
    by_cases h1 : ((n : Int) == 1 || (tx cs).length == 0) = true
    · rw [if_pos h1]
      rcases Bool.or_eq_true_iff.mp h1 with h | h
      · have : n = 1 := by have := beq_iff_eq.mp h; omega
        subst this
        simp
      · have : cs = [] := by
          have := beq_iff_eq.mp h
          rw [tx_len] at this
          exact List.eq_nil_of_length_eq_zero this
        subst this
        simp
    · rw [if_neg h1, show (n : Int).toNat = n from rfl]
      have q := foldl_cat cs n []
      rw [List.nil_append] at q
      exact congrArg Str.mk q
theorem op_mulS : OpR X (binaryOp .Mult) (fun x y H Q => ∃ (cs : List Nat) (n : Nat), x = .str (tx cs) ∧ y = .int n ∧ cs.length ≤ 100000 ∧ n ≤ 100 ∧ Q (.str (tx (mulS cs n))) H) := by
  intro pins s σ H x y v u Q I rx ry h
  obtain ⟨cs, n, rfl, rfl, hz, hn, q⟩ := h
  obtain ⟨t, rfl⟩ := rx
  obtain ⟨t2, rfl⟩ := ry
  have hl : cs.length * n ≤ 100000 * 100 := Nat.mul_le_mul hz hn
  refine SB.mul ⟨?_, fun h1 h2 => ?_, fun h1 h2 => ?_⟩ fun t' k => ?_
  · rw [decide_eq_false (by omega), decide_eq_false (by omega)]
    rfl
  · rw [tx_len]
    have h3 : ((cs.length : Nat) : Int) * (n : Int) ≤ 2 ^ 63 - 1 := by
      rw [← Int.natCast_mul]
      omega
    have h4 : ((cs.length : Nat) : Int) ≤ (2 ^ 63 - 1) / (n : Int) := Int.le_ediv_of_mul_le (by omega) h3
    omega
  · rw [tx_len]
    show decide (cs.length * (n : Int).toNat > sizeLine) = false
    rw [sizeLine_eq]
    exact decide_eq_false (by show ¬ cs.length * n > _; omega)
  · rw [mulS_eq]
    exact ⟨.str _, H, I.tok _, ⟨_, rfl⟩, q⟩
/-- t * n -/
def rRepG (K : PySem.W.Frag) : R2 := fun x y H Q => ∃ (l : Addr) (n : Nat) (xs : List V), x = .ref l ∧ y = .int n ∧ SqT K H l xs ∧ xs ≠ [] ∧ 2 ≤ n ∧ n ≤ 100000 ∧ xs.length * n ≤ 1000000 ∧ ∀ p, H p = none → Q (.ref p) (upd H p (.tup (List.replicate n xs).flatten))
theorem op_repG : OpR X (binaryOp .Mult) (rRepG X.K) := by
  intro pins s σ H x y v u Q I rx ry h
  obtain ⟨l, n, xs, rfl, rfl, hT, hne, h1, h2, hz, q⟩ := h
  cases rx
  obtain ⟨t, rfl⟩ := ry
  obtain ⟨its, r, ⟨ob, ho, hc, m, hd⟩, hs⟩ := I.tuple hT
  obtain ⟨cls, dd, data, sl⟩ := ob
  obtain rfl : cls = .type "tuple" := hc
  obtain rfl : data = .seq its.toArray m := hd
  have hle := r.length
  have hi : its.toArray.isEmpty = false := by
    cases r with
    | nil => exact absurd rfl hne
    | cons _ _ => rfl
  have hm : xs.length * n ≤ 10 * 100000 := hz
  have hm2 : ((its.toArray.size : Nat) : Int) * (n : Int) = ((xs.length * n : Nat) : Int) := by
    rw [List.size_toArray, ← hle]
    exact (Int.natCast_mul _ _).symm
  have fl : (List.replicate n xs).flatten.length ≤ sizeLine := by
    rw [lm_len_rep_flat, Nat.mul_comm, sizeLine_eq]
    omega
  have fl2 : (List.foldl (fun x1 x2 => x1 ++ x2) #[] (List.replicate (n : Int).toNat its.toArray)).size ≤ sizeLine := by
    rw [size_rep, List.size_toArray, lm_len_rep_flat, ← hle, Nat.mul_comm, sizeLine_eq]
    show xs.length * n ≤ _
    omega
  refine wpAny_binaryOp_repeat_ref (T := "tuple") (U := "int") (by decide) ⟨_, ho, rfl⟩ (fun s' => typeIs_int s' n t) noFill_tuple_mul F.fills_int_mul F.slot_int_rmul repeat_tuple F.slot_int_index.lookup ?_
  refine call_meets F.slot_int_rmul (typeIs_int s n t) F.entry_int_rmul (F.args_int_rmul_2 _ _) (int_rmul_tuple n t l its.toArray m dd sl) ⟨ho, rfl, ⟨_, ho, rfl⟩, ?_⟩
  refine call_meets F.slot_tuple_mul ⟨_, ho, rfl⟩ F.entry_tuple_mul (F.args_tuple_mul_2 _ _) (tuple_mulW l its.toArray m dd sl n t ?_ ?_ ?_ ?_ ?_ fl2) ⟨ho, ?_⟩
  · rw [decide_eq_false (by omega), decide_eq_false (by omega)]
    rfl
  · rw [hi, Bool.false_or]
    exact beq_eq_false_iff_ne.mpr (by omega)
  · rw [hi, Bool.or_false]
    exact decide_eq_false (by omega)
  · rw [hm2]
    omega
  · unfold Builtin.Tuple.tupleTooMany
    rw [hm2, sizeLine_eq]
    exact decide_eq_false (by omega)
  · rw [size_rep]
    exact ⟨.ref s.heap.objs.size, _, I.laid (t' := s.toks) (o := .tup (List.replicate n xs).flatten) (fun b ob q => Heap.get?_push_of_some _ q) (Nat.le_refl _) ⟨fl, _, r.rep n, IsTup.new _ _⟩, rfl, q _ (I.hok.fresh (Nat.le_refl _))⟩
/-- t * n, t of few items -/
def rRepN (K : PySem.W.Frag) : R2 := fun x y H Q => ∃ (l : Addr) (n : Nat) (xs : List V), x = .ref l ∧ y = .int n ∧ SqT K H l xs ∧ xs ≠ [] ∧ 2 ≤ n ∧ n ≤ 100000 ∧ xs.length ≤ 10 ∧ ∀ p, H p = none → Q (.ref p) (upd H p (.tup (List.replicate n xs).flatten))
theorem op_repN : OpR X (binaryOp .Mult) (rRepN X.K) := by
  intro pins s σ H x y v u Q I rx ry h
  obtain ⟨l, n, xs, h1, h2, h3, h4, h5, h6, h7, q⟩ := h
  exact op_repG pins s σ H x y v u Q I rx ry ⟨l, n, xs, h1, h2, h3, h4, h5, h6, Nat.le_trans (Nat.mul_le_mul h7 h6) (by decide), q⟩
/-! what is made anew or is the old one, read alike -/
theorem catA_any {K : PySem.W.Frag} {a b : Addr} {xs ys : List V} {H : Hp} {Q : VK} (ha : H a = some (.tup xs)) (hb : H b = some (.tup ys)) (hl : xs.length + ys.length ≤ sizeLine)
    (q : ∀ p H', Same H H' → H' p = some (.tup (xs ++ ys)) → p = a ∨ p = b ∨ H p = none → Q (.ref p) H') : rCatA K (.ref a) (.ref b) H Q := by
  refine ⟨a, b, xs, ys, rfl, rfl, SqT.of ha, SqT.of hb, hl, fun e => ?_, fun _ e => ?_, fun _ _ p np => ?_⟩
  · subst e
    exact q b H (Same.refl H) hb (.inr (.inl rfl))
  · subst e
    exact q a H (Same.refl H) (by rw [List.append_nil]; exact ha) (.inl rfl)
  · exact q p _ (same_new np) upd_same (.inr (.inr np))
theorem slA_any {K : PySem.W.Frag} {a : Addr} {xs : List V} {lo hi : Option Int} {H : Hp} {Q : VK} (ha : H a = some (.tup xs)) (q : ∀ p H', Same H H' → H' p = some (.tup (cutV xs lo hi)) → p = a ∨ H p = none → Q (.ref p) H') : rSlA K (.ref a) lo hi H Q := by
  refine ⟨a, xs, rfl, SqT.of ha, fun e => ?_, fun _ p np => q p _ (same_new np) upd_same (.inr np)⟩
  have ec : cutV xs lo hi = xs := by
    unfold cutV
    rw [e.1, e.2, List.drop_zero, Nat.sub_zero, List.take_length]
  exact q a H (Same.refl H) (by rw [ec]; exact ha) (.inl rfl)
theorem cut_to (xs : List V) (n : Nat) : cutV xs none (some (n : Int)) = xs.take n := by
  unfold cutV
  rw [HT.sIx_none, HT.sIx_nat, List.drop_zero, Nat.sub_zero, List.take_eq_take_iff]
  omega
theorem cut_from (xs : List V) (n : Nat) : cutV xs (some (n : Int)) none = xs.drop n := by
  unfold cutV
  rw [HT.sIx_none, HT.sIx_nat]
  have e : xs.drop (min n xs.length) = xs.drop n := by
    by_cases h : n ≤ xs.length
    · rw [Nat.min_eq_left h]
    · rw [List.drop_of_length_le (by omega), List.drop_of_length_le (by omega)]
  rw [e]
  exact List.take_of_length_le (by rw [List.length_drop]; omega)
end
end Mo

set_option exponentiation.threshold 3000
/-! ### how great data is: its ints below 10 ^ B, its signs, its bulk, its depth -/
namespace Mo
open PySem PySem.Spec PyProof.Rows L2
mutual
def okD (B : Nat) : PyData → Prop
  | .none | .bool _ => True
  | .int i => i.natAbs < 10 ^ B
  | .str z => ∀ c ∈ z.cps.toList, c < 128
  | .list ds | .tuple ds => okAll B ds
  | .dict kvs => okKv B kvs
def okAll (B : Nat) : List PyData → Prop
  | [] => True
  | d :: ds => okD B d ∧ okAll B ds
def okKv (B : Nat) : List (PyData × PyData) → Prop
  | [] => True
  | (k, v) :: r => (okD B k ∧ okD B v) ∧ okKv B r
end
theorem okAll_iff {B : Nat} : ∀ {ds : List PyData}, okAll B ds ↔ ∀ d ∈ ds, okD B d
  | [] => by simp [okAll]
  | d :: ds => by
    rw [List.forall_mem_cons, ← okAll_iff (ds := ds)]
    simp only [okAll]
mutual
theorem okD.mono {B C : Nat} (h : B ≤ C) : ∀ {d : PyData}, okD B d → okD C d
  | .none, _ => by simp only [okD]
  | .bool _, _ => by simp only [okD]
  | .int i, q => by
    simp only [okD] at q ⊢
    exact Nat.lt_of_lt_of_le q (Nat.pow_le_pow_right (by decide) h)
  | .str z, q => by
    simp only [okD] at q ⊢
    exact q
  | .list ds, q => by
    simp only [okD] at q ⊢
    exact okAll.mono h q
  | .tuple ds, q => by
    simp only [okD] at q ⊢
    exact okAll.mono h q
  | .dict kvs, q => by
    simp only [okD] at q ⊢
    exact okKv.mono h q
theorem okAll.mono {B C : Nat} (h : B ≤ C) : ∀ {ds : List PyData}, okAll B ds → okAll C ds
  | [], _ => by simp only [okAll]
  | d :: ds, q => by
    simp only [okAll] at q ⊢
    exact ⟨okD.mono h q.1, okAll.mono h q.2⟩
theorem okKv.mono {B C : Nat} (h : B ≤ C) : ∀ {kvs : List (PyData × PyData)}, okKv B kvs → okKv C kvs
  | [], _ => by simp only [okKv]
  | (k, v) :: r, q => by
    simp only [okKv] at q ⊢
    exact ⟨⟨okD.mono h q.1.1, okD.mono h q.1.2⟩, okKv.mono h q.2⟩
end
theorem int_short {B : Nat} {i : Int} (hB : 1 ≤ B) (h : i.natAbs < 10 ^ B) : (PyData.shown (.int i)).length ≤ B + 1 := by
  rw [PyData.shown_int, PySem.ofString_length]
  exact int_text_length_le10 hB h
/-- str(i) -/
theorem int_signs (i : Int) : ∀ c ∈ (Str.ofString (toString i)).cps.toList, c < 128 := fun c hc => by
  by_cases h : c ≠ 45 ∧ (c < 48 ∨ 57 < c)
  · exact absurd hc (int_text_free' c h i)
  · omega
theorem int_text_size {B : Nat} {i : Int} (hB : 1 ≤ B) (h : i.natAbs < 10 ^ B) : (Str.ofString (toString i)).cps.size ≤ B + 1 := by
  have q := int_short hB h
  rw [PyData.shown_int] at q
  exact q
theorem log_small {B n : Nat} (hB : B ≤ 100) (h : n < 10 ^ B) : n.log2 < 1920 := by
  by_cases h0 : n = 0
  · subst h0
    decide
  · have h1 : n < 2 ^ 1920 := Nat.lt_of_lt_of_le h (Nat.le_trans (Nat.pow_le_pow_right (by decide) hB) (by decide))
    exact (Nat.log2_lt h0).mpr h1
mutual
theorem okD.short {B : Nat} (hB : 1 ≤ B) : ∀ {d : PyData}, okD B d → d.leavesShort (B + 8) = true
  | .none, _ => by simp only [PyData.leavesShort]
  | .bool _, _ => by simp only [PyData.leavesShort]
  | .int i, q => by
    simp only [okD] at q
    have := int_short hB q
    simp only [PyData.leavesShort]
    exact decide_eq_true (by omega)
  | .str z, q => by
    simp only [okD] at q
    simp only [PyData.leavesShort, List.all_eq_true]
    exact fun c hc => decide_eq_true (Nat.lt_trans (q c hc) (by decide))
  | .list ds, q => by
    simp only [okD, PyData.leavesShort] at q ⊢
    exact okAll.short hB q
  | .tuple ds, q => by
    simp only [okD, PyData.leavesShort] at q ⊢
    exact okAll.short hB q
  | .dict kvs, q => by
    simp only [okD, PyData.leavesShort] at q ⊢
    exact okKv.short hB q
theorem okAll.short {B : Nat} (hB : 1 ≤ B) : ∀ {ds : List PyData}, okAll B ds → PyData.leavesShortAll (B + 8) ds = true
  | [], _ => by simp only [PyData.leavesShortAll]
  | d :: ds, q => by
    simp only [okAll, PyData.leavesShortAll, Bool.and_eq_true] at q ⊢
    exact ⟨okD.short hB q.1, okAll.short hB q.2⟩
theorem okKv.short {B : Nat} (hB : 1 ≤ B) : ∀ {kvs : List (PyData × PyData)}, okKv B kvs → PyData.leavesShortKv (B + 8) kvs = true
  | [], _ => by simp only [PyData.leavesShortKv]
  | (k, v) :: r, q => by
    simp only [okKv, PyData.leavesShortKv, Bool.and_eq_true] at q ⊢
    exact ⟨⟨okD.short hB q.1.1, okD.short hB q.1.2⟩, okKv.short hB q.2⟩
end
mutual
theorem okD.show {B : Nat} (hB : B ≤ 100) : ∀ {d : PyData}, okD B d → d.showable = true
  | .none, _ => by simp only [PyData.showable]
  | .bool _, _ => by simp only [PyData.showable]
  | .int i, q => by
    simp only [okD, PyData.showable] at q ⊢
    exact decide_eq_true (log_small hB q)
  | .str z, q => by simp only [PyData.showable]
  | .list ds, q => by
    simp only [okD, PyData.showable] at q ⊢
    exact okAll.show hB q
  | .tuple ds, q => by
    simp only [okD, PyData.showable] at q ⊢
    exact okAll.show hB q
  | .dict kvs, q => by
    simp only [okD, PyData.showable] at q ⊢
    exact okKv.show hB q
theorem okAll.show {B : Nat} (hB : B ≤ 100) : ∀ {ds : List PyData}, okAll B ds → PyData.showableAll ds = true
  | [], _ => by simp only [PyData.showableAll]
  | d :: ds, q => by
    simp only [okAll, PyData.showableAll, Bool.and_eq_true] at q ⊢
    exact ⟨okD.show hB q.1, okAll.show hB q.2⟩
theorem okKv.show {B : Nat} (hB : B ≤ 100) : ∀ {kvs : List (PyData × PyData)}, okKv B kvs → PyData.showableKv kvs = true
  | [], _ => by simp only [PyData.showableKv]
  | (k, v) :: r, q => by
    simp only [okKv, PyData.showableKv, Bool.and_eq_true] at q ⊢
    exact ⟨⟨okD.show hB q.1.1, okD.show hB q.1.2⟩, okKv.show hB q.2⟩
end
theorem bulkAll_app : ∀ (a b : List PyData), PyData.bulkAll (a ++ b) = PyData.bulkAll a + PyData.bulkAll b
  | [], b => by simp [PyData.bulkAll]
  | x :: a, b => by
    rw [List.cons_append]
    simp only [PyData.bulkAll]
    rw [bulkAll_app a b]
    omega
theorem depthAll_le {n : Nat} : ∀ {ds : List PyData}, PyData.depthAll ds ≤ n ↔ ∀ d ∈ ds, d.depth ≤ n
  | [] => by simp [PyData.depthAll]
  | d :: ds => by
    rw [List.forall_mem_cons, ← depthAll_le (ds := ds)]
    simp only [PyData.depthAll]
    exact Nat.max_le
/-- data of these bounds -/
structure Fit (B W D : Nat) (d : PyData) : Prop where
  ok : okD B d
  bulk : d.bulk ≤ W
  deep : d.depth ≤ D
/-- lists of such data, of this bulk together -/
structure FitAll (B W D : Nat) (ds : List PyData) : Prop where
  ok : okAll B ds
  bulk : PyData.bulkAll ds ≤ W
  deep : PyData.depthAll ds ≤ D
theorem Fit.mono {B W D B' W' D' : Nat} {d : PyData} (h : Fit B W D d) (h1 : B ≤ B') (h2 : W ≤ W') (h3 : D ≤ D') : Fit B' W' D' d := ⟨h.ok.mono h1, Nat.le_trans h.bulk h2, Nat.le_trans h.deep h3⟩
theorem FitAll.app {B W D W' : Nat} {a b : List PyData} (h : FitAll B W D a) (g : FitAll B W' D b) : FitAll B (W + W') D (a ++ b) :=
  ⟨okAll_iff.mpr fun d hd => (List.mem_append.mp hd).elim (okAll_iff.mp h.ok d) (okAll_iff.mp g.ok d), by rw [bulkAll_app]; exact Nat.add_le_add h.bulk g.bulk, depthAll_le.mpr fun d hd => (List.mem_append.mp hd).elim (depthAll_le.mp h.deep d) (depthAll_le.mp g.deep d)⟩
theorem FitAll.tup {B W D : Nat} {a : List PyData} (h : FitAll B W D a) : Fit B W (D + 1) (.tuple a) := ⟨by simp only [okD]; exact h.ok, by simp only [PyData.bulk]; exact h.bulk, by simp only [PyData.depth]; exact Nat.succ_le_succ h.deep⟩
theorem FitAll.lst {B W D : Nat} {a : List PyData} (h : FitAll B W D a) : Fit B W (D + 1) (.list a) := ⟨by simp only [okD]; exact h.ok, by simp only [PyData.bulk]; exact h.bulk, by simp only [PyData.depth]; exact Nat.succ_le_succ h.deep⟩
theorem Fit.of_tup {B W D : Nat} {a : List PyData} (h : Fit B W (D + 1) (.tuple a)) : FitAll B W D a := ⟨by have := h.ok; simp only [okD] at this; exact this, by have := h.bulk; simp only [PyData.bulk] at this; exact this, by have := h.deep; simp only [PyData.depth] at this; omega⟩
theorem Fit.one {B W D : Nat} {d : PyData} (h : Fit B W D d) : FitAll B (W + 1) D [d] := ⟨by simp only [okAll]; exact ⟨h.ok, trivial⟩, by simp only [PyData.bulkAll]; have := h.bulk; omega, by simp only [PyData.depthAll]; have := h.deep; omega⟩
theorem FitAll.sub {B W D : Nat} {a b : List PyData} (h : FitAll B W D b) (hs : a.Sublist b) : FitAll B (PyData.bulkAll a) D a := ⟨okAll_iff.mpr fun d hd => okAll_iff.mp h.ok d (hs.subset hd), Nat.le_refl _, depthAll_le.mpr fun d hd => depthAll_le.mp h.deep d (hs.subset hd)⟩
theorem FitAll.mono {B W D B' W' D' : Nat} {d : List PyData} (h : FitAll B W D d) (h1 : B ≤ B') (h2 : W ≤ W') (h3 : D ≤ D') : FitAll B' W' D' d := ⟨h.ok.mono h1, Nat.le_trans h.bulk h2, Nat.le_trans h.deep h3⟩
theorem FitAll.len {B W D : Nat} {a : List PyData} (h : FitAll B W D a) : a.length ≤ W := by
  have key : ∀ a : List PyData, a.length ≤ PyData.bulkAll a := by
    intro a
    induction a with
    | nil => exact Nat.zero_le _
    | cons x a ih =>
      simp only [PyData.bulkAll, List.length_cons]
      omega
  exact Nat.le_trans (key a) h.bulk
/-- what repr asks -/
theorem Fit.repr {B W D : Nat} {d : PyData} (h : Fit B W D d) (h1 : 1 ≤ B) (h2 : B ≤ 40) (h3 : W ≤ 300000) (h4 : D ≤ 40) : d.showable = true ∧ d.depth ≤ 40 ∧ d.shown.length ≤ sizeLine := by
  refine ⟨h.ok.show (by omega), Nat.le_trans h.deep h4, ?_⟩
  have q := PyData.shown_le_bulk (B + 8) (by omega) d (h.ok.short h1)
  have hb := h.bulk
  have m : (B + 8 + 2) * d.bulk ≤ 50 * 300000 := Nat.mul_le_mul (by omega) (by omega)
  rw [sizeLine_eq]
  omega
/-! ### kinds -/
def tyD : PyData → String
  | .none => "NoneType"
  | .bool _ => "bool"
  | .int _ => "int"
  | .str _ => "str"
  | .list _ => "list"
  | .tuple _ => "tuple"
  | .dict _ => "dict"
theorem Dx.ty {N : Addr → Prop} {K : PySem.W.Frag} {H : Hp} {x : V} {d : PyData} (h : Dx N H x d) : TyX K H x (.type (tyD d)) := by
  cases h with
  | non => exact .base .non
  | bl b => exact .base (.bl b)
  | int i => exact .base (.int i)
  | str z => exact .base (.str z)
  | lst h _ _ => exact .base (.lst h)
  | tup h _ _ => exact .base (.tup h)
  | dct h _ _ => exact .base (.dK h)
def letterD : PyData → Bool
  | .int i => decide (0 ≤ i) && decide (i ≤ 999999)
  | _ => false
def textD : PyData → Bool
  | .tuple ds => decide (ds.length ≤ 4096) && ds.all letterD
  | _ => false
end Mo

/-! ### data written out: new, and holding nothing that was there -/
namespace Mo
open PySem PySem.Spec PyProof.Rows L2
def Was (H0 : Hp) : Addr → Prop := fun a => H0 a ≠ none
theorem Was.mono {H H' : Hp} (s : Same H H') {b : Addr} (h : Was H b) : Was H' b := by
  cases e : H b with
  | none => exact absurd e h
  | some o =>
    unfold Was
    rw [s _ _ e]
    exact Option.some_ne_none _
def LitE (te : TE) (d : PyData) : Prop := ∀ σ H Q, (∀ H' v, Same H H' → Dx (Was H) H' v d → Q v H') → te σ H Q
def LitA (ta : TA) (ds : List PyData) : Prop := ∀ σ H Q, (∀ H' vs, Same H H' → DxAll (Was H) H' vs ds → Q vs H') → ta σ H Q
theorem LitE.use {te : TE} {d : PyData} (h : LitE te d) {σ : L2.St} {H : Hp} {Q : VK} (q : ∀ H' v, Same H H' → Dx (Was H) H' v d → Q v H') : te σ H Q := h σ H Q q
theorem lit_non : LitE (tC .non) .none := fun _ _ _ q => q _ _ (Same.refl _) .non
theorem lit_bl {b : Bool} : LitE (tC (.bl b)) (.bool b) := fun _ _ _ q => q _ _ (Same.refl _) (.bl b)
theorem lit_int {i : Int} : LitE (tC (.int i)) (.int i) := fun _ _ _ q => q _ _ (Same.refl _) (.int i)
theorem lit_str {x : Str} : LitE (tC (.str x)) (.str x) := fun _ _ _ q => q _ _ (Same.refl _) (.str x)
theorem lit_neg {i : Int} : LitE (tUn (rU fun i => .int (-i)) (tC (.int i))) (.int (-i)) := fun _ _ _ q => ⟨i, rfl, q _ _ (Same.refl _) (.int _)⟩
theorem lit_pow {i j : Int} (h : CPow i j) : LitE (tOp (rI CPow fun i j => .int (i ^ j.toNat)) (tC (.int i)) (tC (.int j))) (.int (i ^ j.toNat)) := fun _ _ _ q => ⟨i, j, rfl, rfl, h, q _ _ (Same.refl _) (.int _)⟩
theorem lit_nil : LitA tNil [] := fun _ _ _ q => q _ _ (Same.refl _) .nil
theorem lit_cons {te : TE} {ta : TA} {d : PyData} {ds : List PyData} (h : LitE te d) (g : LitA ta ds) : LitA (tCons te ta) (d :: ds) := fun σ H Q q =>
  h σ H _ fun H1 v s1 hv => g σ H1 _ fun H2 vs s2 hvs => q H2 (v :: vs) (s1.trans s2) (.cons (hv.same s2) (hvs.more fun b _ z => Was.mono s1 z))
theorem lit_tup {t : TA} {ds : List PyData} (h : LitA t ds) (hl : ds.length ≤ 1000 := by decide) : LitE (tTup t) (.tuple ds) := fun σ H Q q =>
  h σ H _ fun H1 vs s1 hx => ⟨Nat.le_of_lt (small1000 (by rw [hx.length]; exact hl)), fun p np => q _ _ (s1.trans (same_new np)) (.tup upd_same (fun z => z (s1.free np)) (hx.same (same_new np)))⟩
theorem lit_lst {t : TA} {ds : List PyData} (h : LitA t ds) (hl : ds.length ≤ 1000 := by decide) : LitE (tLst t) (.list ds) := fun σ H Q q =>
  h σ H _ fun H1 vs s1 hx => ⟨Nat.le_of_lt (small1000 (by rw [hx.length]; exact hl)), fun p np => q _ _ (s1.trans (same_new np)) (.lst upd_same (fun z => z (s1.free np)) (hx.same (same_new np)))⟩
theorem lit_dnew : LitE tDNewK (.dict []) := fun σ H Q q p np => q _ _ (same_new np) (.dct (kvs := []) (ds := []) upd_same (fun z => z np) .nil)
theorem lit_disp1 {k : Key} {tv : TE} {d : PyData} (h : LitE tv d) : LitE (tDisp [(tC (kV k), tv)]) (.dict [(keyD k, d)]) := fun σ H Q q p np =>
  h σ _ _ fun H1 v s1 hv => ⟨s1 _ _ upd_same, [(k, v)], rfl, by show 1 ≤ 15; decide, by
    have n1 : H p = none := np
    have e : mergeK [] [(k, v)] = [(k, v)] := rfl
    rw [e]
    refine q _ _ (Same.put ((same_new np).trans s1) np) (.dct (kvs := [(k, v)]) (ds := [d]) upd_same (fun z => z np) (.cons ?_ .nil))
    refine (hv.more (N' := fun b => Was H b ∨ b = p) fun b _ z => z.elim (fun z => Was.mono (same_new np) z) (fun z => ?_)).but ?_ |>.more fun b _ z => .inl z
    · subst z
      unfold Was
      rw [upd_same]
      exact Option.some_ne_none _
    · intro b o nb e
      rw [upd_ne fun z => nb (.inr z)]
      exact e⟩
theorem lit_dispS {x : Str} {tv : TE} {d : PyData} (h : LitE tv d) : LitE (tDisp [(tC (.str x), tv)]) (.dict [(.str x, d)]) := lit_disp1 (k := .inr x) h
theorem lit_dispI {i : Int} {tv : TE} {d : PyData} (h : LitE tv d) : LitE (tDisp [(tC (.int i), tv)]) (.dict [(.int i, d)]) := lit_disp1 (k := .inl i) h
/-! what stands behind -/
theorem lst_dx {N : Addr → Prop} {H : Hp} {x : V} {ds : List PyData} (h : Dx N H x (.list ds)) : ∃ a xs, x = .ref a ∧ H a = some (.lst xs) ∧ ¬ N a ∧ DxAll N H xs ds := by
  generalize e : PyData.list ds = d at h
  cases h with
  | lst h n t => obtain rfl := PyData.list.inj e; exact ⟨_, _, rfl, h, n, t⟩
  | _ => cases e
theorem tpl_dx {N : Addr → Prop} {H : Hp} {x : V} {ds : List PyData} (h : Dx N H x (.tuple ds)) : ∃ a xs, x = .ref a ∧ H a = some (.tup xs) ∧ ¬ N a ∧ DxAll N H xs ds := by
  generalize e : PyData.tuple ds = d at h
  cases h with
  | tup h n t => obtain rfl := PyData.tuple.inj e; exact ⟨_, _, rfl, h, n, t⟩
  | _ => cases e
theorem keyD_inj : ∀ {a b : Key}, keyD a = keyD b → a = b
  | .inl _, .inl _, h => congrArg Sum.inl (PyData.int.inj h)
  | .inr _, .inr _, h => congrArg Sum.inr (PyData.str.inj h)
  | .inl _, .inr _, h => by cases h
  | .inr _, .inl _, h => by cases h
theorem dct1_dx {N : Addr → Prop} {H : Hp} {x : V} {k : Key} {e : PyData} (h : Dx N H x (.dict [(keyD k, e)])) : ∃ a u, x = .ref a ∧ H a = some (.dK [(k, u)]) ∧ ¬ N a ∧ Dx N H u e := by
  generalize q : PyData.dict [(keyD k, e)] = d at h
  cases h with
  | @dct a kvs ds h n t =>
    have q1 := PyData.dict.inj q
    cases kvs with
    | nil => cases t; cases q1
    | cons kv r =>
      cases t with
      | @cons _ _ d ds h1 t =>
        rw [List.map_cons, List.zip_cons_cons] at q1
        have q2 := List.cons.inj q1
        have q3 := Prod.mk.inj q2.1
        cases r with
        | nil =>
          cases t
          obtain ⟨k', u⟩ := kv
          have : k = k' := keyD_inj q3.1
          subst this
          refine ⟨a, u, rfl, h, n, ?_⟩
          rw [q3.2]
          exact h1
        | cons kv2 r =>
          cases t with
          | cons h2 t => cases q2.2
  | _ => cases q
end Mo

/-! ### the end of a law whose promise is an FnG -/
namespace Mo
open PySem PySem.Spec PyProof.Rows L2
theorem callG {P : Program} {w : World} {K : PySem.W.Frag} {mg mb : Str → Option Value} {CX : CXT} {k : Nat} {fa a : Addr} {fd : FuncData} {x : Str} {sp : Sp} {s₁ : Shared} {vs : List Value} {ns : List Int}
    (KX : K.In s₁.heap) (hns : s₁.heap.Ns mainGlobals mg) (hb : s₁.heap.Ns builtinsNs mb) (hbb : ∀ x : Str, x ≠ "__name__" → mb x = bootBuiltins x) (hlim : s₁.heap.NoLimit) (hg : s₁.gens = #[])
    (ha : s₁.heap.get? a = some { cls := .type "list", data := .seq vs.toArray }) (hi : IntsAre vs ns) (hl : ns.length ≤ sizeLine) (hr : Room k callerA)
    (F : ∀ base : Heap, K.In base → base.Ns mainGlobals mg → (∀ b m, s₁.heap.Ns b m → base.Ns b m) → FnG P w K mg base CX k fa fd [x] sp) (hbind : ∀ (s : Shared) (u : Value), BindsTo s fd ⟨[u], []⟩ [(x, u)])
    (hsp : ∀ H : Hp, Only H → SqL K H a (ns.map V.int) → sp [.ref a] H (fun v _ => v = .bl true) fun _ _ _ => False)
    (hCX : ∀ H e s', CX [] H s₁ (fun _ _ _ => False) e s' → False) :
    codeAny (model P w) callerA (.call (.ref fa) ⟨[.ref a], []⟩) (fun r s' => r = .ok (.ret (.bool true)) ∧ OldK s₁.heap s'.heap ∧ s'.os = s₁.os ∧ AllBare s'.gens) s₁ := by
  have rv := vals_ints hi
  have lenV := hi.length
  have core : ∀ H : Hp, Only H → SqL K H a (ns.map V.int) → HOk P w H s₁.heap → (∀ b, H b ≠ none → b = a) → (H a ≠ none → K.lookup a = none) →
      codeAny (model P w) callerA (.call (.ref fa) ⟨[.ref a], []⟩) (fun r s' => r = .ok (.ret (.bool true)) ∧ OldK s₁.heap s'.heap ∧ s'.os = s₁.os ∧ AllBare s'.gens) s₁ := by
    intro H hO hS hok hA hK
    have atA : ∀ {b : Addr} {u : HO}, H b = some u → b = a := fun {b u} q => hA b (by rw [q]; exact Option.some_ne_none _)
    have grnd : ∀ {b : Addr} {o : Obj}, s₁.heap.get? b = some o → H b = none → (hidT s₁.heap H).get? b = some o := fun e n => hidT_get e n
    have noA : ∀ {b : Addr} {o : Obj} {es : Array DictEntry} {ep : Nat}, s₁.heap.get? b = some o → o.data = .dict es ep → H b = none := fun {b o es ep} e d => by
      cases q : H b with
      | none => rfl
      | some u =>
        rw [atA q, ha] at e
        cases e
        cases (show Data.seq vs.toArray _ = Data.dict es ep from d)
    have nsK : ∀ {b : Addr} {m : Str → Option Value}, s₁.heap.Ns b m → (hidT s₁.heap H).Ns b m := fun {b m} ⟨o, es, ep, e, d, r⟩ => ⟨o, es, ep, grnd e (noA e d), d, r⟩
    have hKb : K.In (hidT s₁.heap H) := fun b o e => grnd (KX b o e) (by
      cases q : H b with
      | none => rfl
      | some u =>
        obtain rfl := atA q
        rw [hK (by rw [q]; exact Option.some_ne_none _)] at e
        cases e)
    have hM : Mod K mg (hidT s₁.heap H) := ⟨hKb, nsK hns, ⟨mb, nsK hb, hbb⟩, hlim.elim fun mc z => ⟨mc, nsK z.1, z.2⟩⟩
    have e0 : Env0 P w K mg (hidT s₁.heap H) callerA [] s₁ H := ⟨rfl, hM, fun b o e => of_hidT e, Nat.le_of_eq (hidT_size _ _), trivial, fun b hb => absurd (show b ∈ ([] : List Addr) from hb) (by simp), hok, .of_eq hg⟩
    refine codeAny_mono ((F _ hKb (nsK hns) fun b m z => nsK z).run callerA [] s₁ H ⟨[.ref a], []⟩ [.ref a] [.ref a] _ _ hr rfl e0 (hbind s₁ (.ref a)) (.cons rfl .nil) (hsp H hO hS)) fun r s' h => ?_
    cases r with
    | error e => exact (hCX H e s' h).elim
    | ok fl =>
      cases fl with
      | next => exact h.elim
      | brk => exact h.elim
      | cont => exact h.elim
      | ret u =>
        obtain ⟨v, H', os, bare, un, hok', r', q⟩ := h
        obtain rfl : v = .bl true := q
        obtain rfl : u = Value.bool true := r'
        refine ⟨rfl, OldK.of_keep fun b o e => ?_, os, bare⟩
        cases q : H b with
        | none => exact un.keep b o e q (by intro z; exact absurd (show b ∈ ([] : List Addr) from z) (by simp)) (by simp)
        | some u =>
          rcases hO b with z | ⟨ob, xs, z⟩
          · rw [q] at z
            cases z
          · have z2 := un.frzs b ob _ z
            have e1 := (hok b _ z).1
            rw [e] at e1
            cases e1
            exact (hok' b _ z2).1
  cases hk : K.lookup a with
  | some o =>
    have e := KX a o hk
    rw [ha] at e
    cases e
    exact core (fun _ => none) (fun _ => .inl rfl) (.inr ⟨_, vs.toArray, _, hk, rfl, rfl, rfl, by rw [List.size_toArray, lenV]; exact hl, by simpa using rv⟩) (fun b u z => nomatch z) (fun b z => absurd rfl z) fun z => absurd rfl z
  | none =>
    have at2 : ∀ {b : Addr} {u : HO}, (if b = a then some (HO.frz { cls := .type "list", data := .seq vs.toArray } (.lst (ns.map V.int))) else none) = some u → b = a ∧ u = .frz { cls := .type "list", data := .seq vs.toArray } (.lst (ns.map V.int)) := fun {b u} z => by
      by_cases hb : b = a
      · rw [if_pos hb] at z
        exact ⟨hb, (Option.some.inj z).symm⟩
      · rw [if_neg hb] at z
        cases z
    refine core (fun b => if b = a then some (.frz { cls := .type "list", data := .seq vs.toArray } (.lst (ns.map V.int))) else none) (fun b => ?_) (.inl (.inr ⟨{ cls := .type "list", data := .seq vs.toArray }, if_pos rfl⟩)) (fun b u z => ?_) (fun b z => ?_) fun _ => hk
    · by_cases hb : b = a
      · exact .inr ⟨_, _, if_pos hb⟩
      · exact .inl (if_neg hb)
    · obtain ⟨rfl, rfl⟩ := at2 z
      exact ⟨ha, by rw [List.length_map]; exact hl, vs, _, rv, ha⟩
    · by_cases hb : b = a
      · exact hb
      · exact absurd (if_neg hb) z
theorem walkG {l : PySem.W.OpenLaw} {n k : Nat} {q : Program} {loose : List Str} {XP : (Str → Option Value) → Heap → Prop} {YP : World → Heap → Prop} {d : DefRec} {K : Params → PySem.W.Frag} {CX : World → CXT} {sp : World → Sp} {x : Str}
    (hn : l.most = some n) (hn2 : n ≤ sizeLine) (hdf : d.params.defaults = []) (hr : Room k callerA) (hY : ∀ (w : World) (h : Heap), YP w h → (K w.params).In h)
    (F : ∀ (w : World) (mg : Str → Option Value) (fa : Addr) (h : Heap), (K w.params).In h → h.Ns mainGlobals mg → mg d.name = some (.ref fa) →
      ∃ fd : FuncData, (∀ (s : Shared) (u : Value), BindsTo s fd ⟨[u], []⟩ [(x, u)]) ∧ ∀ base : Heap, (K w.params).In base → base.Ns mainGlobals mg → FnG l.prog w (K w.params) mg base (CX w) k fa fd [x] (sp w))
    (hsp : ∀ (w : World) (H : Hp) (a : Addr) (ns : List Int), ns.length ≤ n → Only H → SqL (K w.params) H a (ns.map V.int) → sp w [.ref a] H (fun v _ => v = .bl true) fun _ _ _ => False)
    (hCX : ∀ (w : World) (H : Hp) (s : Shared) (e : Value) (s' : Shared), CX w [] H s (fun _ _ _ => False) e s' → False) :
    PySem.W.WalkO q loose XP YP l.row.toRowW d [] (fun f vs => PySem.call f vs) := by
  refine Att.attach_call hn hdf fun w s₀ s₁ mg mb fa o pm cd doc a vs ns G Y ho hd hcd hmg hobj hints hlen hg => ?_
  obtain ⟨fd, hb, hF⟩ := F w mg fa _ (hY w _ Y) G.T.g hmg
  exact callG (hY w _ Y) G.T.g G.T.b G.T.builtins G.T.nolimit hg hobj hints (Nat.le_trans hlen hn2) hr (fun base a b _ => hF base a b) hb (fun H hO hS => hsp w H a ns hlen hO hS) fun H e s' => hCX w H s₁ e s'
/-- where repr meets dicts: sys.modules is there, and is none of ours -/
theorem walkM {l : PySem.W.OpenLaw} {n k : Nat} {q : Program} {loose : List Str} {XP : (Str → Option Value) → Heap → Prop} {YP : World → Heap → Prop} {d : DefRec} {K : Params → PySem.W.Frag} {CX : World → CXT} {sp : World → Sp} {x : Str}
    (hn : l.most = some n) (hn2 : n ≤ sizeLine) (hdf : d.params.defaults = []) (hr : Room k callerA) (hY : ∀ (w : World) (h : Heap), YP w h → (K w.params).In h) (hi : importsNone q = true)
    (F : ∀ (w : World) (mg : Str → Option Value) (fa : Addr) (h : Heap), (K w.params).In h → h.Ns mainGlobals mg → mg d.name = some (.ref fa) →
      ∃ fd : FuncData, (∀ (s : Shared) (u : Value), BindsTo s fd ⟨[u], []⟩ [(x, u)]) ∧ ∀ base : Heap, (K w.params).In base → base.Ns mainGlobals mg → (∃ mm, base.Ns sysModules mm) → FnG l.prog w (K w.params) mg base (CX w) k fa fd [x] (sp w))
    (hsp : ∀ (w : World) (H : Hp) (a : Addr) (ns : List Int), ns.length ≤ n → Only H → SqL (K w.params) H a (ns.map V.int) → sp w [.ref a] H (fun v _ => v = .bl true) fun _ _ _ => False)
    (hCX : ∀ (w : World) (H : Hp) (s : Shared) (e : Value) (s' : Shared), CX w [] H s (fun _ _ _ => False) e s' → False) :
    PySem.W.WalkO q loose XP YP l.row.toRowW d [] (fun f vs => PySem.call f vs) := by
  refine Att.attach_call hn hdf fun w s₀ s₁ mg mb fa o pm cd doc a vs ns G Y ho hd hcd hmg hobj hints hlen hg => ?_
  obtain ⟨fd, hb, hF⟩ := F w mg fa _ (hY w _ Y) G.T.g hmg
  obtain ⟨mm, hm, _⟩ := (G.T.seer hi).mods
  exact callG (hY w _ Y) G.T.g G.T.b G.T.builtins G.T.nolimit hg hobj hints (Nat.le_trans hlen hn2) hr (fun base a b c => hF base a b ⟨mm, c _ _ hm⟩) hb (fun H hO hS => hsp w H a ns hlen hO hS) fun H e s' => hCX w H s₁ e s'
end Mo

/-! ### lambdas without parameters, handed to a def that calls them within a try -/
namespace Mo
open PySem PySem.Spec PyProof.Rows L2
section
variable {P : Program} {w : World} {K : PySem.W.Frag} {mg : Str → Option Value} {base : Heap} {k : Nat} {f c : Addr} {fd : FuncData} {ps : List Str} {sp : Sp}
/-- a def that raises nothing, the place of its code object told -/
theorem okT {x qual : Str} {st : Stmt} {N : List Str} (F : Fun K x qual st f fd) (hc : fd.code = .ref c) (S : FnScope N ps (defScope st)) (len : ∀ vs H Q E, sp vs H Q E → vs.length = ps.length)
    (hbody : ∀ (A : Around) (outer : List Env) (s : Shared) (H : Hp) (vs : List V) (Q : VK) (E : XK), Room k (A.deeper (envOfC qual (defScope st) s.heap.objs.size f (.ref c))) → A.guards = some [] → sp vs H Q E →
      ∃ t, PSs (cxOf CX0 P w K mg base N qual (defScope st) f (.ref c) A outer s H E).nox (defBody st) t ∧ t { nx := fun _ H' => Q .non H', rt := Q } (start N vs) H) : FnG P w K mg base CX0 (k + 1) f fd ps sp := by
  obtain ⟨oc, od, kV, doc, pm, an, cdv, ct, osl, rfl, lk, hcd⟩ := F.ex
  obtain rfl : cdv = .ref c := hc
  refine ⟨len, fun A outer s H args us vs Q E hr hg e0 hb r hsp => ?_⟩
  have stays : ∀ b o, base.get? b = some o → s.heap.get? b = some o := fun b o e => (e0.bs b o e).1
  have KX : K.In s.heap := e0.mod.kin.keeps stays
  have kinds : ∀ y ∈ ps.zip us, (defScope st).names.lookup y.1 = some .local ∨ ((defScope st).names.lookup y.1 = some .cell ∧ ((cellsFrom (s.heap.objs.size + 1) (defScope st).names []).lookup y.1).isSome = true) := fun y hy =>
    (S.par y.1 (List.of_mem_zip (a := y.1) (b := y.2) hy).1).elim .inl fun q => .inr ⟨q, PySem.W.cellsFrom_some _ _ _ (.inl q)⟩
  refine codeAny_call_function hr.depth (KX _ _ lk) rfl S.co S.gen rfl (PySem.W.codeRec_of KX hcd) (hb _ _ _ _ (wpAny_newFunctionEnv_cells S.kind kinds fun env he s1 x => ?_))
  subst he
  refine ⟨(e0.mod.nolimit.keeps stays).keeps x.toInCall.keep, codeAny_func ?_⟩
  obtain ⟨t, ht, hq⟩ := hbody A outer s H vs Q E (hr.deeper _) hg hsp
  have I : Inv (cxOf CX0 P w K mg base N qual (defScope st) f (.ref c) A outer s H E) [] (start N vs) H s1 := inv_start S hr.hd e0 (len _ _ _ _ hsp) r x
  refine wpAny_mono (ht.nox.run [] s1 (start N vs) H _ I hq) (fun fl s' hs => ?_) fun e s' hs => hs
  cases fl with
  | ret u => exact hs.elim fun v z => z.elim fun σ' z => z.elim fun H' z => ⟨v, H', z.1.os, z.1.bare, z.1.base, z.1.hok, z.2.1, z.2.2⟩
  | next => exact hs.elim fun σ' z => z.elim fun H' z => ⟨V.non, H', z.1.os, z.1.bare, z.1.base, z.1.hok, rfl, z.2⟩
  | brk => exact hs.elim fun _ z => z.elim fun _ z => z.2.elim
  | cont => exact hs.elim fun _ z => z.elim fun _ z => z.2.elim
end
/-- the call of what was got: it stands in slot i; what it lets out is wished by W there -/
def tAct (i : Nat) (fn cc : Addr) (q : Str) (tl : XK → Hp → VK → Prop) (W : WX) : TE := fun σ H Q =>
  σ[i]? = some (some (.ref fn)) ∧ H cc = some (LamX.CodeO cc q) ∧ ∃ E : XK, (∀ cls d H', E cls d H' → W cls d σ H') ∧ tl E H Q
section
variable {X : Cx} {pins : List (Addr × Obj)} {σ : L2.St} {H : Hp} {s : Shared}
theorem pe_actS {CXg : CXT} {Eg : XK} {Ng : List Str} {qg : Str} {sg : Scope} {g fn cc : Addr} {cdg pm ctv : Value} {params : Arguments} {body : Expr} {scope : Scope} {k i : Nat} {a : Str} {pn : List (Addr × Obj)} {xe : Value → Shared → Prop} {W : WX} {tb : XK → TE} {p1 p2 : Pos}
    (I : Inv X pins σ H s) (L : LamX.LamS X.env.scope scope) (hf : s.heap.get? fn = some (PySem.W.kla_obj "<lambda>" (X.env.qual ++ "<lambda>") params body scope (cloFrom X.env.cells scope.names []) pm cc ctv)) (nfn : H fn = none) (frn : fn ∉ frs X.stack)
    (hbind : bindArgs (PySem.W.kla_fn "<lambda>" (X.env.qual ++ "<lambda>") params body scope (cloFrom X.env.cells scope.names []) pm (.ref cc) ctv) ⟨[], []⟩ = pure [])
    (tk : Takes ((cxOf CXg X.prog X.w X.K X.mg X.base Ng qg sg g cdg X.A X.stack s H Eg).tr pn xe) W) (hr : Room (k + 1) (X.A.deeper (envOfC qg sg s.heap.objs.size g cdg)))
    (hbody : ∀ (A : Around) (outer : List Env) (s' : Shared) (H' : Hp) (E : XK), Room k (A.deeper (LamX.lamEnv X scope s'.heap.objs.size fn cc)) → A.guards = X.A.guards → PE (LamX.lamCx X A outer s' H' E scope fn cc) body (tb E))
    (hN : Ng[i]? = some a) (hv : Vis sg a) (hd : (a == ("__debug__" : Str)) = false := by decide) (hcd : (a == ("__classdict__" : Str)) = false := by decide) :
    PE ((cxOf CXg X.prog X.w X.K X.mg X.base Ng qg sg g cdg X.A X.stack s H Eg).tr pn xe) (.Call (.Name a p1) [] [] p2) (tAct i fn cc (X.env.qual ++ "<lambda>") (fun E H' Q' => tb E σ H' Q') W) := by
  refine ⟨fun pinsZ sZ σZ HZ Q IZ want => ?_⟩
  obtain ⟨at_i, at_c, E, toW, told⟩ := want
  refine wpAny_Call_Name_kw (thn ((pe_var (pos := p1) (i := i) hN hv hd hcd).run pinsZ sZ σZ HZ (fun v H1 => v = .ref fn ∧ H1 = HZ) IZ ⟨.ref fn, at_i, rfl, rfl⟩) fun u s1 got => ?_)
  obtain ⟨v, H1, J1, rv, ev, eH⟩ := got
  subst ev
  subst eH
  obtain rfl : u = Value.ref fn := rv
  have stands := J1.base.keep fn _ hf nfn frn (fun z => nomatch (show fn ∈ ([] : List Addr) from z))
  refine PySem.W.callWith_F0 ⟨_, _, _, _, stands⟩ ?_
  have kept : Un (frs X.stack) [] H H1 s.heap s1.heap := J1.base
  obtain ⟨⟨ob, us, tk1, g1, g2, g3⟩, _, _⟩ := J1.hok cc _ at_c
  have runs : codeAny (model X.prog X.w) (X.A.deeper (envOfC qg sg s.heap.objs.size g cdg)) (.call (.ref fn) ⟨[], []⟩) (CR (L2.CX X.prog X.w) (envOfC qg sg s.heap.objs.size g cdg :: X.stack) X.prog X.w H1 s1 Q E) s1 := by
    refine PySem.W.kla_callFunE hr.depth stands rfl L.co L.gen rfl ⟨cc, ob, us, tk1, rfl, g1, g2, g3⟩ ?_
    rw [hbind]
    refine wpAny_pure (wpAny_newFunctionEnv (fun y hy => (L.own y hy).2) (fun y hy => absurd hy (by simp)) (fun h₂ names sub => ⟨J1.nolimit.fresh _ sub, ?_⟩) L.kind)
    show codeAny _ _ (.expr body (LamX.lamEnv X scope s1.heap.objs.size fn cc)) _ _
    have old : ∀ b o, s1.heap.get? b = some o → h₂.get? b = some o := fun b o e => sub.extBut b o (Nat.ne_of_lt (Heap.lt_size e)) (Heap.get?_push_of_some _ e)
    have J : Inv (LamX.lamCx X (X.A.deeper (envOfC qg sg s.heap.objs.size g cdg)) (envOfC qg sg s.heap.objs.size g cdg :: X.stack) s1 H1 E scope fn cc) [] σ H1 { s1 with heap := h₂, toks := s1.toks + ([] : List (Str × Value)).length } := LamX.lam_start2 I L J1.env0 hr.hd kept names old
    refine PySem.W.kla_codeExpr (wpAny_mono ((hbody _ _ s1 H1 E (hr.deeper _) rfl).run [] _ _ H1 Q J told) (fun v s' hq => hq.elim fun w' z => z.elim fun H' z => ⟨w', H', z.1.os, z.1.bare, z.1.base, z.1.hok, z.2.1, z.2.2⟩) fun e s' hq => hq)
  refine wpAny_call (codeAny_mono runs fun r s' hq => ?_)
  cases r with
  | error e => exact tk e s' (XE.of_call J1 (fun cls d H' h => toW cls d H' h) hq)
  | ok fl =>
    cases fl with
    | ret u => exact J1.after hq
    | next => exact hq.elim
    | brk => exact hq.elim
    | cont => exact hq.elim
/-- the def that calls what it got, by its body; TT: what it makes of the lambda's reading -/
def Gives (X : Cx) (Ng : List Str) (x : Str) (sg : Scope) (g : Addr) (cdg : Value) (bg : List Stmt) (a : Str) (q : Str) (k : Nat) (TT : (XK → Hp → VK → Prop) → Hp → VK → Prop) : Prop :=
  ∀ (fn cc : Addr) (s : Shared) (H : Hp) (Q : VK) (tl : XK → Hp → VK → Prop), Room (k + 1) (X.A.deeper (envOfC x sg s.heap.objs.size g cdg)) →
    (∀ (W : WX) (pn : List (Addr × Obj)) (xe : Value → Shared → Prop) (p1 p2 : Pos), Takes ((cxOf CX0 X.prog X.w X.K X.mg X.base Ng x sg g cdg X.A X.stack s H C8.E0).nox.tr pn xe) W →
      PE ((cxOf CX0 X.prog X.w X.K X.mg X.base Ng x sg g cdg X.A X.stack s H C8.E0).nox.tr pn xe) (.Call (.Name a p1) [] [] p2) (tAct 0 fn cc q tl W)) →
    H cc = some (LamX.CodeO cc q) → TT tl H Q →
    ∃ t, PSs (cxOf CX0 X.prog X.w X.K X.mg X.base Ng x sg g cdg X.A X.stack s H C8.E0).nox bg t ∧ t { nx := fun _ H' => Q .non H', rt := Q } (L2.start Ng [.ref fn]) H
end
section
variable {X : Cx}
/-- x(lambda: body) -/
theorem pe_lam {T : List (Addr × Str)} {TT : (XK → Hp → VK → Prop) → Hp → VK → Prop} {x a : Str} {g c P : Addr} {k : Nat} {st : Stmt} {fd : FuncData} {Ng : List Str} {params : Arguments} {body : Expr} {scope : Scope} {t : XK → TE} {p lpos pos : Pos}
    (F : Fun X.K x x st g fd) (hb : L2.Binds X.K fd [a] []) (Sg : FnScope Ng [a] (defScope st)) (hg : Gl X x) (hm : X.mg x = some (.ref g)) (hNg : Ng[0]? = some a) (hva : Vis (defScope st) a)
    (hG : ∀ cdv : Value, Gives X Ng x (defScope st) g cdv (defBody st) a (X.env.qual ++ "<lambda>") k TT)
    (TB : LamX.TabB X.base X.mg c P) (hcode : X.env.code = .ref c) (hmT : (P, X.env.qual ++ "<lambda>") ∈ T) (hu : ∀ p ∈ T, p.1 = P → p.2 = X.env.qual ++ "<lambda>") (hr : Room (k + 2) X.A) (L : LamX.LamS X.env.scope scope) (hdef : defaultsOf params X.env = ([], []))
    (hbind : ∀ (q : Str) (cl : List (Str × Addr)) (pm cv ctv : Value), bindArgs (PySem.W.kla_fn "<lambda>" q params body scope cl pm cv ctv) ⟨[], []⟩ = pure [])
    (hbody : ∀ (A : Around) (outer : List Env) (s' : Shared) (H' : Hp) (E : XK) (fn cc : Addr), Room k (A.deeper (LamX.lamEnv X scope s'.heap.objs.size fn cc)) → A.guards = X.A.guards → PE (LamX.lamCx X A outer s' H' E scope fn cc) body (t E))
    (hdb : (x == ("__debug__" : Str)) = false := by decide) (hd : (a == ("__debug__" : Str)) = false := by decide) (hcd : (a == ("__classdict__" : Str)) = false := by decide) :
    PE X (.Call (.Name x p) [.Lambda params body scope lpos] [] pos) (LamX.tLam T TT t) := by
  refine ⟨fun pins s σ H Q I want => ?_⟩
  obtain ⟨oc, od, kV, doc, pm, an, cdv, ct, osl, rfl, lk, hcg⟩ := F.ex
  obtain ⟨tabs, told⟩ := want
  refine wpAny_Call_Name_kw (ld_glob I hg hm (PySem.W.callWith_K (h₀ := X.base) I.ok.mod.kin F.kp ?_ (by rfl) (by rfl)) hdb)
  show wpAny _ _ (spliced ((false, eval (.Lambda params body scope lpos) X.env) :: backTo pos (starEach [] X.env))) _ _ s
  refine Calls.spliced_cons (LamX.lam_make2 I TB hcode hmT hu tabs hdef (L.has I.ok) fun fn cc pm' ctv H1 s1 J ext tabs1 stands nfn frn hco => Calls.spliced_nil ⟨J.kIn, ?_⟩)
  have runs : codeAny (model X.prog X.w) X.A (.call (.ref g) ⟨[.ref fn], []⟩) (CR CX0 X.stack X.prog X.w H1 s1 Q C8.E0) s1 := by
    refine LamX.run_ofS (N := Ng) (ps := [a]) (us := [.ref fn]) (vs := [.ref fn]) lk hcg Sg hr J.env0 (hb s1 [.ref fn] J.kIn rfl) (.cons rfl .nil) rfl fun hr1 => ?_
    obtain ⟨t1, ht1, hq1⟩ := hG cdv fn cc s1 H1 Q (fun E H' Q' => t E σ H' Q') hr1 (fun W pn xe p1 p2 tk => pe_actS (CXg := CX0) (Eg := C8.E0) (i := 0) J L stands nfn frn (hbind _ _ _ _ _) tk hr1 (fun A outer s' H' E hr2 hgu => hbody A outer s' H' E fn cc hr2 hgu) hNg hva hd hcd) hco (told H1 ext tabs1)
    exact ⟨t1, ht1.nox, hq1⟩
  refine wpAny_call (codeAny_mono runs fun r s2 hq => ?_)
  cases r with
  | error e => exact (show False from hq).elim
  | ok fl =>
    cases fl with
    | ret u => exact J.after hq
    | next => exact hq.elim
    | brk => exact hq.elim
    | cont => exact hq.elim
end
end Mo

/-! ### kinds of data, counts among data of any kind, tables of code objects kept -/
namespace Mo
open PySem PySem.Spec PyProof.Rows L2
def isIntD : PyData → Bool
  | .int _ | .bool _ => true
  | _ => false
def isBoolD : PyData → Bool
  | .bool _ => true
  | _ => false
def isStrD : PyData → Bool
  | .str _ => true
  | _ => false
def isTupD : PyData → Bool
  | .tuple _ => true
  | _ => false
theorem kit_int : ∀ d : PyData, kitB (tyD d) "int" = some (isIntD d)
  | .none => by show kitB "NoneType" "int" = some false; decide +kernel
  | .bool _ => by show kitB "bool" "int" = some true; decide +kernel
  | .int _ => by show kitB "int" "int" = some true; decide +kernel
  | .str _ => by show kitB "str" "int" = some false; decide +kernel
  | .list _ => by show kitB "list" "int" = some false; decide +kernel
  | .tuple _ => by show kitB "tuple" "int" = some false; decide +kernel
  | .dict _ => by show kitB "dict" "int" = some false; decide +kernel
theorem kit_bool : ∀ d : PyData, kitB (tyD d) "bool" = some (isBoolD d)
  | .none => by show kitB "NoneType" "bool" = some false; decide +kernel
  | .bool _ => by show kitB "bool" "bool" = some true; decide +kernel
  | .int _ => by show kitB "int" "bool" = some false; decide +kernel
  | .str _ => by show kitB "str" "bool" = some false; decide +kernel
  | .list _ => by show kitB "list" "bool" = some false; decide +kernel
  | .tuple _ => by show kitB "tuple" "bool" = some false; decide +kernel
  | .dict _ => by show kitB "dict" "bool" = some false; decide +kernel
theorem kit_str : ∀ d : PyData, kitB (tyD d) "str" = some (isStrD d)
  | .none => by show kitB "NoneType" "str" = some false; decide +kernel
  | .bool _ => by show kitB "bool" "str" = some false; decide +kernel
  | .int _ => by show kitB "int" "str" = some false; decide +kernel
  | .str _ => by show kitB "str" "str" = some true; decide +kernel
  | .list _ => by show kitB "list" "str" = some false; decide +kernel
  | .tuple _ => by show kitB "tuple" "str" = some false; decide +kernel
  | .dict _ => by show kitB "dict" "str" = some false; decide +kernel
theorem kit_tup : ∀ d : PyData, kitB (tyD d) "tuple" = some (isTupD d)
  | .none => by show kitB "NoneType" "tuple" = some false; decide +kernel
  | .bool _ => by show kitB "bool" "tuple" = some false; decide +kernel
  | .int _ => by show kitB "int" "tuple" = some false; decide +kernel
  | .str _ => by show kitB "str" "tuple" = some false; decide +kernel
  | .list _ => by show kitB "list" "tuple" = some false; decide +kernel
  | .tuple _ => by show kitB "tuple" "tuple" = some true; decide +kernel
  | .dict _ => by show kitB "dict" "tuple" = some false; decide +kernel
def plainD (d : PyData) : Bool := isIntD d && !isBoolD d
/-- a question about data -/
def spAsk (f : PyData → Bool) : Sp := fun vs H Q _ => ∃ (N : Addr → Prop) (x : V) (d : PyData), vs = [x] ∧ Dx N H x d ∧ d.bulk ≤ 1000000 ∧ ∀ H', Same H H' → Q (.bl (f d)) H'
theorem plain_int : ∀ {N : Addr → Prop} {H : Hp} {x : V} {d : PyData}, Dx N H x d → plainD d = true → ∃ i : Int, x = .int i ∧ d = .int i := by
  intro N H x d h e
  cases h with
  | int i => exact ⟨i, rfl, rfl⟩
  | _ => exact absurd (show false = true from e) (by decide)
def isListD : PyData → Bool
  | .list _ => true
  | _ => false
def isDictD : PyData → Bool
  | .dict _ => true
  | _ => false
theorem kit_list : ∀ d : PyData, kitB (tyD d) "list" = some (isListD d)
  | .none => by show kitB "NoneType" "list" = some false; decide +kernel
  | .bool _ => by show kitB "bool" "list" = some false; decide +kernel
  | .int _ => by show kitB "int" "list" = some false; decide +kernel
  | .str _ => by show kitB "str" "list" = some false; decide +kernel
  | .list _ => by show kitB "list" "list" = some true; decide +kernel
  | .tuple _ => by show kitB "tuple" "list" = some false; decide +kernel
  | .dict _ => by show kitB "dict" "list" = some false; decide +kernel
/-- an integer from a to b -/
def cntB (a b : Int) : PyData → Bool
  | .int i => decide (a ≤ i) && decide (i ≤ b)
  | _ => false
/-- check_count: nothing, or InvalidCount with the very value -/
def spCnt (C : Addr) : Sp := fun vs H Q E => ∃ (N : Addr → Prop) (x : V) (d : PyData) (a b : Int), vs = [x, .int a, .int b] ∧ Dx N H x d ∧ d.bulk ≤ 1000000 ∧ (cntB a b d = true → ∀ H', Same H H' → Q .non H') ∧
  (cntB a b d = false → ∀ dd H', H dd = none → Same H H' → H' dd = some (.xd [("value", x)]) → E (.ref C) (some dd) H')
theorem cnt_no {a b : Int} {d : PyData} (h : plainD d = false) : cntB a b d = false := by
  cases d <;> first | rfl | exact absurd (show true = false from h) (by decide)
/-! more written data -/
theorem lit_negE {te : TE} {i : Int} (h : LitE te (.int i)) : LitE (tUn (rU fun i => .int (-i)) te) (.int (-i)) := fun σ H Q q => h σ H _ fun H' v s hv => by
  cases hv
  exact ⟨i, rfl, q _ _ s (.int _)⟩
/-! nothing is changed but tables -/
mutual
theorem Dx.tabs {N : Addr → Prop} {H H' : Hp} (s : LamX.ExtN H H') : ∀ {v : V} {d : PyData}, Dx N H v d → Dx N H' v d
  | _, _, .non => .non
  | _, _, .bl b => .bl b
  | _, _, .int i => .int i
  | _, _, .str x => .str x
  | _, _, .lst h n a => .lst (s _ _ h (fun _ z => nomatch z)) n (DxAll.tabs s a)
  | _, _, .tup h n a => .tup (s _ _ h (fun _ z => nomatch z)) n (DxAll.tabs s a)
  | _, _, .dct h n a => .dct (s _ _ h (fun _ z => nomatch z)) n (DxAll.tabs s a)
theorem DxAll.tabs {N : Addr → Prop} {H H' : Hp} (s : LamX.ExtN H H') : ∀ {v : List V} {d : List PyData}, DxAll N H v d → DxAll N H' v d
  | _, _, .nil => .nil
  | _, _, .cons a b => .cons (Dx.tabs s a) (DxAll.tabs s b)
end
theorem Tabs.same {T : List (Addr × Str)} {H H' : Hp} (t : LamX.Tabs T H) (s : Same H H') : LamX.Tabs T H' := t.ext s
theorem Tabs.but {T : List (Addr × Str)} {H H' : Hp} {d : Addr} {kvs : List (Key × V)} (t : LamX.Tabs T H) (hd : H d = some (.dK kvs)) (s : But d H H') : LamX.Tabs T H' := fun p hp => by
  obtain ⟨ps, h1, h2, h3⟩ := t p hp
  refine ⟨ps, s _ _ (fun z => ?_) h1, h2, fun pos cv hc => ?_⟩
  · rw [z, hd] at h1
    cases h1
  · obtain ⟨c, e1, e2⟩ := h3 pos cv hc
    refine ⟨c, e1, s _ _ (fun z => ?_) e2⟩
    rw [z, hd] at e2
    cases e2
theorem tabs_nil {H : Hp} {P : Addr} {q : Str} (h : H P = some (.tbl #[])) : LamX.Tabs [(P, q)] H := fun p hp => by
  rw [List.mem_singleton.mp hp]
  exact LamX.TabS.nil h
end Mo
namespace Mo
open PySem PySem.Spec PyProof.Rows L2
/-- while, by a word and a measure; the test's own reading told as it stands -/
theorem while_raw {c : TT} {tb : TS} {D : Ends} {σ : L2.St} {H : Hp} (Pv : L2.St → Hp → Prop) (μ : L2.St → Hp → Nat) (h0 : Pv σ H)
    (hs : ∀ σ H, Pv σ H → c σ H fun b H1 => if b = true then ∃ N : L2.St → Hp → Prop, (∀ σ' H', N σ' H' → ∃ m', m' < μ σ H ∧ m' = μ σ' H' ∧ Pv σ' H') ∧ tb { D with nx := N, ct := N, bk := D.nx } σ H1 else D.nx σ H1) : tWhile c tb D σ H :=
  ⟨fun m σ H => m = μ σ H ∧ Pv σ H, ⟨_, rfl, h0⟩, fun m σ H p => by
    obtain ⟨rfl, p⟩ := p
    exact hs σ H p⟩
/-- an odd value: small, and no integer from 0 on -/
structure OddD (e : PyData) : Prop where
  fit : Fit 30 100 3 e
  no : ∀ a b : Int, 0 ≤ a → cntB a b e = false
theorem fitI {B W D : Nat} {i : Int} (h : i.natAbs < 10 ^ B) (hW : 1 ≤ W) : Fit B W D (.int i) := ⟨by simp only [okD]; exact h, by simp only [PyData.bulk]; exact Nat.zero_le _, by simp only [PyData.depth]; exact Nat.zero_le _⟩
theorem odd_neg {i : Int} (h : i.natAbs < 10 ^ 30) (hn : i < 0) : OddD (.int i) := ⟨fitI h (by decide), fun a b ha => by
  show (decide (a ≤ i) && decide (i ≤ b)) = false
  rw [decide_eq_false (show ¬ a ≤ i by omega)]
  rfl⟩
theorem odd_bl (b : Bool) : OddD (.bool b) := ⟨⟨by simp [okD], by simp [PyData.bulk], by simp [PyData.depth]⟩, fun _ _ _ => rfl⟩
theorem odd_non : OddD .none := ⟨⟨by simp [okD], by simp [PyData.bulk], by simp [PyData.depth]⟩, fun _ _ _ => rfl⟩
theorem odd_str {x : Str} (h : ∀ c ∈ x.cps.toList, c < 128) (hl : x.cps.size ≤ 50) : OddD (.str x) := ⟨⟨by simp only [okD]; exact h, by simp only [PyData.bulk]; omega, by simp [PyData.depth]⟩, fun _ _ _ => rfl⟩
theorem odd_tup1 {i : Int} (h : i.natAbs < 10 ^ 30) : OddD (.tuple [.int i]) := ⟨(FitAll.tup (fitI (W := 1) (D := 0) h (by decide)).one).mono (by decide) (by decide) (by decide), fun _ _ _ => rfl⟩
theorem odd_lst1 {i : Int} (h : i.natAbs < 10 ^ 30) : OddD (.list [.int i]) := ⟨(FitAll.lst (fitI (W := 1) (D := 0) h (by decide)).one).mono (by decide) (by decide) (by decide), fun _ _ _ => rfl⟩
theorem odd_dct : OddD (.dict []) := ⟨⟨by simp [okD, okKv], by simp [PyData.bulk, PyData.bulkKv], by simp [PyData.depth, PyData.depthKv]⟩, fun _ _ _ => rfl⟩
/-- what was new when the old heap was H0, d being old: nothing of it is at d -/
theorem Dx.keep {H0 H H' : Hp} {d : Addr} {v : V} {e : PyData} (h : Dx (Was H0) H v e) (hd : H0 d ≠ none) (b : But d H H') : Dx (fun x => x = d) H' v e :=
  (h.but fun x o nx hx => b x o (fun z => nx (by rw [z]; exact hd)) hx).more fun x _ z => by rw [z]; exact hd
theorem Dx.pen {H H' : Hp} {d : Addr} {v : V} {e : PyData} (h : Dx (fun x => x = d) H v e) (b : But d H H') : Dx (fun x => x = d) H' v e := h.but fun x o nx hx => b x o nx hx
end Mo

/-! ### lists and tuples of flat values compared -/
namespace Mo
open PySem PySem.Spec PyProof.Rows L2
def eqLs : List V → List V → Bool
  | [], [] => true
  | x :: xs, y :: ys => eqV x y && eqLs xs ys
  | _, _ => false
theorem eqLs_range : ∀ (xs ys : List V), xs.length = ys.length → (List.range xs.length).all (fun j => eqV (xs.getD j .non) (ys.getD j .non)) = eqLs xs ys
  | [], [], _ => rfl
  | x :: xs, y :: ys, h => by
    rw [List.length_cons, List.range_succ_eq_map, List.all_cons, List.all_map]
    show (eqV x y && (List.range xs.length).all (fun j => eqV (xs.getD j .non) (ys.getD j .non))) = _
    rw [eqLs_range xs ys (by simpa using h)]
    rfl
  | [], _ :: _, h => by simp at h
  | _ :: _, [], h => by simp at h
theorem eqLs_len : ∀ {xs ys : List V}, eqLs xs ys = true → xs.length = ys.length
  | [], [], _ => rfl
  | x :: xs, y :: ys, h => by
    rw [List.length_cons, List.length_cons, eqLs_len (Bool.and_eq_true_iff.mp h).2]
  | [], _ :: _, h => by cases h
  | _ :: _, [], h => by cases h
theorem eqV_self : ∀ {x : V}, flatV x = true → eqV x x = true := by
  intro x h
  cases x <;> first | (exact absurd (show false = true from h) Bool.false_ne_true) | rfl | (simp [eqV])
theorem eqLs_self : ∀ {xs : List V}, xs.all flatV = true → eqLs xs xs = true
  | [], _ => rfl
  | x :: xs, h => by
    rw [List.all_cons, Bool.and_eq_true] at h
    show (eqV x x && eqLs xs xs) = true
    rw [eqV_self h.1, eqLs_self h.2]
    rfl
theorem flat_ints (ns : List Int) : (ns.map V.int).all flatV = true := by
  rw [List.all_map, List.all_eq_true]
  exact fun _ _ => rfl
theorem flat_strs' (zs : List Str) : (zs.map V.str).all flatV = true := by
  rw [List.all_map, List.all_eq_true]
  exact fun _ _ => rfl
theorem eqLs_ints : ∀ (a b : List Int), eqLs (a.map V.int) (b.map V.int) = decide (a = b)
  | [], [] => by simp [eqLs]
  | x :: a, y :: b => by
    show (x == y && eqLs (a.map V.int) (b.map V.int)) = _
    rw [eqLs_ints a b, Bool.eq_iff_iff]
    simp
  | [], _ :: _ => by simp [eqLs]
  | _ :: _, [] => by simp [eqLs]
theorem eqLs_strs : ∀ (a b : List Str), eqLs (a.map V.str) (b.map V.str) = decide (a = b)
  | [], [] => by simp [eqLs]
  | x :: a, y :: b => by
    show (x == y && eqLs (a.map V.str) (b.map V.str)) = _
    rw [eqLs_strs a b, Bool.eq_iff_iff]
    simp
  | [], _ :: _ => by simp [eqLs]
  | _ :: _, [] => by simp [eqLs]
section
variable {X : Cx}
theorem eqAts {A : Around} {s : Shared} {xs ys : List V} {us ws : List Value} (r1 : Vals xs us) (r2 : Vals ys ws) (f1 : xs.all flatV = true) (f2 : ys.all flatV = true) :
    ∀ j (h1 : j < us.toArray.size) (h2 : j < ws.toArray.size), SeqAt.EqAt A s us.toArray[j] ws.toArray[j] (eqV (xs.getD j .non) (ys.getD j .non)) := by
  intro j h1 h2
  have l1 := r1.length
  have l2 := r2.length
  rw [List.size_toArray] at h1 h2
  have e1 : xs[j]? = some (xs.getD j .non) := by
    rw [List.getD_eq_getElem?_getD, List.getElem?_eq_getElem (by omega)]
    rfl
  have e2 : ys[j]? = some (ys.getD j .non) := by
    rw [List.getD_eq_getElem?_getD, List.getElem?_eq_getElem (by omega)]
    rfl
  obtain ⟨u, hu, ru⟩ := r1.get e1
  obtain ⟨v, hv, rv⟩ := r2.get e2
  have q1 : us.toArray[j] = u := by
    rw [List.getElem?_eq_getElem h1] at hu
    exact Option.some.inj hu
  have q2 : ws.toArray[j] = v := by
    rw [List.getElem?_eq_getElem h2] at hv
    exact Option.some.inj hv
  rw [q1, q2]
  exact eqAt_V ru rv (List.all_eq_true.mp f1 _ (List.mem_of_getElem? e1)) (List.all_eq_true.mp f2 _ (List.mem_of_getElem? e2))
def FlatAt (K : PySem.W.Frag) (H : Hp) (x y : V) (xs ys : List V) : Prop := ∃ a b, x = .ref a ∧ y = .ref b ∧ xs.all flatV = true ∧ ys.all flatV = true ∧ ((SqL K H a xs ∧ SqL K H b ys) ∨ (SqT K H a xs ∧ SqT K H b ys))
def rEqFl (K : PySem.W.Frag) : R2 := fun x y H Q => ∃ xs ys, FlatAt K H x y xs ys ∧ Q (.bl (eqLs xs ys)) H
def rNeFl (K : PySem.W.Frag) : R2 := fun x y H Q => ∃ xs ys, FlatAt K H x y xs ys ∧ Q (.bl (!eqLs xs ys)) H
theorem tups_eq {xs ys : List V} : ((List.range (min xs.length ys.length)).all (fun j => eqV (xs.getD j .non) (ys.getD j .non)) && xs.length == ys.length) = eqLs xs ys := by
  by_cases h : xs.length = ys.length
  · rw [← h, Nat.min_self, eqLs_range xs ys h]
    simp
  · have : eqLs xs ys = false := by
      cases e : eqLs xs ys with
      | false => rfl
      | true => exact absurd (eqLs_len e) h
    rw [this, beq_eq_false_iff_ne.mpr h, Bool.and_false]
theorem op_eqFl (hu : X.A.units + 64 < cLine) : OpR X (compareOp .Eq) (rEqFl X.K) := by
  intro pins s σ H x y v u Q I rx ry h
  obtain ⟨xs, ys, ⟨a, b, rfl, rfl, f1, f2, h⟩, q⟩ := h
  cases rx
  cases ry
  rcases h with ⟨ha, hb⟩ | ⟨ha, hb⟩
  · obtain ⟨is, r1, p1, _⟩ := I.list ha
    obtain ⟨js, r2, p2, _⟩ := I.list hb
    have l1 := r1.length
    have l2 := r2.length
    by_cases hl : xs.length = ys.length
    · refine SeqAt.eq_listAt (e := fun j => eqV (xs.getD j .non) (ys.getD j .non)) p1.isList p2.isList (by simp only [List.size_toArray]; omega) (by omega) (eqAts r1 r2 f1 f2) ?_
      rw [List.size_toArray, ← l1, eqLs_range xs ys hl]
      exact ⟨.bl _, H, I, rfl, q⟩
    · have e : eqLs xs ys = false := by
        cases e : eqLs xs ys with
        | false => rfl
        | true => exact absurd (eqLs_len e) hl
      rw [e] at q
      exact SeqAt.eq_list_lengthsAt p1.isList p2.isList (by simp only [List.size_toArray]; rw [bne_iff_ne]; omega) (by omega) ⟨.bl _, H, I, rfl, q⟩
  · obtain ⟨is, r1, p1, _⟩ := I.tuple ha
    obtain ⟨js, r2, p2, _⟩ := I.tuple hb
    have l1 := r1.length
    have l2 := r2.length
    have k1 : s.heap.IsTuple a is.toArray := p1
    have k2 : s.heap.IsTuple b js.toArray := p2
    refine SeqAt.eq_tupleAt (e := fun j => eqV (xs.getD j .non) (ys.getD j .non)) k1 k2 (by omega) (eqAts r1 r2 f1 f2) ?_
    rw [List.size_toArray, List.size_toArray, ← l1, ← l2, tups_eq]
    exact ⟨.bl _, H, I, rfl, q⟩
theorem op_neFl (hu : X.A.units + 64 < cLine) : OpR X (compareOp .NotEq) (rNeFl X.K) := by
  intro pins s σ H x y v u Q I rx ry h
  obtain ⟨xs, ys, ⟨a, b, rfl, rfl, f1, f2, h⟩, q⟩ := h
  cases rx
  cases ry
  rcases h with ⟨ha, hb⟩ | ⟨ha, hb⟩
  · obtain ⟨is, r1, p1, _⟩ := I.list ha
    obtain ⟨js, r2, p2, _⟩ := I.list hb
    have l1 := r1.length
    have l2 := r2.length
    by_cases hl : xs.length = ys.length
    · refine SeqAt.RcNeAt.lists (e := fun j => eqV (xs.getD j .non) (ys.getD j .non)) p1.isList p2.isList (by simp only [List.size_toArray]; omega) (by omega) (eqAts r1 r2 f1 f2) X.prog X.w X.xe _ ?_
      rw [List.size_toArray, ← l1, eqLs_range xs ys hl]
      exact ⟨.bl _, H, I, rfl, q⟩
    · have e : eqLs xs ys = false := by
        cases e : eqLs xs ys with
        | false => rfl
        | true => exact absurd (eqLs_len e) hl
      rw [e] at q
      exact SeqAt.RcNeAt.lists_lengths p1.isList p2.isList (by simp only [List.size_toArray]; rw [bne_iff_ne]; omega) (by omega) X.prog X.w X.xe _ ⟨.bl _, H, I, rfl, q⟩
  · obtain ⟨is, r1, p1, _⟩ := I.tuple ha
    obtain ⟨js, r2, p2, _⟩ := I.tuple hb
    have l1 := r1.length
    have l2 := r2.length
    have k1 : s.heap.IsTuple a is.toArray := p1
    have k2 : s.heap.IsTuple b js.toArray := p2
    refine SeqAt.RcNeAt.tuples (e := fun j => eqV (xs.getD j .non) (ys.getD j .non)) k1 k2 (by omega) (eqAts r1 r2 f1 f2) X.prog X.w X.xe _ ?_
    rw [List.size_toArray, List.size_toArray, ← l1, ← l2, tups_eq]
    exact ⟨.bl _, H, I, rfl, q⟩
end
end Mo

namespace Mo
open PySem PySem.Spec PyProof.Rows L2
section
variable {K : PySem.W.Frag}
theorem intsDp {H : Hp} : ∀ ns : List Int, DpAll K H (ns.map V.int) (ns.map PyData.int)
  | [] => .nil
  | n :: ns => .cons (.int n) (intsDp ns)
theorem tupI_dat {H : Hp} {p : Addr} {ns : List Int} (h : H p = some (.tup (ns.map V.int))) : Dat K H (.ref p) (.tuple (ns.map PyData.int)) := .inl (.tup (SqT.of h) (intsDp ns))
theorem lstI_dat {H : Hp} {p : Addr} {ns : List Int} (h : H p = some (.lst (ns.map V.int))) : Dat K H (.ref p) (.list (ns.map PyData.int)) := .inl (.lst (SqL.of h) (intsDp ns))
theorem ints_fitAll {B : Nat} : ∀ {ns : List Int}, (∀ n ∈ ns, n.natAbs < 10 ^ B) → FitAll B (2 * ns.length) 0 (ns.map PyData.int)
  | [], _ => ⟨trivial, Nat.le_refl _, Nat.le_refl _⟩
  | n :: ns, h => by
    have ih := ints_fitAll (B := B) (ns := ns) fun x hx => h x (List.mem_cons_of_mem _ hx)
    refine ⟨?_, ?_, ?_⟩
    · simp only [List.map_cons, okAll]
      exact ⟨by simp only [okD]; exact h n (List.mem_cons_self ..), ih.ok⟩
    · have := ih.bulk
      simp only [List.map_cons, PyData.bulkAll, PyData.bulk, List.length_cons]
      omega
    · have := ih.deep
      simp only [List.map_cons, PyData.depthAll, PyData.depth]
      omega
theorem tupI_repr {ns : List Int} (h : ∀ n ∈ ns, n.natAbs < 10 ^ 20) (hl : ns.length ≤ 100000) : (PyData.tuple (ns.map PyData.int)).showable = true ∧ (PyData.tuple (ns.map PyData.int)).depth ≤ 40 ∧ (PyData.tuple (ns.map PyData.int)).shown.length ≤ sizeLine :=
  ((ints_fitAll h).tup).repr (by decide) (by decide) (by omega) (by decide)
theorem lstI_repr {ns : List Int} (h : ∀ n ∈ ns, n.natAbs < 10 ^ 20) (hl : ns.length ≤ 100000) : (PyData.list (ns.map PyData.int)).showable = true ∧ (PyData.list (ns.map PyData.int)).depth ≤ 40 ∧ (PyData.list (ns.map PyData.int)).shown.length ≤ sizeLine :=
  ((ints_fitAll h).lst).repr (by decide) (by decide) (by omega) (by decide)
end
end Mo

namespace Mo
open PySem PySem.Spec PyProof.Rows L2
theorem ints_dx {N : Addr → Prop} {H : Hp} : ∀ ns : List Int, DxAll N H (ns.map V.int) (ns.map PyData.int)
  | [] => .nil
  | n :: r => .cons (.int n) (ints_dx r)
theorem tupI_dx {H : Hp} {p : Addr} {ns : List Int} (h : H p = some (.tup (ns.map V.int))) : Dx (fun _ => False) H (.ref p) (.tuple (ns.map PyData.int)) := .tup h (fun z => z) (ints_dx ns)
theorem same_ne (x : V) : V.bl (!decide (x = x)) = V.bl false := by simp
theorem same_eq (x : V) : V.bl (decide (x = x)) = V.bl true := by simp
/-- two equal tuples of flat values are not unlike -/
theorem neFl_self {K : PySem.W.Frag} {H : Hp} {p r : Addr} {xs : List V} {Q : VK} (hp : H p = some (.tup xs)) (hr : H r = some (.tup xs)) (hf : xs.all flatV = true) (q : Q (.bl false) H) : rNeFl K (.ref p) (.ref r) H Q :=
  ⟨xs, xs, ⟨p, r, rfl, rfl, hf, hf, .inr ⟨SqT.of hp, SqT.of hr⟩⟩, by rw [eqLs_self hf]; exact q⟩
theorem eqFl_self {K : PySem.W.Frag} {H : Hp} {p r : Addr} {xs : List V} {Q : VK} (hp : H p = some (.tup xs)) (hr : H r = some (.tup xs)) (hf : xs.all flatV = true) (q : Q (.bl true) H) : rEqFl K (.ref p) (.ref r) H Q :=
  ⟨xs, xs, ⟨p, r, rfl, rfl, hf, hf, .inr ⟨SqT.of hp, SqT.of hr⟩⟩, by rw [eqLs_self hf]; exact q⟩
theorem cnt_abs {a b : Int} {N : Addr → Prop} {H : Hp} {i : Int} {e : PyData} (h : Dx N H (.int i) e) (hn : cntB a b e = false) (h1 : a ≤ i) (h2 : i ≤ b) : False := by
  cases h
  have z : (decide (a ≤ i) && decide (i ≤ b)) = false := hn
  rw [decide_eq_true h1, decide_eq_true h2] at z
  cases z
theorem cnt_out {a b i : Int} (h : i < a ∨ b < i) : cntB a b (.int i) = false := by
  show (decide (a ≤ i) && decide (i ≤ b)) = false
  rcases h with h | h
  · rw [decide_eq_false (show ¬ a ≤ i by omega)]
    rfl
  · rw [decide_eq_false (show ¬ i ≤ b by omega), Bool.and_false]
/-- where a dict d is and the tables, what the lambda leaves -/
theorem ext_at {H H' : Hp} (s : LamX.ExtN H H') {b : Addr} {o : HO} (h : H b = some o) (n : ∀ ps, o ≠ .tbl ps) : H' b = some o := s b o h n
end Mo

/-! ### texts among data of any kind -/
namespace Mo
open PySem PySem.Spec PyProof.Rows L2
theorem bulk_mem : ∀ {ds : List PyData} {d : PyData}, d ∈ ds → d.bulk ≤ PyData.bulkAll ds
  | x :: ds, d, h => by
    simp only [PyData.bulkAll]
    rcases List.mem_cons.mp h with rfl | h
    · omega
    · have := bulk_mem h
      omega
theorem bulk_len (a : List PyData) : a.length ≤ PyData.bulkAll a := by
  induction a with
  | nil => exact Nat.zero_le _
  | cons x a ih =>
    simp only [PyData.bulkAll, List.length_cons]
    omega
theorem tup_dx : ∀ {N : Addr → Prop} {H : Hp} {x : V} {d : PyData}, Dx N H x d → isTupD d = true → ∃ a xs ds, x = .ref a ∧ d = .tuple ds ∧ H a = some (.tup xs) ∧ ¬ N a ∧ DxAll N H xs ds := by
  intro N H x d h e
  cases h with
  | tup h n t => exact ⟨_, _, _, rfl, rfl, h, n, t⟩
  | _ => exact absurd (show false = true from e) (by decide)
theorem str_dx : ∀ {N : Addr → Prop} {H : Hp} {x : V} {d : PyData}, Dx N H x d → isStrD d = true → ∃ cs : List Nat, x = .str (tx cs) ∧ d = .str (tx cs) := by
  intro N H x d h e
  cases h with
  | str z => exact ⟨z.cps.toList, rfl, rfl⟩
  | _ => exact absurd (show false = true from e) (by decide)
theorem notTup {d : PyData} (h : isTupD d = false) : textD d = false := by
  cases d <;> first | rfl | exact absurd (show true = false from h) (by decide)
/-- check_text: nothing, or InvalidText with the very value -/
def spChkT (C : Addr) : Sp := fun vs H Q E => ∃ (N : Addr → Prop) (x : V) (d : PyData), vs = [x] ∧ Dx N H x d ∧ d.bulk ≤ 1000000 ∧ (textD d = true → ∀ H', Same H H' → Q .non H') ∧
  (textD d = false → ∀ dd H', H dd = none → Same H H' → H' dd = some (.xd [("value", x)]) → E (.ref C) (some dd) H')
theorem text_ints {ns : List Int} (h : ∀ n ∈ ns, 0 ≤ n ∧ n ≤ 999999) (hl : ns.length ≤ 4096) : textD (.tuple (ns.map PyData.int)) = true := by
  show (decide ((ns.map PyData.int).length ≤ 4096) && (ns.map PyData.int).all letterD) = true
  rw [decide_eq_true (by rw [List.length_map]; exact hl), Bool.true_and, List.all_eq_true]
  intro d hd
  obtain ⟨n, hn, rfl⟩ := List.mem_map.mp hd
  show (decide (0 ≤ n) && decide (n ≤ 999999)) = true
  rw [decide_eq_true (h n hn).1, decide_eq_true (h n hn).2]
  rfl
theorem bulk_ints (ns : List Int) : PyData.bulkAll (ns.map PyData.int) = ns.length := by
  induction ns with
  | nil => rfl
  | cons n r ih =>
    rw [List.map_cons]
    simp only [PyData.bulkAll, PyData.bulk, List.length_cons]
    omega
end Mo
namespace Mo
open PySem PySem.Spec PyProof.Rows L2
/-- an error of the class C with the field f, value x, is let out -/
def Errs (C : Addr) (f : Str) (x : V) (H : Hp) (E : XK) : Prop := ∀ dd H', H dd = none → Same H H' → H' dd = some (.xd [(f, x)]) → E (.ref C) (some dd) H'
theorem Errs.same {C : Addr} {f : Str} {x : V} {H H1 : Hp} {E : XK} (h : Errs C f x H E) (s : Same H H1) : Errs C f x H1 E := fun dd H' nd s2 hd => h dd H' (s.free nd) (s.trans s2) hd
end Mo
namespace Mo
open PySem PySem.Spec PyProof.Rows L2
/-- a method of a list within a try: the reading names K itself -/
theorem pe_appK {X : Cx} {K : PySem.W.Frag} {o e : Expr} {to : TE} {t : TA} {apos cpos : Pos} (hK : X.K = K) (ho : PE X o to) (ha : PA X [e] t)
    (hbase : attributeBase o "append" X.env (eval o X.env) = eval o X.env := by rfl) (hfew : ((backTo cpos (starEach [e] X.env)).all (fun x => !x.1) && (backToKw cpos (keywordEach [] X.env)).all (fun x => x.1.isSome) && decide (([e] : List Expr).length + ([] : List Keyword).length + (if ([] : List Keyword).isEmpty then 0 else 1) < 30)) = true := by rfl)
    (hline : (apos.endLine == cpos.line) = true := by rfl) (hs : starEach [e] X.env = (false, eval e X.env) :: starEach [] X.env := by rfl) (hplain : (backTo cpos (starEach [] X.env)).any (·.1) = false := by rfl) :
    PE X (.Call (.Attribute o "append" apos) [e] [] cpos) (tBM K "list" rAppend to t) := by
  subst hK
  exact pe_bm PySem.F.plainAttrs_list PySem.F.slot_list_append PySem.F.type_list_append mt_append ho ha hbase hfew hline hs hplain
end Mo

/-! ### own error classes over any of Python's errors -/
namespace Mo
open PySem PySem.Spec PyProof.Rows L2
open Builtin Builtin.ObjectAttr in
section
variable {prog : Program} {w : World} {A : Around} {E : Value → Shared → Prop} {R : Result → Shared → Prop} {hp : Heap} {g : Array GenState} {d : Drawn} {t : Nat} {os : OsState}
/-- the first field of such an error -/
theorem osaG {K : PySem.W.Frag} {nm : Str} {tk : Tok} {v : Value} {x C : Addr} {fv : Array Value} {cd : ClassData} {bmB : List Value} (X : K.In hp) (hx : hp.get? x = some { cls := .ref C, data := .fields fv }) (hcd : PySem.W.clsIn K C = some cd)
    (hm : PySem.W.excTail bmB cd.mro = true) (hne : bmB ≠ []) (hob : bmB.contains (.type "object") = true) (hps : ∀ self, refuseLoop self "__setattr__" bmB = pure ()) (hh : cd.hasDict = true) (ha : PySem.W.findIn K (.ref C) nm = some none)
    (hq : ∀ h' tk' dx, (∀ b o, b ≠ x → hp.get? b = some o → h'.get? b = some o) → hp.objs.size ≤ dx → dx ≠ x → h'.get? x = some { cls := .ref C, dict := some dx, data := .fields fv } → h'.Ns1 dx (fun y => if y = nm then some v else none) → R (.ok (.ret .none)) ⟨h', g, d, tk', os⟩) :
    codeAny (model prog w) A (.call (.builtin "object.__setattr__") ⟨[.ref x, .str nm tk, v], []⟩) R ⟨hp, g, d, t, os⟩ := by
  have J : PySem.W.InstAt hp x { cls := .ref C, data := .fields fv } C none := ⟨hx, rfl, rfl, trivial⟩
  have SO := PySem.F.store_object
  have e1 : cd.mro.isEmpty = false := by
    cases q : cd.mro with
    | nil =>
      rw [q] at hm
      exact absurd (beq_iff_eq.mp hm).symm hne
    | cons _ _ => rfl
  have e2 : cd.mro.contains (.type "object") = true := (PySem.W.excTail_contains "object" _ hm).trans hob
  have n1 : x ≠ hp.objs.size := Nat.ne_of_lt (Heap.lt_size hx)
  have su : PySem.W.Looks (model prog w) hp (isInstance (.ref x) (.type "object")) true := J.type.andThen (PySem.W.looks_mroIn X (by unfold PySem.W.mroIn; rw [hcd, Option.bind_some, if_neg (by rw [e1]; decide), e2]))
  refine codeAny_call_builtin SO.slot.plain SO.entry (@PySem.W.check_slot (model prog w) _ _ ⟨hp, g, d, t, os⟩ "object.__setattr__" "object" "__setattr__" (.ref x) [.str nm tk, v] [] _ SO.kind SO.split su (SO.args (.ref x) (.str nm tk) v) ?_)
  have l1 : PySem.W.Looks (model prog w) hp (mroOf (.ref C)) cd.mro := (PySem.W.looks_clsIn X hcd).andThen .now
  have l2 : PySem.W.Looks (model prog w) hp (storeTaker? none) none := .now
  have l3 : PySem.W.Looks (model prog w) hp (classData C) cd := PySem.W.looks_clsIn X hcd
  rw [PySem.W.osa_eq, refuse_eq]
  refine wpAny_bind (wpAny_bind (J.type.at (wpAny_bind (l1.at ?_))))
  rw [PySem.W.excTail_pass _ (hps _) _ hm]
  refine wpAny_pure (wpAny_bind (J.type.at (wpAny_bind ((PySem.W.looks_findIn X ha).at (wpAny_bind (l2.at ?_))))))
  show wpAny _ _ (storeInOwnDict (.ref x) (.ref C) (.str nm tk) nm v false) _ _ _
  obtain ⟨_, _, mro, _, _, hd, _, _, _, _, _⟩ := cd
  obtain rfl : hd = true := hh
  unfold storeInOwnDict ownDictForStores
  repeat (first | with_reducible refine PySem.HandSPX.store_in_new ?_ ?_ | with_reducible refine wpAny_loadPart_at hx ?_ | with_reducible refine l3.at ?_ | wp_step)
  · exact ⟨_, #[], _, (Heap.get?_update_ne _ _ _ _ n1.symm).trans (Heap.get?_push_at rfl rfl), rfl, fun e he => absurd he (by simp), fun _ => rfl⟩
  · intro h2 tk2 hn2 hs2
    have hx1 : (hp.push { cls := .type "dict", data := .dict #[] }).get? x = some { cls := .ref C, data := .fields fv } := Heap.get?_push_of_some _ hx
    exact hq h2 tk2 hp.objs.size (fun b o hb ho => (hs2.2 b (Nat.ne_of_lt (Heap.lt_size ho))).trans ((Heap.get?_update_ne _ _ _ _ hb).trans (Heap.get?_push_of_some _ ho))) (Nat.le_refl _) n1.symm ((hs2.2 x n1).trans (Heap.get?_update_self _ hx1 rfl)) hn2
end
/-- what the written part says of an own error class at C over Python's B -/
structure OvC (K : PySem.W.Frag) (C : Addr) (B newId initId : String) (bmB : List Value) : Prop where
  cls : ∃ nm q N bs bm sn sub ab col dd k0 k1 k2 k3 k5, K.lookup C = some (excClassObj nm q C N bs bm true sn sub ab col dd k0 k1 k2 k3 k5 newId) ∧ PySem.W.excTail bmB bm = true
  bas : ExcBaseFacts B newId initId bmB
  obj : bmB.contains (.type "object") = true
  pas : ∀ self, refuseLoop self "__setattr__" bmB = pure ()
  sa : PySem.W.findIn K (.ref C) "__setattr__" = some (some (.builtin "object.__setattr__"))
  exC : PySem.W.subIn K (.ref C) (.type "BaseException") = some true
  tyC : PySem.W.typeIn K (.ref C) = some (.type "type")
  kC : PySem.W.keepIn K (.ref C) = true
section
variable {X : Cx} {pins : List (Addr × Obj)} {σ : L2.St} {H : Hp} {s : Shared} {a C : Addr} {f : Str} {y : V} {u : Value} {Q : Unit → Shared → Prop} {E : Value → Shared → Prop} {A : Around} {B newId initId : String} {bmB : List Value}
theorem fieldG (T : OvC X.K C B newId initId bmB) (I : Inv X pins σ H s) (e : H a = some (exo a C none)) (hno : PySem.W.findIn X.K (.ref C) f = some none) (ry : RelV y u)
    (h : ∀ dx s', H dx = none → dx ≠ a → Inv X pins σ (upd (upd H dx (exd dx [(f, y)])) a (exo a C (some dx))) s' → Q () s') : wpAny (model X.prog X.w) A (setAttr (.ref a) f u) Q E s := by
  obtain ⟨nm, q, N, bs, bm, sn, sub, ab, col, dd, k0, k1, k2, k3, k5, hC, hbm⟩ := T.cls
  have hcl : ∃ cd, PySem.W.clsIn X.K C = some cd ∧ cd.mro = .ref C :: bm ∧ cd.hasDict = true := by
    refine ⟨⟨nm, bs, .ref C :: bm, N, q, true, sn, sub, ab, col, false⟩, ?_, rfl, rfl⟩
    unfold PySem.W.clsIn
    rw [hC]
  obtain ⟨cd, c1, c2, c3⟩ := hcl
  obtain ⟨t1, ho⟩ := exo_at I.hok e
  obtain ⟨hp, g, dr, tk, os⟩ := s
  refine PySem.W.set_plain I.kIn (ox := { cls := .ref C, dict := none, data := .fields #[.ref t1, .none, .none, .none, .bool false, .none] }) (od := none) ⟨ho, rfl, rfl, trivial⟩ T.sa ?_
  refine osaG I.kIn ho c1 (by rw [c2]; exact hbm) (fun z => ?_) T.obj T.pas c3 hno (fun h2 tk2 dx kp dn ne hx hn => ?_)
  · have z2 := T.obj
    rw [z] at z2
    cases z2
  have free : H dx = none := I.hok.fresh dn
  have old : ∀ {b : Addr} {o : Obj}, hp.get? b = some o → b ≠ dx := fun {b o} q => Nat.ne_of_lt (Nat.lt_of_lt_of_le (Heap.lt_size q) dn)
  have off : ∀ {b : Addr}, H b = none → b ≠ a := fun {b} n z => by
    subst z
    rw [e] at n
    cases n
  have un : Un X.fs [] H (upd (upd H dx (exd dx [(f, y)])) a (exo a C (some dx))) hp h2 := by
    constructor
    · exact fun b o q n _ _ => kp b o (off n) q
    · exact fun b o q n _ _ => ⟨o.slots, kp b o (off n) q⟩
    · exact fun b o q n _ => by
        rw [upd_ne (off n), upd_ne (old q)]
        exact n
    · intro b o q _
      by_cases hb : b = a
      · subst hb
        exact ⟨_, hx⟩
      · exact ⟨o, kp b o hb q⟩
    · exact fun b xs q => by
        rw [upd_ne (at_ne e q exo_tup), upd_ne (ne_of_none q free)]
        exact q
    · exact fun b o v q => by
        rw [upd_ne (at_ne e q exo_frz), upd_ne (ne_of_none q free)]
        exact q
    · exact fun b ps q => ⟨#[], by
        rw [upd_ne (at_ne e q exo_tbl), upd_ne (ne_of_none q free), q]
        simp⟩
  refine h dx _ free ne (I.un (t' := tk2) un fun b o q => ?_)
  by_cases hb : b = a
  · subst hb
    rw [upd_same] at q
    obtain rfl := Option.some.inj q
    exact exo_ok hx
  rw [upd_ne hb] at q
  by_cases hd : b = dx
  · subst hd
    rw [upd_same] at q
    obtain rfl := Option.some.inj q
    exact exd_ok hn (relO_put (fs := []) ry fun _ => True.intro)
  rw [upd_ne hd] at q
  refine (I.hok b o q).stay (fun c v hc z => kp c v ?_ z) (fun c hc => ?_) (fun c xs hc => ?_)
  · rcases hc with rfl | hc
    · exact hb
    · exact at_ne e hc exo_own
  · rw [upd_ne (at_ne e hc exo_own), upd_ne (ne_of_none hc free)]
    exact hc
  · rw [upd_ne (at_ne e hc exo_tup), upd_ne (ne_of_none hc free)]
    exact hc
end
/-- self.f = e, the one field of such an error -/
def tFieldG (K : PySem.W.Frag) (f : Str) (to te : TE) : TS := fun D σ H => te σ H fun y H1 => to σ H1 fun x H2 => ∃ (a C : Addr) (B newId initId : String) (bmB : List Value), x = .ref a ∧ OvC K C B newId initId bmB ∧ PySem.W.findIn K (.ref C) f = some none ∧
  H2 a = some (exo a C none) ∧ ∀ dx, H2 dx = none → dx ≠ a → D.nx σ (upd (upd H2 dx (exd dx [(f, y)])) a (exo a C (some dx)))
section
variable {X : Cx} {o e : Expr} {es : List Expr} {to te : TE} {ta : TA} {f : Str} {p q1 pos : Pos} {B newId initId : String} {bmB : List Value}
theorem ps_fieldG (ho : PE X o to) (he : PE X e te) (hs : swapsWith e (some (.Attribute o f q1)) pos.line X.env = pure false := by rfl) : PS X (.Assign [.Attribute o f q1] e pos) (tFieldG X.K f to te) := by
  refine ⟨fun pins s σ H D I h => ?_⟩
  refine plainObj_wpAny_Assign_Attribute (thn (he.run pins s σ H _ I h) fun v s1 ⟨y, H1, I1, r1, z1⟩ => thn (ho.run pins s1 σ H1 _ I1 z1) fun u s2 ⟨x, H2, I2, r2, a, C, B, newId, initId, bmB, ex, T, hno, ea, z⟩ => ?_) hs
  subst ex
  obtain rfl : u = Value.ref a := r2
  exact fieldG T I2 ea hno r1 fun dx s' n ne J => ⟨σ, _, J, z dx n ne⟩
/-- C(e, ..) where it is raised -/
theorem pmkG {CX : CXT} {x : Str} {C fI : Addr} {k : Nat} {fd : FuncData} {ps : List Str} {sp : Sp} (T : OvC X.K C B newId initId bmB) (iC : PySem.W.findIn X.K (.ref C) "__init__" = some (some (.ref fI))) (tI : PySem.W.typeIn X.K (.ref fI) = some (.type "function"))
    (F1 : FnOk X.prog X.w X.K X.mg X.base CX k fI fd ps sp) (hr : Room (k + 1) X.A) (hb : Binds X.K fd ps []) (hx : Passes CX X (fun _ _ _ => False)) (hg : Gl X x) (hm : X.mg x = some (.ref C)) (ha : PA X (e :: es) ta)
    (hdb : (x == ("__debug__" : Str)) = false := by decide) (he : starEach (e :: es) X.env = (false, eval e X.env) :: starEach es X.env := by rfl) (hpl : (backTo pos (starEach es X.env)).any (·.1) = false := by rfl) :
    PMk X (.Call (.Name x p) (e :: es) [] pos) (tMkO C sp [] ta) := by
  intro pins s σ H Q I h
  obtain ⟨nm, q, N, bs, bm, sn, sub, ab, col, dd, k0, k1, k2, k3, k5, hC, hbm⟩ := T.cls
  refine wpAny_Call_Name_kw (ld_glob I hg hm (PySem.W.callWith_K (h₀ := X.base) I.ok.mod.kin T.kC (thn (ha.run pos pins s σ H _ I h) fun us s1 ⟨vs, H1, I1, r1, hz, z1⟩ => ⟨I1.kIn, ?_⟩) he hpl) hdb)
  show wpAny _ _ (call (.ref C) us) _ _ _
  obtain ⟨hp, g, dr, tk, os⟩ := s1
  have le1 : hp.objs.size ≤ hp.objs.size + 1 := Nat.le_succ _
  have z2 := z1 (hp.objs.size + 1) (I1.hok.fresh le1)
  have keep : ∀ b o, hp.get? b = some o → ((hp.push (PySem.W.kdv_tup us)).push (PySem.HandSPX.excO C hp.objs.size)).get? b = some o := fun b o e => Heap.get?_push_of_some _ (Heap.get?_push_of_some _ e)
  have hget : ((hp.push (PySem.W.kdv_tup us)).push (PySem.HandSPX.excO C hp.objs.size)).get? (hp.objs.size + 1) = some (PySem.HandSPX.excO C hp.objs.size) := by heap_get
  have I2 := I1.laid (t' := tk) (a := hp.objs.size + 1) (o := exo (hp.objs.size + 1) C none) (h' := (hp.push (PySem.W.kdv_tup us)).push (PySem.HandSPX.excO C hp.objs.size)) keep le1 (exo_ok hget)
  rw [List.append_nil] at z2
  have r2 : Vals (V.ref (hp.objs.size + 1) :: vs) (Value.ref (hp.objs.size + 1) :: us) := .cons rfl r1
  have bi := hb ⟨(hp.push (PySem.W.kdv_tup us)).push (PySem.HandSPX.excO C hp.objs.size), g, dr, tk, os⟩ (Value.ref (hp.objs.size + 1) :: us) I2.kIn (by rw [List.append_nil]; exact r2.length.symm.trans (F1.len _ _ _ _ z2))
  rw [List.append_nil] at bi
  have hus : us.length ≤ sizeLine := by
    have := r1.length
    rw [sizeLine_eq]
    omega
  refine wpAny_call (PySem.HandSPX.call_own T.bas (fun Y => PySem.W.excTail_contains Y bm hbm) (I1.kIn _ _ hC) (PySem.W.looks_findIn I1.kIn iC) (fun self => PySem.W.bind_fn I1.kIn self tI) hus (codeAny_mono
    (F1.run _ X.stack _ _ ⟨Value.ref (hp.objs.size + 1) :: us, []⟩ (Value.ref (hp.objs.size + 1) :: us) _ _ (fun _ _ _ => False) (hr.make C us []) (I2.env0.make C us []) bi r2 z2) fun r s2 z3 => ?_))
  match r, z3 with
  | .error er, z3 => exact hx pins σ _ _ er s2 I2 z3
  | .ok (.ret u), z3 =>
    obtain ⟨v, H2, os2, bare2, un2, hok2, rv, ev, dx, fs, ea, ed, hd1, z4⟩ := z3
    subst ev
    obtain ⟨h2, g2, d2, t2, os'⟩ := s2
    exact ⟨rv, mk_end (raises_own T.exC T.tyC) I1 le1 keep un2 hok2 os2 bare2 ea ed hd1 z4⟩
end
/-- such a class with one field f, its __init__ at fI -/
structure ErrG (K : PySem.W.Frag) (C fI : Addr) (f : Str) (B newId initId : String) (bmB : List Value) : Prop where
  ov : OvC K C B newId initId bmB
  xf : XfC K C
  exc : ExcC K C
  no : PySem.W.findIn K (.ref C) f = some none
  te : PySem.W.exmOne K (.ref C) (.ref C) = some true
  iC : PySem.W.findIn K (.ref C) "__init__" = some (some (.ref fI))
  tI : PySem.W.typeIn K (.ref fI) = some (.type "function")
end Mo

/-! ### several 'except x as n: ..', each with its own suite -/
namespace Mo
open PySem PySem.Spec PyProof.Rows L2
/-- a clause: the class, the slot of its name, what its suite does -/
abbrev Cls3 := Value × Nat × (Addr → Value → Option Addr → TS)
/-- what the clauses wish of an error of the body, one after the other -/
def wEach (K : PySem.W.Frag) (Wout : WX) (D : Ends) : List Cls3 → WX
  | [] => Wout
  | (c, i, ts) :: r => fun cls d σ H => ∃ b, PySem.W.exmOne K cls c = some b ∧
      (b = true → ∀ a, H a = none → ts a cls d { nx := fun σ' H' => D.nx (σ'.set i none) H', rt := D.rt, bk := fun σ' H' => D.bk (σ'.set i none) H', ct := fun σ' H' => D.ct (σ'.set i none) H' } (σ.set i (some (.ref a))) H) ∧ (b = false → wEach K Wout D r cls d σ H)
inductive HdsAs (X : Cx) : List ExceptHandler → List Cls3 → Prop
  | nil : HdsAs X [] []
  | cons {x n : Str} {c : Value} {i : Nat} {ts : Addr → Value → Option Addr → TS} {b₀ : Stmt} {rest : List Stmt} {np ep : Pos} {hds : List ExceptHandler} {l : List Cls3} (hc : Names X x c) (hi : X.N[i]? = some n) (hln : X.env.kindOf n = some .local)
      (hsu : ∀ (a : Addr) (oe : Obj) (cls : Value) (d : Option Addr) (pn : List (Addr × Obj)), Zc cls d oe → (∃ vs, oe.data = .fields vs) → PSs (X.suite a ((a, oe) :: pn)) (b₀ :: rest) (ts a cls d)) (r : HdsAs X hds l) : HdsAs X (.ExceptHandler (some (.Name x np)) (some n) (b₀ :: rest) ep :: hds) ((c, i, ts) :: l)
section
variable {X : Cx} {body : List Stmt} {h₀ : ExceptHandler} {hds : List ExceptHandler} {l : List Cls3} {pos : Pos} {tb : WX → TS} {Wout : WX}
theorem ps_try_each (hs : X.stack = X.env :: X.outer) (hf : X.env.frame = some X.env.locals) (hN : X.N.Nodup) (tk : Takes X Wout)
    (hb : ∀ (W : WX) (pn : List (Addr × Obj)) (xe : Value → Shared → Prop), Takes (X.tr pn xe) W → PassesOwn (model X.prog X.w) X.A X.env xe → PSs (X.tr pn xe) body (tb W)) (hh : HdsAs X (h₀ :: hds) l) :
    PS X (.Try body (h₀ :: hds) [] [] pos) (fun D σ H => tb (wEach X.K Wout D l) D σ H) := by
  refine ⟨fun pins s σ H D I h => ?_⟩
  have ok := I.ok
  have hfr : X.A.frames = some (X.env :: X.outer) := ok.frames.trans (by rw [hs])
  refine wpAny_Try_except (wpAny_mono ((hb (wEach X.K Wout D l) (X.pn ++ pins) (fun e s₁ => wpAny (model X.prog X.w) X.A (noteFrame e X.env) (fun _ s₂ => wpAny (model X.prog X.w) X.A (setFlight e none) (fun _ s₃ => wpAny (model X.prog X.w) X.A (handleBy e X.env (h₀ :: hds)) (SP X pins D) X.xe s₃) X.xe s₂) X.xe s₁)
    (fun u s' xx => ?_) PassesOwn.looking).run [] s σ H D (I.toTry _) h) (fun f s1 hsp => ?_) (fun e s1 he => he))
  · obtain ⟨a, B, sI, pins', σ', H', cls, d, rfl, J', nb, up, sky, na, os, ag, w⟩ := xx
    have J : Inv X pins σ' H' sI := J'.ofTry ok
    show wpAny (model X.prog X.w) X.A (noteFrame (.ref a) X.env) _ _ _
    refine Sky.land Zc.steady hfr hf (hs ▸ sky) fun h3 fl3 up3 => ?_
    have J3 : Inv X pins σ' H' { s' with heap := h3 } := J.landed nb fl3.1 (up.trans up3) os ag
    obtain ⟨oe3, vs3, he3, hz3, hd3⟩ := fl3.there
    have nfr : a ∉ frs (X.env :: X.outer) := fun hm => by
      obtain ⟨_, o2, e2, hnf⟩ := fl3.2.2.1.mem hm
      rw [he3] at e2
      cases e2
      exact hnf _ hd3
    have nL : a ≠ X.env.locals := fun z => nfr (List.mem_filterMap.mpr ⟨X.env, List.mem_cons_self, hf.trans (congrArg some z.symm)⟩)
    have nF : a ∉ X.fs := fun hm => (List.mem_filterMap.mp hm).elim fun e z => nfr (List.mem_filterMap.mpr ⟨e, List.mem_cons_of_mem _ z.1, z.2⟩)
    have S3 := J3.suite he3 hd3 na nL nF
    have LT : PySem.W.Looks (model X.prog X.w) h3 (typeOf (.ref a)) cls := fun A Q E s k q => wpAny_typeOf_ref (k _ _ he3) (hz3.1 ▸ q)
    have go : ∀ {hs2 : List ExceptHandler} {l2 : List Cls3}, HdsAs X hs2 l2 → wEach X.K Wout D l2 cls d σ' H' → wpAny (model X.prog X.w) X.A (handleBy (.ref a) X.env hs2) (SP X pins D) X.xe { s' with heap := h3 } := by
      intro hs2 l2 hk
      induction hk with
      | nil =>
        intro w
        refine wpAny_handleBy_nil ?_
        obtain ⟨k1, k2, k3, oe, vs, T, oT, t2, he, hz, hd, h1, hr⟩ := id fl3
        unfold PySem.passOn
        refine wpAny_bind (wpAny_field he hd h1 ?_)
        rw [if_neg (show ¬ ((Value.ref T == Value.none) = true) from by simp)]
        have fin : wpAny (model X.prog X.w) X.A (setFlight (.ref a) X.env.frame) (fun _ s4 => wpAny (model X.prog X.w) X.A (throw (.ref a) : Sem Flow) (SP X pins D) X.xe s4) X.xe { s' with heap := h3 } := by
          rw [hf]
          refine HandSPX.setFlight_upZ fl3 fun h4 hh4 up4 => wpAny_throw (tk _ _ ⟨a, B, sI, pins, σ', H', cls, d, rfl, J, nb, (up.trans up3).trans up4, .inr (.inr (hs ▸ hh4)), na, os, ag, w⟩)
        first
          | exact wpAny_bind (wpAny_pure (wpAny_bind fin))
          | exact wpAny_bind fin
      | @cons x n c i ts b₀ rest np ep hds' l' hc hi hln hsu r ih =>
        rintro ⟨b, hb1, hyes, hno⟩
        refine wpAny_handleBy_cons (codeAny_handlers_test ?_) (by intro q; cases q)
        have test : ∀ {Q : Value → Shared → Prop} {E : Value → Shared → Prop}, Q c { s' with heap := h3 } → wpAny (model X.prog X.w) (X.A.mark (some (.ref a))) (eval (.Name x np) X.env) Q E { s' with heap := h3 } := fun {Q E} q => by
          rcases hc with ⟨hg, hdbg, hm | ⟨hm, hv, hnn⟩⟩
          · exact ld_glob (X := X.suite a ((a, oe3) :: (X.pn ++ pins))) S3 hg hm q hdbg
          · exact ld_blt (X := X.suite a ((a, oe3) :: (X.pn ++ pins))) S3 hg hm hv q hnn hdbg
        refine test ((PySem.W.exm_one (M := model X.prog X.w) J3.kIn LT hb1).here ?_)
        cases b with
        | false => exact ih (hno rfl)
        | true =>
          refine codeAny_handlers_suite_as (HandSPX.lands_againZ fl3 fun h4 fl4 up4 => ?_)
          have J4 : Inv X pins σ' H' { s' with heap := h4 } := J.landed nb fl4.1 ((up.trans up3).trans up4) os ag
          obtain ⟨oe4, vs4, he4, hz4, hd4⟩ := fl4.there
          refine store_ok (X := X.suite a ((a, oe4) :: (X.pn ++ pins))) (v := .ref a) (J4.suite he4 hd4 na nL nF) hN hi (.inl hln) rfl (fun s5 S5 => ?_) (.inr hln)
          refine wpAny_mono ((hsu a oe4 cls d (X.pn ++ pins) hz4 ⟨_, hd4⟩).run [] s5 _ H' _ S5 (hyes rfl a na)) (fun f s6 hsp => ?_) (fun _ _ z => False.elim z)
          cases f with
          | next => exact hsp.elim fun σ6 z => z.elim fun H6 z => gone_ok (z.1.unsuite ok) hN hi hln fun s7 J7 => ⟨_, _, J7, z.2⟩
          | brk => exact hsp.elim fun σ6 z => z.elim fun H6 z => gone_ok (z.1.unsuite ok) hN hi hln fun s7 J7 => ⟨_, _, J7, z.2⟩
          | cont => exact hsp.elim fun σ6 z => z.elim fun H6 z => gone_ok (z.1.unsuite ok) hN hi hln fun s7 J7 => ⟨_, _, J7, z.2⟩
          | ret u => exact hsp.elim fun v z => z.elim fun σ6 z => z.elim fun H6 z => gone_ok (z.1.unsuite ok) hN hi hln fun s7 J7 => ⟨v, _, _, J7, z.2.1, z.2.2⟩
    exact go hh w
  · cases f with
    | next => exact hsp.elim fun σ1 z => z.elim fun H1 z => wpAny_execs_nil ⟨σ1, H1, z.1.ofTry ok, z.2⟩
    | brk => exact hsp.elim fun σ1 z => z.elim fun H1 z => ⟨σ1, H1, z.1.ofTry ok, z.2⟩
    | cont => exact hsp.elim fun σ1 z => z.elim fun H1 z => ⟨σ1, H1, z.1.ofTry ok, z.2⟩
    | ret u => exact hsp.elim fun v z => z.elim fun σ1 z => z.elim fun H1 z => ⟨v, σ1, H1, z.1.ofTry ok, z.2⟩
end
/-! isinstance(e, c) in the suite, e an error with its own dict -/
/-- the error at a, its class at C, its dict at dd -/
def rIsS (K : PySem.W.Frag) (a : Addr) (cls : Value) (d : Option Addr) : List V → Hp → VK → Prop := fun xs H Q => ∃ (C dd : Addr) (fs : List (Str × V)) (c : V) (u : Value) (b : Bool), xs = [.ref a, c] ∧ cls = .ref C ∧ d = some dd ∧ H dd = some (.xd fs) ∧ ExcC K C ∧ ClsV c u ∧ PySem.W.kitOne K (.ref C) u = some b ∧ Q (.bl b) H
theorem cr_isS {X : Cx} {a : Addr} {oe : Obj} {cls : Value} {d : Option Addr} {pn : List (Addr × Obj)} (hz : Zc cls d oe) (hf : ∃ vs, oe.data = .fields vs) : CallR (X.suite a ((a, oe) :: pn)) (.builtin "isinstance") (rIsS X.K a cls d) := by
  intro pins s σ H xs us Q I r h
  obtain ⟨C, dd, fs, c, u, b, rfl, rfl, rfl, hd, T, k, e, q⟩ := h
  obtain ⟨u1, u2, rfl, r1, r2⟩ := vals2 r
  cases r1
  obtain rfl := k.eq r2
  obtain ⟨ha, _⟩ := I.pin (a, oe) (List.mem_append_left _ List.mem_cons_self)
  obtain ⟨vs, hv⟩ := hf
  obtain ⟨mA, hns, hr⟩ := (show ObjOk X.prog X.w H s.heap dd (.xd fs) from I.hok dd _ hd)
  obtain ⟨od, ho, hl⟩ := lookIn_ns hns
  exact PySem.W.kia_one (err_kit T) I.kIn ⟨oe, od, ha, hz.1, by unfold PySem.W.notCls; rw [hv] <;> rfl, by rw [hz.2]; exact ho⟩ e (fun z => nomatch z) fun tk => ⟨.bl b, H, I.tok tk, rfl, q⟩
/-- e.f in the suite -/
def tXs (K : PySem.W.Frag) (a : Addr) (cls : Value) (d : Option Addr) (f : Str) (te : TE) : TE := fun σ H Q => te σ H fun x H1 => ∃ (C dd : Addr) (fs : List (Str × V)) (v : V), x = .ref a ∧ cls = .ref C ∧ d = some dd ∧ H1 dd = some (.xd fs) ∧ XfC K C ∧ PySem.W.findIn K (.ref C) f = some none ∧ fs.lookup f = some v ∧ Q v H1
theorem pe_xs {X : Cx} {a : Addr} {oe : Obj} {cls : Value} {d : Option Addr} {pn : List (Addr × Obj)} {e : Expr} {te : TE} {pos : Pos} {f : Str} (hz : Zc cls d oe) (hf : ∃ vs, oe.data = .fields vs) (he : PE (X.suite a ((a, oe) :: pn)) e te)
    (hb : attributeBase e f X.env (eval e X.env) = eval e X.env := by rfl) : PE (X.suite a ((a, oe) :: pn)) (.Attribute e f pos) (tXs X.K a cls d f te) := by
  refine ⟨fun pins s σ H Q I h => attr_of hb (thn (he.run pins s σ H _ I h) fun u s1 hh => ?_)⟩
  obtain ⟨x, H1, I1, rx, C, dd, fs, v, rfl, rfl, rfl, ea, T, hno, l, q⟩ := hh
  obtain rfl : u = Value.ref a := rx
  obtain ⟨ha, _⟩ := I1.pin (a, oe) (List.mem_append_left _ List.mem_cons_self)
  obtain ⟨vs, hv⟩ := hf
  obtain ⟨mA, hns, hr⟩ := (show ObjOk X.prog X.w H1 s1.heap dd (.xd fs) from I1.hok dd _ ea)
  obtain ⟨od, ho, hl⟩ := lookIn_ns hns
  obtain ⟨u, hu, ru⟩ := RelO.some_of (v := v) (o := mA f) (l ▸ hr f)
  exact HandSPX.exc_get I1.kIn ⟨ha, hz.1, by unfold PySem.W.notCls; rw [hv] <;> rfl, by rw [hz.2]; exact ho⟩ T.ga T.gg T.exC (PySem.W.findObj_own T.hdC hno rfl (by rw [hl, hu])) (handed_of ru) ⟨v, H1, I1.tok _, ru, q⟩
end Mo

/-! ### own errors with two fields; isinstance with several classes in a suite -/
namespace Mo
open PySem PySem.Spec PyProof.Rows L2
open Builtin Builtin.ObjectAttr in
section
variable {prog : Program} {w : World} {A : Around} {E : Value → Shared → Prop} {R : Result → Shared → Prop} {hp : Heap} {g : Array GenState} {d : Drawn} {t : Nat} {os : OsState}
/-- a further field of such an error -/
theorem osaG2 {K : PySem.W.Frag} {nm : Str} {tk : Tok} {v : Value} {x C dx : Addr} {fv : Array Value} {cd : ClassData} {bmB : List Value} {m0 : Str → Option Value} {nl : List Str} (X : K.In hp) (hx : hp.get? x = some { cls := .ref C, dict := some dx, data := .fields fv })
    (hns : hp.Ns1 dx m0) (hw : Within m0 nl) (hz : nl.length ≤ 1000) (hcd : PySem.W.clsIn K C = some cd)
    (hm : PySem.W.excTail bmB cd.mro = true) (hne : bmB ≠ []) (hob : bmB.contains (.type "object") = true) (hps : ∀ self, refuseLoop self "__setattr__" bmB = pure ()) (hh : cd.hasDict = true) (ha : PySem.W.findIn K (.ref C) nm = some none)
    (hq : ∀ h' tk', (∀ b o, b ≠ dx → hp.get? b = some o → h'.get? b = some o) → h'.Ns1 dx (fun y => if y = nm then some v else m0 y) → R (.ok (.ret .none)) ⟨h', g, d, tk', os⟩) :
    codeAny (model prog w) A (.call (.builtin "object.__setattr__") ⟨[.ref x, .str nm tk, v], []⟩) R ⟨hp, g, d, t, os⟩ := by
  obtain ⟨oD, _, _, hoD, _, _⟩ := hns.count hw
  have J : PySem.W.InstAt hp x { cls := .ref C, dict := some dx, data := .fields fv } C (some oD) := ⟨hx, rfl, rfl, hoD⟩
  have SO := PySem.F.store_object
  have e1 : cd.mro.isEmpty = false := by
    cases q : cd.mro with
    | nil =>
      rw [q] at hm
      exact absurd (beq_iff_eq.mp hm).symm hne
    | cons _ _ => rfl
  have e2 : cd.mro.contains (.type "object") = true := (PySem.W.excTail_contains "object" _ hm).trans hob
  have su : PySem.W.Looks (model prog w) hp (isInstance (.ref x) (.type "object")) true := J.type.andThen (PySem.W.looks_mroIn X (by unfold PySem.W.mroIn; rw [hcd, Option.bind_some, if_neg (by rw [e1]; decide), e2]))
  refine codeAny_call_builtin SO.slot.plain SO.entry (@PySem.W.check_slot (model prog w) _ _ ⟨hp, g, d, t, os⟩ "object.__setattr__" "object" "__setattr__" (.ref x) [.str nm tk, v] [] _ SO.kind SO.split su (SO.args (.ref x) (.str nm tk) v) ?_)
  have l1 : PySem.W.Looks (model prog w) hp (mroOf (.ref C)) cd.mro := (PySem.W.looks_clsIn X hcd).andThen .now
  have l2 : PySem.W.Looks (model prog w) hp (storeTaker? none) none := .now
  have l3 : PySem.W.Looks (model prog w) hp (classData C) cd := PySem.W.looks_clsIn X hcd
  rw [PySem.W.osa_eq, refuse_eq]
  refine wpAny_bind (wpAny_bind (J.type.at (wpAny_bind (l1.at ?_))))
  rw [PySem.W.excTail_pass _ (hps _) _ hm]
  refine wpAny_pure (wpAny_bind (J.type.at (wpAny_bind ((PySem.W.looks_findIn X ha).at (wpAny_bind (l2.at ?_))))))
  show wpAny _ _ (storeInOwnDict (.ref x) (.ref C) (.str nm tk) nm v false) _ _ _
  obtain ⟨_, _, mro, _, _, hd, _, _, _, _, _⟩ := cd
  obtain rfl : hd = true := hh
  unfold storeInOwnDict ownDictForStores
  repeat (first | with_reducible refine PySem.OEX.store_in_old hns hw hz ?_ | with_reducible refine wpAny_loadPart_at hx ?_ | with_reducible refine l3.at ?_ | wp_step)
  intro h2 tk2 hn2 hs2
  exact hq h2 tk2 (fun b o hb ho => (hs2.2 b hb).trans ho) hn2
end
section
variable {X : Cx} {pins : List (Addr × Obj)} {σ : L2.St} {H : Hp} {s : Shared} {a C dx : Addr} {f : Str} {y : V} {u : Value} {fs : List (Str × V)} {Q : Unit → Shared → Prop} {E : Value → Shared → Prop} {A : Around} {B newId initId : String} {bmB : List Value}
theorem fieldG2 (T : OvC X.K C B newId initId bmB) (I : Inv X pins σ H s) (e : H a = some (exo a C (some dx))) (ed : H dx = some (exd dx fs)) (hl : fs.length ≤ 900) (hno : PySem.W.findIn X.K (.ref C) f = some none) (ry : RelV y u)
    (h : ∀ s', Inv X pins σ (upd H dx (exd dx ((f, y) :: fs))) s' → Q () s') : wpAny (model X.prog X.w) A (setAttr (.ref a) f u) Q E s := by
  obtain ⟨nm, q, N, bs, bm, sn, sub, ab, col, dd, k0, k1, k2, k3, k5, hC, hbm⟩ := T.cls
  have hcl : ∃ cd, PySem.W.clsIn X.K C = some cd ∧ cd.mro = .ref C :: bm ∧ cd.hasDict = true := by
    refine ⟨⟨nm, bs, .ref C :: bm, N, q, true, sn, sub, ab, col, false⟩, ?_, rfl, rfl⟩
    unfold PySem.W.clsIn
    rw [hC]
  obtain ⟨cd, c1, c2, c3⟩ := hcl
  obtain ⟨t1, ho⟩ := exo_at I.hok e
  obtain ⟨mA, hns, rel⟩ := exd_at I.hok ed
  have hw := within_of rel
  obtain ⟨hp, g, dr, tk, os⟩ := s
  obtain ⟨oD, _, _, hoD, _, _⟩ := hns.count hw
  refine PySem.W.set_plain I.kIn (ox := { cls := .ref C, dict := some dx, data := .fields #[.ref t1, .none, .none, .none, .bool false, .none] }) (od := some oD) ⟨ho, rfl, rfl, hoD⟩ T.sa ?_
  refine osaG2 I.kIn ho hns hw (by rw [List.length_map]; omega) c1 (by rw [c2]; exact hbm) (fun z => ?_) T.obj T.pas c3 hno (fun h2 tk2 kp hn => ?_)
  · have z2 := T.obj
    rw [z] at z2
    cases z2
  have there : ∃ o, h2.get? dx = some o := hn.elim fun o z => z.elim fun _ z => z.elim fun _ z => ⟨o, z.1⟩
  exact h _ (I.write (t' := tk2) (x := dx) (e := dx) (o := exd dx ((f, y) :: fs)) (by rw [ed]; exact True.intro) (.inl rfl) kp there (exd_ok hn (relO_put ry rel)))
end
/-- self.f = e, a further field of such an error -/
def tFieldG2 (K : PySem.W.Frag) (f : Str) (to te : TE) : TS := fun D σ H => te σ H fun y H1 => to σ H1 fun x H2 => ∃ (a C dx : Addr) (fs : List (Str × V)) (B newId initId : String) (bmB : List Value), x = .ref a ∧ OvC K C B newId initId bmB ∧ PySem.W.findIn K (.ref C) f = some none ∧
  H2 a = some (exo a C (some dx)) ∧ H2 dx = some (exd dx fs) ∧ fs.length ≤ 900 ∧ D.nx σ (upd H2 dx (exd dx ((f, y) :: fs)))
section
variable {X : Cx} {o e : Expr} {to te : TE} {f : Str} {q1 pos : Pos}
theorem ps_fieldG2 (ho : PE X o to) (he : PE X e te) (hs : swapsWith e (some (.Attribute o f q1)) pos.line X.env = pure false := by rfl) : PS X (.Assign [.Attribute o f q1] e pos) (tFieldG2 X.K f to te) := by
  refine ⟨fun pins s σ H D I h => ?_⟩
  refine plainObj_wpAny_Assign_Attribute (thn (he.run pins s σ H _ I h) fun v s1 ⟨y, H1, I1, r1, z1⟩ => thn (ho.run pins s1 σ H1 _ I1 z1) fun u s2 ⟨x, H2, I2, r2, a, C, dx, fs, B, newId, initId, bmB, ex, T, hno, ea, ed, hl, z⟩ => ?_) hs
  subst ex
  obtain rfl : u = Value.ref a := r2
  exact fieldG2 T I2 ea ed hl hno r1 fun s' J => ⟨σ, _, J, z⟩
end
/-- __init__ of such an error: self.f = y; self.g = z -/
def spInit2 (C : Addr) (f g : Str) : Sp := fun vs H Q _ => ∃ (a : Addr) (y z : V), vs = [.ref a, y, z] ∧ H a = some (exo a C none) ∧ ∀ dx, H dx = none → dx ≠ a → Q .non (upd (upd (upd H dx (exd dx [(f, y)])) a (exo a C (some dx))) dx (exd dx [(g, z), (f, y)]))
/-- raising it: what is left to be shown -/
theorem err_read2 {C : Addr} {f g : Str} {H : Hp} {v u : V} {Q : XK} (h : ∀ d H', H d = none → Same H H' → H' d = some (.xd [(g, u), (f, v)]) → Q (.ref C) (some d) H') :
    [v, u].length ≤ 1000 ∧ ∀ a, H a = none → spInit2 C f g (.ref a :: ([v, u] ++ [])) (upd H a (exo a C none)) (fun x H2 => x = .non ∧ ∃ (d : Addr) (fs : List (Str × V)), H2 a = some (exo a C (some d)) ∧ H2 d = some (exd d fs) ∧ H d = none ∧ Q (.ref C) (some d) (upd (del H2 a) d (.xd fs))) (fun _ _ _ => False) := by
  refine ⟨by show 2 ≤ 1000; decide, fun a na => ⟨a, v, u, rfl, upd_same, fun dx nd ne => ⟨rfl, dx, [(g, u), (f, v)], by rw [upd_ne (Ne.symm ne), upd_same], upd_same, ?_, ?_⟩⟩⟩
  · rw [upd_ne ne] at nd
    exact nd
  · have nd' : H dx = none := by rw [upd_ne ne] at nd; exact nd
    refine h dx _ nd' (fun b o e => ?_) upd_same
    have nb : b ≠ dx := ne_of_none e nd'
    have nba : b ≠ a := ne_of_none e na
    rw [upd_ne nb, del_ne nba, upd_ne nb, upd_ne nba, upd_ne nb, upd_ne nba]
    exact e
/-- isinstance(e, (c1, c2, ..)) in the suite -/
def rIsST (K : PySem.W.Frag) (a : Addr) (cls : Value) (d : Option Addr) : List V → Hp → VK → Prop := fun xs H Q => ∃ (C dd tp : Addr) (fs : List (Str × V)) (cs : List V) (us : List Value) (b : Bool), xs = [.ref a, .ref tp] ∧ cls = .ref C ∧ d = some dd ∧ H dd = some (.xd fs) ∧ ExcC K C ∧ H tp = some (.tup cs) ∧ Paired ClsV cs us ∧
  PySem.W.kitAny K (.ref C) us = some b ∧ Q (.bl b) H
theorem cr_isST {X : Cx} {a : Addr} {oe : Obj} {cls : Value} {d : Option Addr} {pn : List (Addr × Obj)} (hz : Zc cls d oe) (hf : ∃ vs, oe.data = .fields vs) : CallR (X.suite a ((a, oe) :: pn)) (.builtin "isinstance") (rIsST X.K a cls d) := by
  intro pins s σ H xs ws Q I r h
  obtain ⟨C, dd, tp, fs, cs, us, b, rfl, rfl, rfl, hd, T, hT, k, e, q⟩ := h
  obtain ⟨u1, u2, rfl, r1, r2⟩ := vals2 r
  cases r1
  cases (show u2 = Value.ref tp from r2)
  obtain ⟨ha, _⟩ := I.pin (a, oe) (List.mem_append_left _ List.mem_cons_self)
  obtain ⟨vs, hv⟩ := hf
  obtain ⟨mA, hns, hr⟩ := (show ObjOk X.prog X.w H s.heap dd (.xd fs) from I.hok dd _ hd)
  obtain ⟨od, ho, hl⟩ := lookIn_ns hns
  obtain ⟨_, its, rv, ⟨oc, od', dt, sl⟩, h1, h2, n, h3⟩ := (show ObjOk X.prog X.w H s.heap tp (.tup cs) from I.hok tp _ hT)
  obtain rfl := ClsV.all k rv
  simp only at h2 h3
  subst h2 h3
  exact PySem.W.kia_tup (err_kit T) I.kIn ⟨oe, od, ha, hz.1, by unfold PySem.W.notCls; rw [hv] <;> rfl, by rw [hz.2]; exact ho⟩ h1 e (fun z => nomatch z) fun tk => ⟨.bl b, H, I.tok tk, rfl, q⟩
end Mo

namespace Mo
open PySem PySem.Spec PyProof.Rows L2
def topS (i : Nat) : Stmt := PySem.Challenge.pw_mustoccur_k70_fragments_joined.main.body.getD i (.Pass ⟨0, 0, 0, 0⟩)
abbrev sIsPattern : Stmt := topS 7
theorem scIsPattern : FnScope ["value", "name"] ["value"] (defScope sIsPattern) := ⟨rfl, rfl, rfl, by decide +kernel, rfl, by decide +kernel, by decide +kernel⟩
abbrev sIsFormula : Stmt := topS 10
theorem scIsFormula : FnScope ["value", "fragment"] ["value"] (defScope sIsFormula) := ⟨rfl, rfl, rfl, by decide +kernel, rfl, by decide +kernel, by decide +kernel⟩
abbrev sCheckFormula : Stmt := topS 11
theorem scCheckFormula : FnScope ["value"] ["value"] (defScope sCheckFormula) := ⟨rfl, rfl, rfl, by decide +kernel, rfl, by decide +kernel, by decide +kernel⟩
abbrev sNamesIn : Stmt := topS 12
theorem scNamesIn : FnScope ["formula"] ["formula"] (defScope sNamesIn) := ⟨rfl, rfl, rfl, by decide +kernel, rfl, by decide +kernel, by decide +kernel⟩
abbrev sJoined : Stmt := topS 13
theorem scJoined : FnScope ["formula", "names", "gaps", "between", "name", "fragment"] ["formula"] (defScope sJoined) := ⟨rfl, rfl, rfl, by decide +kernel, rfl, by decide +kernel, by decide +kernel⟩
abbrev sLPen : Stmt := topS 15
theorem scLPen : FnScope ["_law_script"] ["_law_script"] (defScope sLPen) := ⟨rfl, rfl, rfl, by decide +kernel, rfl, by decide +kernel, by decide +kernel⟩
abbrev sLDraw : Stmt := topS 16
theorem scLDraw : FnScope ["_law_pen_here", "_law_count", "_law_digit", "_law_index", "_law_cell", "_law_mixed"] ["_law_pen_here", "_law_count"] (defScope sLDraw) := ⟨rfl, rfl, rfl, by decide +kernel, rfl, by decide +kernel, by decide +kernel⟩
abbrev sLPick : Stmt := topS 17
theorem scLPick : FnScope ["_law_pen_here", "_law_options"] ["_law_pen_here", "_law_options"] (defScope sLPick) := ⟨rfl, rfl, rfl, by decide +kernel, rfl, by decide +kernel, by decide +kernel⟩
abbrev sLDrawnLetters : Stmt := topS 18
theorem scLDrawnLetters : FnScope ["_law_pen_here", "_law_count", "_law_first", "_law_step", "_law_k"] ["_law_pen_here", "_law_count"] (defScope sLDrawnLetters) := ⟨rfl, rfl, rfl, by decide +kernel, rfl, by decide +kernel, by decide +kernel⟩
abbrev sLDistinct : Stmt := topS 19
theorem scLDistinct : FnScope ["_law_string", "_law_found", "_law_sign"] ["_law_string"] (defScope sLDistinct) := ⟨rfl, rfl, rfl, by decide +kernel, rfl, by decide +kernel, by decide +kernel⟩
abbrev sLDrawnFormula : Stmt := topS 20
theorem scLDrawnFormula : FnScope ["_law_pen_here", "_law_parts", "_law_size", "_law_count", "_law_letters", "_law_found", "_law_k", "_law_j"] ["_law_pen_here", "_law_parts", "_law_size", "_law_count"] (defScope sLDrawnFormula) := ⟨rfl, rfl, rfl, by decide +kernel, rfl, by decide +kernel, by decide +kernel⟩
abbrev sLDue : Stmt := topS 21
theorem scLDue : FnScope ["_law_formula", "_law_used", "_law_unused", "_law_sign", "_law_fresh", "_law_pattern", "_law_k", "_law_part"] ["_law_formula"] (defScope sLDue) := ⟨rfl, rfl, rfl, by decide +kernel, rfl, by decide +kernel, by decide +kernel⟩
abbrev sLActual : Stmt := topS 22
theorem scLActual : FnScope ["_law_formula", "_law_caught", "_law_found", "e"] ["_law_formula"] (defScope sLActual) := ⟨rfl, rfl, rfl, by decide +kernel, rfl, by decide +kernel, by decide +kernel⟩
abbrev sLLong : Stmt := topS 23
theorem scLLong : FnScope ["_law_pen_here", "_law_letters", "_law_total", "_law_found", "_law_size", "_law_k"] ["_law_pen_here"] (defScope sLLong) := ⟨rfl, rfl, rfl, by decide +kernel, rfl, by decide +kernel, by decide +kernel⟩
abbrev sLaw : Stmt := topS 24
theorem scLaw : FnScope ["_law_script", "_law_pen_here", "_law_formulas", "_law_turn", "_law_formula", "_law_given", "_law_kept"] ["_law_script"] (defScope sLaw) := ⟨rfl, rfl, rfl, by decide +kernel, rfl, by decide +kernel, by decide +kernel⟩
abbrev sInitInvalidFormula : Stmt := inClass (topS 1) 0
theorem scInitInvalidFormula : FnScope ["self", "value"] ["self", "value"] (defScope sInitInvalidFormula) := ⟨rfl, rfl, rfl, by decide +kernel, rfl, by decide +kernel, by decide +kernel⟩
abbrev sInitTooLarge : Stmt := inClass (topS 2) 0
theorem scInitTooLarge : FnScope ["self", "limit"] ["self", "limit"] (defScope sInitTooLarge) := ⟨rfl, rfl, rfl, by decide +kernel, rfl, by decide +kernel, by decide +kernel⟩
structure Txt (K : PySem.W.Frag) (mg : Str → Option Value) where
  cInvalidFormula : Addr
  eInvalidFormula : mg "InvalidFormula" = some (.ref cInvalidFormula)
  cTooLarge : Addr
  eTooLarge : mg "TooLarge" = some (.ref cTooLarge)
  iInvalidFormula : Addr
  dInvalidFormula : FuncData
  fInitInvalidFormula : Fun K "__init__" "InvalidFormula.__init__" sInitInvalidFormula iInvalidFormula dInvalidFormula
  bInitInvalidFormula : Binds K dInvalidFormula ["self", "value"] []
  xInvalidFormula : ErrC K cInvalidFormula iInvalidFormula "value"
  iTooLarge : Addr
  dTooLarge : FuncData
  fInitTooLarge : Fun K "__init__" "TooLarge.__init__" sInitTooLarge iTooLarge dTooLarge
  bInitTooLarge : Binds K dTooLarge ["self", "limit"] []
  xTooLarge : ErrG K cTooLarge iTooLarge "limit" "OverflowError" "OverflowError.__new__" "OverflowError.__init__" [.type "OverflowError", .type "ArithmeticError", .type "Exception", .type "BaseException", .type "object"]
  oTooLargeOverflowError : PySem.W.kitOne K (.ref cTooLarge) (.type "OverflowError") = some true
  aIsPattern : Addr
  dIsPattern : FuncData
  fIsPattern : Fun K "is_pattern" "is_pattern" sIsPattern aIsPattern dIsPattern
  bIsPattern : Binds K dIsPattern ["value"] []
  gIsPattern : mg "is_pattern" = some (.ref aIsPattern)
  aIsFormula : Addr
  dIsFormula : FuncData
  fIsFormula : Fun K "is_formula" "is_formula" sIsFormula aIsFormula dIsFormula
  bIsFormula : Binds K dIsFormula ["value"] []
  gIsFormula : mg "is_formula" = some (.ref aIsFormula)
  aCheckFormula : Addr
  dCheckFormula : FuncData
  fCheckFormula : Fun K "check_formula" "check_formula" sCheckFormula aCheckFormula dCheckFormula
  bCheckFormula : Binds K dCheckFormula ["value"] []
  gCheckFormula : mg "check_formula" = some (.ref aCheckFormula)
  aNamesIn : Addr
  dNamesIn : FuncData
  fNamesIn : Fun K "names_in" "names_in" sNamesIn aNamesIn dNamesIn
  bNamesIn : Binds K dNamesIn ["formula"] []
  gNamesIn : mg "names_in" = some (.ref aNamesIn)
  aJoined : Addr
  dJoined : FuncData
  fJoined : Fun K "joined" "joined" sJoined aJoined dJoined
  bJoined : Binds K dJoined ["formula"] []
  gJoined : mg "joined" = some (.ref aJoined)
  aLPen : Addr
  dLPen : FuncData
  fLPen : Fun K "_law_pen" "_law_pen" sLPen aLPen dLPen
  bLPen : Binds K dLPen ["_law_script"] []
  gLPen : mg "_law_pen" = some (.ref aLPen)
  aLDraw : Addr
  dLDraw : FuncData
  fLDraw : Fun K "_law_draw" "_law_draw" sLDraw aLDraw dLDraw
  bLDraw : Binds K dLDraw ["_law_pen_here", "_law_count"] []
  gLDraw : mg "_law_draw" = some (.ref aLDraw)
  aLPick : Addr
  dLPick : FuncData
  fLPick : Fun K "_law_pick" "_law_pick" sLPick aLPick dLPick
  bLPick : Binds K dLPick ["_law_pen_here", "_law_options"] []
  gLPick : mg "_law_pick" = some (.ref aLPick)
  aLDrawnLetters : Addr
  dLDrawnLetters : FuncData
  fLDrawnLetters : Fun K "_law_drawn_letters" "_law_drawn_letters" sLDrawnLetters aLDrawnLetters dLDrawnLetters
  bLDrawnLetters : Binds K dLDrawnLetters ["_law_pen_here", "_law_count"] []
  gLDrawnLetters : mg "_law_drawn_letters" = some (.ref aLDrawnLetters)
  aLDistinct : Addr
  dLDistinct : FuncData
  fLDistinct : Fun K "_law_distinct" "_law_distinct" sLDistinct aLDistinct dLDistinct
  bLDistinct : Binds K dLDistinct ["_law_string"] []
  gLDistinct : mg "_law_distinct" = some (.ref aLDistinct)
  aLDrawnFormula : Addr
  dLDrawnFormula : FuncData
  fLDrawnFormula : Fun K "_law_drawn_formula" "_law_drawn_formula" sLDrawnFormula aLDrawnFormula dLDrawnFormula
  bLDrawnFormula : Binds K dLDrawnFormula ["_law_pen_here", "_law_parts", "_law_size", "_law_count"] []
  gLDrawnFormula : mg "_law_drawn_formula" = some (.ref aLDrawnFormula)
  aLDue : Addr
  dLDue : FuncData
  fLDue : Fun K "_law_due" "_law_due" sLDue aLDue dLDue
  bLDue : Binds K dLDue ["_law_formula"] []
  gLDue : mg "_law_due" = some (.ref aLDue)
  aLActual : Addr
  dLActual : FuncData
  fLActual : Fun K "_law_actual" "_law_actual" sLActual aLActual dLActual
  bLActual : Binds K dLActual ["_law_formula"] []
  gLActual : mg "_law_actual" = some (.ref aLActual)
  aLLong : Addr
  dLLong : FuncData
  fLLong : Fun K "_law_long" "_law_long" sLLong aLLong dLLong
  bLLong : Binds K dLLong ["_law_pen_here"] []
  gLLong : mg "_law_long" = some (.ref aLLong)
  aLaw : Addr
  dLaw : FuncData
  fLaw : Fun K "law" "law" sLaw aLaw dLaw
  bLaw : Binds K dLaw ["_law_script"] []
  gLaw : mg "law" = some (.ref aLaw)
  t_VARIABLES : Tok
  m_VARIABLES : mg "VARIABLES" = some (.str "abcdefghijklmnopqrstuvwxyz" t_VARIABLES)
  t_LONGEST_PATTERN : Tok
  m_LONGEST_PATTERN : mg "LONGEST_PATTERN" = some (.int 40 t_LONGEST_PATTERN)
  t_MOST_VARIABLES : Tok
  m_MOST_VARIABLES : mg "MOST_VARIABLES" = some (.int 8 t_MOST_VARIABLES)
  t_MOST_FRAGMENTS : Tok
  m_MOST_FRAGMENTS : mg "MOST_FRAGMENTS" = some (.int 20 t_MOST_FRAGMENTS)
  m_all : mg "all" = none
  m_len : mg "len" = none
  m_set : mg "set" = none
  m_isinstance : mg "isinstance" = none
  m_str : mg "str" = none
  m_tuple : mg "tuple" = none
  m_list : mg "list" = none
  m_sorted : mg "sorted" = none
  m_zip : mg "zip" = none
  m_max : mg "max" = none
  m_abs : mg "abs" = none
  m_range : mg "range" = none
  m_enumerate : mg "enumerate" = none
  m_OverflowError : mg "OverflowError" = none
  m_min : mg "min" = none
  m_repr : mg "repr" = none
end Mo

namespace Mo
open PySem PySem.Spec PyProof.Rows L2
section
variable {P : Program} {w : World} {K : PySem.W.Frag} {mg : Str → Option Value} {base : Heap}
theorem ints_dp {H : Hp} : ∀ ns : List Int, DpAll K H (ns.map V.int) (ns.map PyData.int)
  | [] => .nil
  | n :: ns => .cons (.int n) (ints_dp ns)
theorem mod_in {a b : Int} (h : 0 < b) : 0 ≤ a.fmod b ∧ a.fmod b < b := by
  rw [Int.fmod_eq_emod_of_nonneg _ (Int.le_of_lt h)]
  exact ⟨Int.emod_nonneg _ (by omega), Int.emod_lt_of_pos _ h⟩
theorem div_in {a b : Int} (h : 0 < b) (ha : 0 ≤ a) : 0 ≤ a.fdiv b := by
  rw [Int.fdiv_eq_ediv_of_nonneg _ (Int.le_of_lt h)]
  exact Int.ediv_nonneg ha (Int.le_of_lt h)
theorem nat_of {i : Int} (h : 0 ≤ i) : ∃ j : Nat, i = (j : Int) := ⟨i.toNat, by omega⟩
theorem ok_draw {k : Nat} (T : Txt K mg) : FnOk P w K mg base CX0 (k + 1) T.aLDraw T.dLDraw ["_law_pen_here", "_law_count"] spSDraw := by
  refine T.fLDraw.ok scLDraw (fun vs H Q E h => ?_) (fun cdv A outer s H vs Q E hr h => ?_)
  · obtain ⟨d, c, n, t, rfl, _⟩ := h
    rfl
  · obtain ⟨d, c, n, t, rfl, src, n0, n1, ht, q⟩ := h
    have hu := hu_of hr
    obtain ⟨ns, r, hd, hc, hl, r0⟩ := id src
    have ndc := src.ne
    have gC := DGet.k (k := Sum.inr "cells") hd
    have gT := DGet.k (k := Sum.inr "index") hd
    have gR := DGet.k (k := Sum.inr "rest") hd
    rw [src_cells] at gC
    rw [src_index] at gT
    rw [src_rest] at gR
    have nz : n ≠ 0 := by omega
    have na : n.natAbs < 1073741824 := by omega
    refine ⟨_, (pss_cons (ps_if (pt_cmpR op_gt (pe_dget hu (pv 0) pe_str (fun _ _ => rfl)) pe_int (nomark _)) (pss_cons (ps_set (i := 2) scLDraw.nd rfl (Or.inl rfl) (pe_op op_modN (pe_dget hu (pv 0) pe_str (fun _ _ => rfl)) (pv 1)))
      (pss_cons (ps_dput hu (pv 0) pe_str (pe_op op_fdivN (pe_dget hu (pv 0) pe_str (fun _ _ => rfl)) (pv 1)) rfl)
      (pss_one (ps_ret (pv 2))))) pss_nil)
      (pss_cons (ps_set (i := 3) scLDraw.nd rfl (Or.inl rfl) (pe_dget hu (pv 0) pe_str (fun _ _ => rfl)))
      (pss_cons (ps_dput hu (pv 0) pe_str (pe_op op_add (pv 3) pe_int) rfl)
      (pss_cons (ps_set (i := 4) scLDraw.nd rfl (Or.inl rfl) (pe_op op_add (pe_op op_mul pe_int (pv 3)) pe_int))
      (Evl.pss_cut (ps_if (pt_cmpR (op_neD hr.units) (pe_dget hu (pv 0) pe_str (fun _ _ => rfl)) (pe_lst pa_nil) (nomark _)) (pss_one (ps_set (i := 4) scLDraw.nd rfl (Or.inl rfl) (pe_ix ix_list (pe_dget hu (pv 0) pe_str (fun _ _ => rfl)) (pe_op op_modN (pv 3) (pe_callB call_len_seq (by rfl) T.m_len PySem.boot_len (pa_cons (pe_dget hu (pv 0) pe_str (fun _ _ => rfl)) pa_nil))) (fun _ _ => rfl)))) pss_nil)
      (Evl.pss_cut (ps_if (PW.pt (pw_and (pt_cmpR op_lt (pv 3) (pe_callB call_len_seq (by rfl) T.m_len PySem.boot_len (pa_cons (pe_dget hu (pv 0) pe_str (fun _ _ => rfl)) pa_nil)) (nomark _)) (pw_and1 (pt_cmpR op_ge (pe_callB call_abs (by rfl) T.m_abs (by decide +kernel) (pa_cons (pv 4) pa_nil)) (pe_op op_pow pe_int pe_int) (nomark _))))) (pss_cons (ps_dput hu (pv 0) pe_str (pe_op op_fdivN (pe_op op_sub (pe_callB call_abs (by rfl) T.m_abs (by decide +kernel) (pa_cons (pv 4) pa_nil)) (pe_op op_pow pe_int pe_int)) (pv 1)) rfl)
      (pss_one (ps_ret (pe_op op_modN (pe_op op_sub (pe_callB call_abs (by rfl) T.m_abs (by decide +kernel) (pa_cons (pv 4) pa_nil)) (pe_op op_pow pe_int pe_int)) (pv 1))))) pss_nil)
      (pss_cons (ps_set (i := 5) scLDraw.nd rfl (Or.inl rfl) (pe_op op_add (pe_op op_mul (pe_op op_modN (pv 4) pe_int) pe_int) (pe_op op_mul (pe_op op_mul pe_int (pv 3)) (pv 3))))
      (pss_cons (ps_set (i := 5) scLDraw.nd rfl (Or.inl rfl) (pe_op op_modN (pe_op op_add (pe_op op_add (pv 5) (pe_op op_mul pe_int (pv 3))) pe_int) pe_int))
      (pss_cons (ps_set (i := 5) scLDraw.nd rfl (Or.inl rfl) (pe_op op_modN (pe_op op_add (pe_op op_add (pe_op op_add (pe_op op_mul (pv 5) (pv 5)) (pe_op op_mul pe_int (pv 5))) (pe_op op_mul pe_int (pv 3))) pe_int) pe_int))
      (pss_one (ps_ret (pe_op op_modN (pe_op op_fdivN (pe_op op_modN (pe_op op_mul (pv 5) (pe_op op_add (pv 5) pe_int)) pe_int) pe_int) (pv 1))))))))))))), ?_⟩
    refine ⟨_, rfl, d, _, rfl, gR, _, _, rfl, rfl, _, rfl, ite2 (fun e => ?_) (fun e => ?_)⟩
    · -- a digit of the rest
      refine ⟨_, rfl, d, _, rfl, gR, _, rfl, r, n, rfl, rfl, nz, ?_⟩
      refine ⟨_, rfl, d, _, rfl, gR, _, rfl, r, n, rfl, rfl, ⟨nz, na⟩, _, rfl, d, _, rfl, DPut.k (k := Sum.inr "rest") hd (by show 3 < sizeLine; decide), ?_⟩
      rw [sput_rest]
      exact ⟨_, rfl, q _ _ t But.set (src_set src (div_in n0 r0)) (Nat.le_succ _) (mod_in n0).1 (mod_in n0).2⟩
    · -- turn, turn + 1
      refine ⟨_, rfl, d, _, rfl, gT, ?_⟩
      refine ⟨_, rfl, t, 1, rfl, rfl, _, rfl, d, _, rfl, DPut.k (k := Sum.inr "index") hd (by show 3 < sizeLine; decide), ?_⟩
      rw [sput_index, show (t : Int) + 1 = ((t + 1 : Nat) : Int) by omega]
      have src1 : Src (upd H d (.dK (srcD c ((t + 1 : Nat) : Int) r))) d c (t + 1) := src_set src r0
      have but1 : But d H (upd H d (.dK (srcD c ((t + 1 : Nat) : Int) r))) := But.set
      generalize eH1 : upd H d (.dK (srcD c ((t + 1 : Nat) : Int) r)) = H1 at *
      have hc1 : H1 c = some (.lst (ns.map V.int)) := but1 _ _ ndc.symm hc
      have hd1 : H1 d = some (.dK (srcD c ((t + 1 : Nat) : Int) r)) := by rw [← eH1, upd_same]
      have gC1 := DGet.k (k := Sum.inr "cells") hd1
      rw [src_cells] at gC1
      -- cell
      refine ⟨_, rfl, 53, t, rfl, rfl, .inl ⟨by decide, by decide⟩, _, 19, rfl, rfl, ?_⟩
      -- if cells != []
      refine ⟨fun σ' H' => ∃ (v : Int) (o2 o5 : Option V), σ' = [some (.ref d), some (.int n), o2, some (.int t), some (.int v), o5] ∧ Same H1 H', ?_, ?_⟩
      · refine ⟨_, rfl, d, _, rfl, gC1, Nat.zero_le _, fun p np => ?_⟩
        have sm := same_new (o := .lst []) np
        refine ⟨.list (ns.map PyData.int), .list [], .lst (SqL.of (sm _ _ hc1)) (ints_dp ns), .lst (SqL.of upd_same) .nil, PySem.W.ke_shaped_ints ns, rfl, _, rfl, ite2 (fun e => ?_) (fun e => ?_)⟩
        · have hne : ns ≠ [] := by
            rintro rfl
            exact absurd e (by decide)
          have gC2 := DGet.k (k := Sum.inr "cells") (sm _ _ hd1)
          rw [src_cells] at gC2
          have hlen : 0 < ns.length := List.length_pos_iff.mpr hne
          obtain ⟨j, hj⟩ := nat_of (mod_in (a := t) (b := ((ns.map V.int).length : Int)) (by rw [List.length_map]; omega)).1
          have hj2 : j < ns.length := by
            have h2 := (mod_in (a := t) (b := ((ns.map V.int).length : Int)) (by rw [List.length_map]; omega)).2
            rw [hj, List.length_map] at h2
            omega
          refine ⟨_, rfl, d, _, rfl, gC2, _, rfl, _, rfl, d, _, rfl, gC2, c, _, rfl, .inl (SqL.of (sm _ _ hc1)), t, _, rfl, rfl, (by rw [List.length_map]; omega), c, ns.map V.int, _, .int ns[j], rfl, rfl, SqL.of (sm _ _ hc1), ?_, ?_⟩
          · rw [hj]
            exact atI_nat (by rw [List.getElem?_map, List.getElem?_eq_getElem hj2]; rfl)
          · exact ⟨_, _, _, rfl, sm⟩
        · exact ⟨_, _, _, rfl, sm⟩
      · rintro σ' H2 ⟨v, o2, o5, rfl, sm⟩
        have hd2 := sm _ _ hd1
        have hc2 := sm _ _ hc1
        have src2 : Src H2 d c (t + 1) := src1.same sm
        have but2 : But d H H2 := but1.trans (But.same sm)
        have gC2 := DGet.k (k := Sum.inr "cells") hd2
        rw [src_cells] at gC2
        clear e hd hc gC gT gR hd1 hc1 gC1 src1 but1 eH1 sm src
        -- if turn < len(cells) and abs(cell) >= 10 ** 18
        refine ⟨fun σ' H' => σ' = [some (.ref d), some (.int n), o2, some (.int t), some (.int v), o5] ∧ H' = H2, ?_, ?_⟩
        · refine ⟨_, rfl, _, rfl, d, _, rfl, gC2, c, _, rfl, .inl (SqL.of hc2), _, _, rfl, rfl, _, rfl, ite2 (fun e1 => ?_) (fun e1 => ?_)⟩
          · refine ⟨_, rfl, _, rfl, 10, 18, rfl, rfl, ⟨by decide, by decide, by decide⟩, _, _, rfl, rfl, _, rfl, ite2 (fun e2 => ?_) (fun e2 => ⟨rfl, rfl⟩)⟩
            have ab : (0 : Int) ≤ (if v < 0 then -v else v) - 10 ^ 18 := by
              have h2 := of_decide_eq_true e2
              have h3 : (10 : Int) ^ (18 : Int).toNat = 10 ^ 18 := rfl
              omega
            refine ⟨_, rfl, _, rfl, 10, 18, rfl, rfl, ⟨by decide, by decide, by decide⟩, _, _, rfl, rfl, _, rfl, _, _, rfl, rfl, ⟨nz, na⟩, _, rfl, d, _, rfl, DPut.k (k := Sum.inr "rest") hd2 (by show 3 < sizeLine; decide), ?_⟩
            rw [sput_rest]
            refine ⟨_, rfl, _, rfl, 10, 18, rfl, rfl, ⟨by decide, by decide, by decide⟩, _, _, rfl, rfl, _, rfl, _, _, rfl, rfl, nz, ?_⟩
            exact q _ _ (t + 1) (but2.trans But.set) (src_set src2 (div_in n0 ab)) (Nat.le_refl _) (mod_in n0).1 (mod_in n0).2
          · exact ⟨rfl, rfl⟩
        · rintro σ' H' ⟨rfl, rfl⟩
          refine ⟨_, rfl, _, 2147483647, rfl, rfl, (by show (2147483647 : Int) ≠ 0; decide), _, 48271, rfl, rfl, .inr ⟨by decide, by decide⟩, ?_⟩
          refine ⟨_, rfl, 69621, t, rfl, rfl, .inl ⟨by decide, by decide⟩, _, rfl, _, t, rfl, rfl, .inr ⟨by omega, by omega⟩, _, _, rfl, rfl, ?_⟩
          generalize e0 : v.fmod 2147483647 * 48271 + 69621 * (t : Int) * t = m0
          refine ⟨_, rfl, _, rfl, 40014, t, rfl, rfl, .inl ⟨by decide, by decide⟩, m0, _, congrArg V.int e0, rfl, _, 29, rfl, rfl, _, 2147483629, rfl, rfl, (by show (2147483629 : Int) ≠ 0; decide), ?_⟩
          have m1 := mod_in (a := m0 + 40014 * (t : Int) + 29) (b := 2147483629) (by decide)
          generalize em : (m0 + 40014 * (t : Int) + 29).fmod 2147483629 = m at m1
          refine ⟨_, rfl, _, rfl, m, m, congrArg V.int em, congrArg V.int em, .inl ⟨by omega, by omega⟩, _, rfl, 16807, m, rfl, congrArg V.int em, .inl ⟨by decide, by decide⟩, _, _, rfl, rfl, _, rfl, 3, t, rfl, rfl, .inl ⟨by decide, by decide⟩, _, _, rfl, rfl, _, 5, rfl, rfl, _, 2147483587, rfl, rfl, (by show (2147483587 : Int) ≠ 0; decide), ?_⟩
          have m2 := mod_in (a := m * m + 16807 * m + 3 * (t : Int) + 5) (b := 2147483587) (by decide)
          generalize em' : (m * m + 16807 * m + 3 * (t : Int) + 5).fmod 2147483587 = m' at m2
          refine ⟨_, rfl, _, rfl, m', 40692, congrArg V.int em', rfl, m', _, congrArg V.int em', rfl, .inl ⟨by omega, by omega⟩, _, 2147483579, rfl, rfl, (by show (2147483579 : Int) ≠ 0; decide), _, 64, rfl, rfl, ⟨by decide, by decide⟩, _, rfl, _, n, rfl, rfl, nz, ?_⟩
          exact q _ _ (t + 1) but2 src2 (Nat.le_refl _) (mod_in n0).1 (mod_in n0).2
end
end Mo

namespace Mo
open PySem PySem.Spec PyProof.Rows L2
section
variable {P : Program} {w : World} {K : PySem.W.Frag} {mg : Str → Option Value} {base : Heap}
def spPen (K : PySem.W.Frag) : Sp := fun vs H Q _ => ∃ (a : Addr) (ns : List Int), vs = [.ref a] ∧ SqL K H a (ns.map V.int) ∧ ns.length ≤ 63 ∧ ∀ H' d c, Same H H' → H d = none → Src H' d c 0 → Q (.ref d) H'
theorem ok_pen {k : Nat} (T : Txt K mg) : FnOk P w K mg base CX0 (k + 1) T.aLPen T.dLPen ["_law_script"] (spPen K) := by
  refine T.fLPen.ok scLPen (fun vs H Q E h => ?_) (fun cdv A outer s H vs Q E hr h => ?_)
  · obtain ⟨a, ns, rfl, _⟩ := h
    rfl
  · obtain ⟨a, ns, rfl, hs, hn, q⟩ := h
    refine ⟨_, (pss_one (ps_ret (pe_disp (pps_cons pe_str (pe_callTy call_list_of (by rfl) T.m_list (by decide +kernel) (pa_cons (pe_slice sl_list (pv 0) po_none (po_some pe_int)) pa_nil)) (pps_cons pe_str pe_int (pps_cons pe_str pe_int pps_nil))) (by rfl) (by rfl) (fun z => by cases z) (by decide)))), ?_⟩
    intro d nd
    have s1 := same_new (o := .dK []) nd
    refine ⟨_, rfl, 63, rfl, a, _, rfl, s1.seq hs, fun p np => ?_⟩
    have s2 := same_new (o := .lst (cutV (ns.map V.int) none (some 63))) np
    refine ⟨p, _, rfl, .inl (SqL.of upd_same), fun c nc => ?_⟩
    have s3 := same_new (o := .lst (cutV (ns.map V.int) none (some 63))) nc
    have ec : cutV (ns.map V.int) none (some 63) = ns.map V.int := by
      unfold cutV
      rw [HT.sIx_none, show (some (63 : Int)) = some ((63 : Nat) : Int) from rfl, HT.sIx_nat, List.drop_zero, Nat.sub_zero, List.length_map]
      exact List.take_of_length_le (by rw [List.length_map]; omega)
    rw [ec] at nc s2 s3 ⊢
    have hd3 := s3 _ _ (s2 _ _ (upd_same (H := H) (a := d) (o := .dK [])))
    refine ⟨hd3, srcD c 0 0, rfl, by show 3 ≤ 15; decide, ?_⟩
    rw [src_merge]
    have ncd : c ≠ d := (ne_of_none (s2 _ _ (upd_same (H := H) (a := d) (o := .dK []))) nc).symm
    refine q _ d c (Same.put ((s1.trans s2).trans s3) nd) nd ⟨ns, 0, upd_same, by rw [upd_ne ncd, upd_same], hn, Int.le_refl 0⟩
end
end Mo

/-! ### one of two rules; a def held by a name, called within a try -/
namespace Mo
open PySem PySem.Spec PyProof.Rows L2
section
variable {X : Cx}
theorem callR_or {f : Value} {r1 r2 : List V → Hp → VK → Prop} (h1 : CallR X f r1) (h2 : CallR X f r2) : CallR X f (fun xs H Q => r1 xs H Q ∨ r2 xs H Q) := fun pins s σ H xs us Q I r h => Or.elim h (h1 pins s σ H xs us Q I r) (h2 pins s σ H xs us Q I r)
theorem ixR_or {r1 r2 : V → V → Hp → VK → Prop} (h1 : IxR X r1) (h2 : IxR X r2) : IxR X (fun x y H Q => r1 x y H Q ∨ r2 x y H Q) := by
  intro value slice pins s σ H x y v u Q I rx ry h hs
  rcases h with h | h
  · exact h1 value slice pins s σ H x y v u Q I rx ry h hs
  · exact h2 value slice pins s σ H x y v u Q I rx ry h hs
variable {CX : CXT} {k i : Nat} {f : Addr} {fd : FuncData} {ps : List Str} {sp : Sp} {E : L2.St → XK} {x : Str} {p pos : Pos} {e : Expr} {es : List Expr} {t : TA}
def tCallLS (i : Nat) (f : Addr) (sp : Sp) (E : L2.St → XK) (t : TA) : TE := fun σ H Q => σ[i]? = some (some (.ref f)) ∧ t σ H fun vs H1 => sp vs H1 Q (E σ)
theorem pe_callLS (F : FnOk X.prog X.w X.K X.mg X.base CX k f fd ps sp) (hr : Room k X.A) (hN : X.N[i]? = some x) (hv : Vis X.env.scope x) (hk : PySem.W.keepIn X.K (.ref f) = true) (hb : L2.Binds X.K fd ps []) (hx : ∀ σ, PassesAt CX X σ (E σ)) (ha : PA X (e :: es) t)
    (hdb : (x == ("__debug__" : Str)) = false := by decide) (hcd : (x == ("__classdict__" : Str)) = false := by decide)
    (he : starEach (e :: es) X.env = (false, eval e X.env) :: starEach es X.env := by rfl) (hpl : (backTo pos (starEach es X.env)).any (·.1) = false := by rfl) : PE X (.Call (.Name x p) (e :: es) [] pos) (tCallLS i f sp E t) := by
  refine ⟨fun pins s σ H Q I h => ?_⟩
  obtain ⟨hs, ht⟩ := h
  refine wpAny_Call_Name_kw (thn ((pe_var (pos := p) hN hv hdb hcd).run pins s σ H (fun v H1 => v = .ref f ∧ H1 = H) I ⟨.ref f, hs, rfl, rfl⟩) fun u s1 ⟨v, H1, I1, r1, q1⟩ => ?_)
  obtain ⟨ev, eH⟩ := q1
  subst ev
  subst eH
  cases r1
  exact PySem.W.callWith_K (h₀ := X.base) I.ok.mod.kin hk (thn (ha.run pos pins s1 σ _ _ I1 ht) fun us s2 ⟨vs, H2, I2, r, q⟩ => ⟨I2.kIn, run_fnS F hr hb (hx σ) I2 r q⟩) he hpl
end
end Mo

/-! ### sorted(set(a text)) -/
namespace Mo
open PySem PySem.Spec PyProof.Rows L2 PySem.Froz
section
variable {P : Program} {w : World} {A : Around} {E : Value → Shared → Prop} {s : Shared}
/-- the set of the signs of cs, as a walk of it wants it -/
def SgAt (P : Program) (w : World) (h : Heap) (a : Addr) (cs : List Nat) : Prop := ∃ (D : SD) (l : List Str), h.get? a = some (sObj "set" D) ∧ TxOk P w D l ∧ (∀ k : Str, k ∈ l ↔ ∃ c ∈ cs, k = ⟨#[c]⟩) ∧ l.length = (met cs).length ∧
  Ris D.2.2.place.toList ∧ (w.params.followText "set-order" = true ∨ D.2.2.led = true)
theorem SgAt.keep {h h' : Heap} {a : Addr} {cs : List Nat} (x : SgAt P w h a cs) (k : ∀ o, h.get? a = some o → h'.get? a = some o) : SgAt P w h' a cs := by
  obtain ⟨D, l, ho, r⟩ := x
  exact ⟨D, l, k _ ho, r⟩
theorem sg_fresh {h : Heap} {a : Addr} (e : h.get? a = some { cls := .type "set", dict := none, data := .set #[] 0 (.fresh 0 0 (!w.params.followText "set-order")) }) : SgAt P w h a [] := by
  refine ⟨(#[], 0, .fresh 0 0 (!w.params.followText "set-order")), [], e, TxOk.nil (by rfl), fun k => by simp, rfl, List.Pairwise.nil, ?_⟩
  show _ ∨ (!w.params.followText "set-order") = true
  cases w.params.followText "set-order"
  · exact .inr rfl
  · exact .inl rfl
theorem tailTx_ris {ep : Nat} {es : Array (Int × Value)} {t : SetTable} {b : Bool} (r : Ris t.place.toList) : Ris (tailTx ep es t b).2.2.place.toList := by
  unfold tailTx
  split
  · exact relayAll_ris _ _ _
  · exact r
theorem tailTx_led {ep : Nat} {es : Array (Int × Value)} {t : SetTable} {b : Bool} : (tailTx ep es t b).2.2.led = t.led := by
  unfold tailTx
  split
  · exact relayAll_led _ _ _
  · rfl
theorem addTx_ris {h : Int} {v : Value} {D : SD} (r : Ris D.2.2.place.toList) : Ris (addTx h v D).2.2.place.toList := by
  have q := layNew_ris D.2.2 D.1 h v r
  unfold addTx
  refine tailTx_ris ?_
  split <;> exact q
theorem addTx_led {h : Int} {v : Value} {D : SD} : (addTx h v D).2.2.led = D.2.2.led := by
  have q := layNew_led D.2.2 D.1 h v
  unfold addTx
  refine tailTx_led.trans ?_
  split <;> exact q
/-- a text that the set has is added: nothing is changed -/
theorem add_old {a : Addr} {T : String} {D : SD} {l : List Str} {k : Str} {u : Tok} {Q : Bool → Shared → Prop} (ho : s.heap.get? a = some (sObj T D)) (F : TxOk P w D l) (hk : k ∈ l) (hb : l.length < scanBound)
    (h : Q false s) : wpAny (model P w) A (setAddHashed a (.str k u) (hashStr w k)) Q E s := by
  obtain ⟨es, ep, t⟩ := D
  have hs : es.size = l.length := F.sz
  obtain ⟨e, he, q⟩ := (F.mem k).mp hk
  unfold setAddHashed setAddHashedIn
  refine wpAny_holding (wpAny_bind (wpAny_setState_of ho rfl F.fit ?_))
  dsimp only
  rw [byScan_of rfl (by rw [hs]; exact hb) F.el]
  simp only [↓reduceIte]
  unfold setAddByScan
  refine wpAny_bind (wpAny_bind (wpAny_rule (wpAny_bind (wpAny_setScan_of (knd := strKind P w) (k := k) (is_str k u) ho rfl F.fit F.el ?_))))
  cases hf : List.findIdx? (fun e => (strKind P w).is k e.2) es.toList with
  | none =>
    have z := List.findIdx?_eq_none_iff.mp hf e he
    rw [q] at z
    cases z
  | some j =>
    dsimp only
    exact wpAny_pure (wpAny_pure h)
theorem sg_add {a : Addr} {cs : List Nat} {c : Nat} {u : Tok} {Q : Bool → Shared → Prop} (x : SgAt P w s.heap a cs) (room : cs.length + 1 < scanBound)
    (h : ∀ b h', Heap.SameBut a s.heap h' → SgAt P w h' a (cs ++ [c]) → Q b { s with heap := h' }) : wpAny (model P w) A (setAddHashed a (.str ⟨#[c]⟩ u) ((strKind P w).hash ⟨#[c]⟩)) Q E s := by
  obtain ⟨D, l, ho, F, hm, hl, hr, hd⟩ := x
  have hml := met_length_le cs
  by_cases hc : c ∈ cs
  · refine add_old ho F ((hm _).mpr ⟨c, hc, rfl⟩) (by omega) ?_
    refine h false s.heap (Heap.SameBut.refl a s.heap) ⟨D, l, ho, F, fun k => ?_, ?_, hr, hd⟩
    · rw [hm k]
      refine ⟨fun ⟨d, z, e⟩ => ⟨d, List.mem_append_left _ z, e⟩, fun ⟨d, z, e⟩ => ?_⟩
      rcases List.mem_append.mp z with z | z
      · exact ⟨d, z, e⟩
      · exact ⟨c, hc, by rw [e, List.mem_singleton.mp z]⟩
    · rw [met_snoc, metStep, if_pos (mem_met.mpr hc)]
      exact hl
  · have hk : (⟨#[c]⟩ : Str) ∉ l := fun z => by
      obtain ⟨d, hd, e⟩ := (hm _).mp z
      rw [sign_inj e] at hc
      exact hc hd
    refine add_x ho F hk (by omega) ?_
    refine h true _ (Heap.SameBut.update s.heap a _) ⟨_, _, get_upd _ ho rfl, add_ok u F, fun k => ?_, ?_, addTx_ris hr, hd.imp id fun z => addTx_led.trans z⟩
    · rw [List.mem_cons, hm k]
      refine ⟨fun z => z.elim (fun e => ⟨c, List.mem_append_right _ (List.mem_singleton.mpr rfl), e⟩) fun ⟨d, z, e⟩ => ⟨d, List.mem_append_left _ z, e⟩, fun ⟨d, z, e⟩ => ?_⟩
      rcases List.mem_append.mp z with z | z
      · exact .inr ⟨d, z, e⟩
      · exact .inl (by rw [e, List.mem_singleton.mp z])
    · rw [met_snoc, metStep, if_neg (fun z => hc (mem_met.mp z)), List.length_append, List.length_cons, hl]
      rfl
theorem sgs_loop {I : Addr} {fp wr : List Addr} {G : Array GenState → Array GenState → Prop} {n : Nat} {Pv : Nat → Value → Prop} {St : Nat → Shared → Prop} {R : Result → Shared → Prop}
    (W : WalksS P w A.in1 I fp wr G n Pv St) (D : Addr) (hD : D ∉ fp) (cs : List Nat) (hn : n = cs.length) (hb : cs.length + 1 < scanBound)
    (hval : ∀ i v, Pv i v → ∃ c t, cs[i]? = some c ∧ v = .str ⟨#[c]⟩ t) :
    ∀ (k i : Nat) (s : Shared), n - i = k → i ≤ n → St i s → SgAt P w s.heap D (cs.take i) →
      (∀ s', Moved (D :: wr) G s s' → SgAt P w s'.heap D cs → R (.ok (.ret .none)) s') →
      codeAny (model P w) A (.builtin "set.update.loop" ⟨[.ref D, .ref I], []⟩) R s := by
  have hDw : D ∉ wr := fun h => hD (W.sub _ h)
  have up : ∀ b ∈ wr, b ∈ D :: wr := fun b q => List.mem_cons_of_mem _ q
  intro k
  induction k with
  | zero =>
    intro i s hk hi hst hS hR
    obtain rfl : i = n := by omega
    refine codeAny_builtin PyProof.Rows.F.entry_set_update_loop (by
      rw [Around.under_plainId PyProof.Rows.F.plain_set_update_loop _]
      show wpAny _ A.in1 (pyNext (.ref I) >>= _) _ _ s
      refine wpAny_bind (W.done s _ _ hst fun s' hm => wpAny_pure (hR s' (hm.mono up) ?_))
      rw [List.take_of_length_le (by omega)] at hS
      exact hS.keep fun o ho => hm.heap D o hDw ho)
  | succ k ih =>
    intro i s hk hi hst hS hR
    have hlt : i < n := by omega
    refine codeAny_builtin PyProof.Rows.F.entry_set_update_loop (by
      rw [Around.under_plainId PyProof.Rows.F.plain_set_update_loop _]
      show wpAny _ A.in1 (pyNext (.ref I) >>= _) _ _ s
      refine wpAny_bind (W.item i s _ _ hlt hst fun v s' hP hst' hm => ?_)
      obtain ⟨c, t, hc, rfl⟩ := hval i v hP
      have hS' : SgAt P w s'.heap D (cs.take i) := hS.keep fun o ho => hm.heap D o hDw ho
      show wpAny _ A.in1 (holding [Value.str ⟨#[c]⟩ t] (setAdd D (.str ⟨#[c]⟩ t)) >>= _) _ _ s'
      refine wpAny_bind (wpAny_holding (by
        unfold setAdd
        refine wpAny_holding (wpAny_bind ((strKind P w).pyHash (k := ⟨#[c]⟩) (is_str _ _) ?_))
        have e3 : cs.take (i + 1) = cs.take i ++ [c] := by
          rw [List.take_add_one, hc]
          rfl
        have room : (cs.take i).length + 1 < scanBound := by
          rw [List.length_take]
          omega
        refine sg_add (s := { s' with toks := s'.toks + 1 }) hS' room fun b h' hsb hS2 => ?_
        have hS3 : SgAt P w h' D (cs.take (i + 1)) := by
          rw [e3]
          exact hS2
        refine wpAny_pure ⟨plainId_quiet PyProof.Rows.F.plain_set_update_loop _, ih (i + 1) _ (by omega) hlt (W.frame _ s' _ _ hst' (Nat.le_succ _) fun b q o e => ?_) hS3 fun s2 hm2 hS4 => ?_⟩
        · rw [hsb.2 b (fun z : b = D => hD (by rw [← z]; exact q))]
          exact e
        · refine hR s2 (Moved.trans W.gtrans ((hm.mono up).then_heap (Nat.le_succ _) fun b o q e => ?_) hm2) hS4
          rw [hsb.2 b (fun z : b = D => q (by rw [z]; exact List.mem_cons_self))]
          exact e)))

set_option maxHeartbeats 8000000 in
/-- set(a text) -/
theorem call_set_sgs {z : Str} {t : Tok} {Q : Value → Shared → Prop} (hh : A.handled = none) (hb : z.cps.size + 1 < scanBound)
    (h : ∀ (h' : Heap) (tk : Nat), SgAt P w h' s.heap.objs.size z.cps.toList → (∀ b o, s.heap.get? b = some o → h'.get? b = some o) → Q (.ref s.heap.objs.size) { s with heap := h', toks := tk }) :
    wpAny (model P w) A (call (.type "set") [.str z t]) Q E s := by
  obtain ⟨c, tl, hmro⟩ := PySem.F.called_set.mro
  have hmade := PySem.F.called_set.made; have hsub := PySem.F.called_set.sub
  refine wpAny_call (codeAny_of_tree (by
    show wpAny _ _ (callAny (.type "set") _) _ _ _
    refine wpAny_pure ⟨Code.quiet_builtin _ (by decide +kernel), codeAny_builtin PySem.F.entry_type_call ?_⟩
    rw [Around.under_plain (weight_type_call_type "set" [.str z t] []) rfl]
    have h1 := PySem.F.called_set.notType; have h2 := PySem.F.called_set.canCreate
    have hct := PySem.F.typeCall_set_1 (.str z t)
    repeat (any_goals (first | assumption | wp_step))
    refine codeAny_mono (code_set_led1 (.str z t) (E := E) (Q₁ := fun obj s₁ => obj = .ref s.heap.objs.size ∧ s₁ = { s with heap := s.heap.push { cls := .type "set", dict := none, data := .set #[] 0 (.fresh 0 0 (!w.params.followText "set-order")) } }) ⟨rfl, rfl⟩) fun r s₁ hr => ?_
    cases r with
    | error e => exact hr
    | ok fl =>
      cases fl with
      | ret obj =>
        obtain ⟨rfl, rfl⟩ := hr
        generalize hNew : ({ cls := .type "set", dict := none, data := .set #[] 0 (.fresh 0 0 (!w.params.followText "set-order")) } : Obj) = nw
        have hfr : ∀ (h : Heap) (a : Addr), h.get? a = some nw → SgAt P w h a [] := by
          intro h a e
          rw [← hNew] at e
          exact sg_fresh e
        have hcls : nw.cls = .type "set" := by rw [← hNew]
        have hnf : nw.isFreed = false := by rw [← hNew]; rfl
        have hS : (s.heap.push nw).get? s.heap.objs.size = some nw := Heap.get?_push_size _ hnf
        have hT : Shared.TypeIs { s with heap := s.heap.push nw } (.ref s.heap.objs.size) "set" := ⟨_, hS, hcls⟩
        have hli := PySem.F.called_set.init.lookup; have hbi := PySem.F.called_set.init.bind (.ref s.heap.objs.size)
        repeat (any_goals (first | assumption | wp_step))
        refine codeAny_mono (codeAny_call_builtin (R := wants (fun r s₂ => r = .none ∧ ∃ h' tk, s₂ = { s with heap := h', toks := tk } ∧ SgAt P w h' s.heap.objs.size z.cps.toList ∧
          (∀ b o, s.heap.get? b = some o → h'.get? b = some o)) E) PySem.F.called_set.init.plain PySem.F.entry_set_init (check_set_init_1 hT ?_)) fun r₂ s₂ hr₂ => ?_
        · subst hNew
          have n1 : isSubtype (.type "str") (.type "set") = pure false := by rw [isSubtype_type]; kernel_rfl
          have n2 : isSubtype (.type "str") (.type "frozenset") = pure false := by rw [isSubtype_type]; kernel_rfl
          have n3 : (Value.type "str" == Value.type "dict") = false := by decide
          unfold Builtin.«set.__init__» noKeywords Builtin.Frozenset.updateFrom
          generalize hPI : pyIter = PI
          wp_walk
          subst hPI
          have hh3 : A.in1.in1.in1.handled = none := by simp [hh]
          generalize hNew : ({ cls := .type "set", data := .set #[] 0 (.fresh 0 0 (!w.params.followText "set-order")) } : Obj) = nw at *
          have hz1 : (s.heap.push nw).objs.size = s.heap.objs.size + 1 := Heap.size_push ..
          have fin : ∀ (ty : String) (wk : Walks P w A.in1.in1.in1 (s.heap.push nw).objs.size [(s.heap.push nw).objs.size] [(s.heap.push nw).objs.size] z.cps.size (SignAt z) (fun i h => h.IsStrIter (s.heap.push nw).objs.size ty z t i))
              (Rk : Result → Shared → Prop), (∀ h' tk, SgAt P w h' s.heap.objs.size z.cps.toList → (∀ b o, s.heap.get? b = some o → h'.get? b = some o) → Rk (.ok (.ret .none)) { s with heap := h', toks := tk }) →
              codeAny (model P w) A.in1.in1 (.builtin "set.update.loop" ⟨[.ref s.heap.objs.size, .ref (s.heap.push nw).objs.size], []⟩) Rk
                { s with heap := (s.heap.push nw).push { cls := .type ty, data := .fields #[.str z t, .int 0 0] } } := by
            intro ty wk Rk hR
            refine sgs_loop (wk.toS) s.heap.objs.size (by rw [hz1]; simp) z.cps.toList (by simp) (by simpa using hb) (fun i v hv => ?_) (z.cps.size - 0) 0 _ (by omega) (Nat.zero_le _) ⟨_, Heap.get?_push_size _ rfl, rfl, rfl⟩ ?_ ?_
            · obtain ⟨c, u, hc, rfl⟩ := hv
              exact ⟨c, u, by rw [Array.getElem?_toList]; exact hc, rfl⟩
            · exact hfr _ _ (Heap.get?_push_of_some _ hS)
            · intro s' hm hS'
              obtain ⟨h', g', d', tk', os'⟩ := s'
              obtain rfl : g' = s.gens := hm.gens
              obtain rfl : d' = s.drawn := hm.drawn
              obtain rfl : os' = s.os := hm.os
              refine hR h' tk' hS' fun b o e => ?_
              have hb0 : b < s.heap.objs.size := Heap.lt_size e
              have n1 : b ∉ s.heap.objs.size :: [(s.heap.push nw).objs.size] := by
                rw [hz1]
                intro q
                rcases List.mem_cons.mp q with q | q
                · exact Nat.ne_of_lt hb0 q
                · exact Nat.ne_of_lt (Nat.lt_succ_of_lt hb0) (List.mem_singleton.mp q)
              exact hm.heap b o n1 (Heap.get?_push_of_some _ (Heap.get?_push_of_some _ e))
          cases ha : z.cps.all (· < 128)
          · refine wpAny_pyIter_wide ha (wpAny_bind (wpAny_runValue (fin _ (Walks.strWide hh3 _ z t) _ fun h' tk hS2 hk2 => wpAny_pure ?_)))
            exact wpAny_pure ⟨rfl, h', tk, rfl, hS2, hk2⟩
          · refine wpAny_pyIter_ascii ha (wpAny_bind (wpAny_runValue (fin _ (Walks.strAscii hh3 _ z t) _ fun h' tk hS2 hk2 => wpAny_pure ?_)))
            exact wpAny_pure ⟨rfl, h', tk, rfl, hS2, hk2⟩
        · cases r₂ with
          | error e => exact hr₂
          | ok fl₂ =>
            cases fl₂ with
            | ret r =>
              obtain ⟨rfl, h', tk, rfl, hS', hk'⟩ := hr₂
              repeat (any_goals (first | assumption | wp_step))
              exact h _ _ hS' hk'
            | _ => exact hr₂.elim
      | _ => exact hr.elim))
end
end Mo

/-! ### sorted(set(a text)): the rules -/
namespace Mo
open PySem PySem.Spec PyProof.Rows L2 PySem.Froz
theorem perm_cover {α : Type} [DecidableEq α] : ∀ (L ks : List α), L.Nodup → (∀ x ∈ L, x ∈ ks) → ks.length = L.length → ks.Perm L
  | [], ks, _, _, h => by
    rw [List.length_eq_zero_iff.mp h]
  | x :: L, ks, nd, hs, h => by
    have hx := hs x List.mem_cons_self
    have nd2 := List.nodup_cons.mp nd
    have ih := perm_cover L (ks.erase x) nd2.2 (fun y hy => (List.mem_erase_of_ne (fun e : y = x => nd2.1 (e ▸ hy))).mpr (hs y (List.mem_cons_of_mem _ hy))) (by rw [List.length_erase_of_mem hx, h, List.length_cons]; omega)
    exact (List.perm_cons_erase hx).trans (ih.cons x)
def strOf : Value → Str
  | .str x _ => x
  | _ => Str.empty
theorem strs_of_all : ∀ {vs : List Value}, (∀ v ∈ vs, ∃ x t, v = Value.str x t) → StrsAre vs (vs.map strOf)
  | [], _ => .nil
  | v :: vs, h => by
    obtain ⟨x, t, rfl⟩ := h v List.mem_cons_self
    exact .cons x t (strs_of_all fun u hu => h u (List.mem_cons_of_mem _ hu))
theorem signs_nodup : ∀ {l : List Nat}, l.Nodup → (l.map fun c => (⟨#[c]⟩ : Str)).Nodup
  | [], _ => List.nodup_nil
  | c :: l, h => by
    have h2 := List.nodup_cons.mp h
    refine List.nodup_cons.mpr ⟨fun z => ?_, signs_nodup h2.2⟩
    obtain ⟨d, hd, e⟩ := List.mem_map.mp z
    rw [sign_inj e] at hd
    exact h2.1 hd
section
variable {P : Program} {w : World} {A : Around} {E : Value → Shared → Prop} {s : Shared}
theorem sorted_sgs {a : Addr} {cs : List Nat} {Q : Value → Shared → Prop} (x : SgAt P w s.heap a cs) (hh : A.handled = none) (h64 : (met cs).length < 64)
    (hQ : ∀ s' p (out : Array Value) (c : Nat) (ys : List Str), (∀ b o, s.heap.get? b = some o → s'.heap.get? b = some o) → s'.gens = s.gens → s'.os = s.os → s.heap.objs.size ≤ p →
      s'.heap.get? p = some (seqObj "list" out c) → StrsAre out.toList ys → ys.Perm ((met cs).map fun c => (⟨#[c]⟩ : Str)) → sortedS ys = true → Q (.ref p) s') :
    wpAny (model P w) A (call (.builtin "sorted") [.ref a]) Q E s := by
  obtain ⟨⟨es, ep, t⟩, l, ho, F, hm, hl, hr, hd⟩ := x
  have hn : es.size = (met cs).length := F.sz.trans hl
  refine Calls.call_function_entry kind_sorted plain_sorted entry_sorted (args_sorted1 _) ?_
  unfold Builtin.«sorted»
  refine wpAny_bind (m := checkCount "sorted" 1 1 _) (wpAny_pure ?_)
  refine wpAny_bind (collect_set (A := A.in1) hh ⟨_, ho, rfl, rfl⟩ F.fit (by rw [hn]; unfold scanBound; omega) hr hd fun s1 vs k1 hz g1 o1 pm => ?_)
  have hvl : vs.length = (met cs).length := by rw [pm.length_eq, List.length_map, Array.length_toList, hn]
  have texts : ∀ e ∈ es.toList, ∃ x t, e.2 = Value.str x t := fun e he => by
    obtain ⟨⟨k, hk, _⟩, _⟩ := F.el e he
    obtain ⟨t, ev⟩ := Value.isStrOf_shape (x := k) (v := e.2) hk
    exact ⟨k, t, ev⟩
  have hS : StrsAre vs (vs.map strOf) := strs_of_all fun v hv => by
    obtain ⟨e, he, q⟩ := List.mem_map.mp (pm.mem_iff.mp hv)
    obtain ⟨x, t, h⟩ := texts e he
    exact ⟨x, t, by rw [← q]; exact h⟩
  have pc : (vs.map strOf).Perm ((met cs).map fun c => (⟨#[c]⟩ : Str)) := by
    refine perm_cover _ _ (signs_nodup (met_nodup cs)) (fun k hk => ?_) (by rw [List.length_map, List.length_map, hvl])
    obtain ⟨c, hc, rfl⟩ := List.mem_map.mp hk
    obtain ⟨e, he, q⟩ := (F.mem _).mp ((hm _).mpr ⟨c, mem_met.mp hc, rfl⟩)
    obtain ⟨t, ev⟩ := Value.isStrOf_shape (x := (⟨#[c]⟩ : Str)) (v := e.2) q
    exact List.mem_map.mpr ⟨e.2, pm.mem_iff.mpr (List.mem_map.mpr ⟨e, he, rfl⟩), by rw [ev]; rfl⟩
  refine wpAny_bind (wpAny_newList ?_ (by rw [hvl, sizeLine_eq]; omega))
  have hoL : (s1.heap.push (seqObj "list" vs.toArray 0)).get? s1.heap.objs.size = some (seqObj "list" vs.toArray 0) := Heap.get?_push_size _ rfl
  refine wpAny_bind (wpAny_holding (wpAny_call_entry slot_list_sort ⟨_, hoL, rfl⟩ entry_list_sort
    (list_sort_treeK strKind_oneLt hoL hS.keysOf (fun v₁ v₂ rest e => keyKind_strs (by rw [← e]; exact hS)) (by rw [hvl]; exact h64) fun st' hp hs => ⟨_, rfl, ?_⟩) (args_list_sort _)))
  obtain ⟨ys, y1, y2, y3⟩ := sorted_out_str hS hp hs
  obtain ⟨c, hc⟩ := sortedHeap_at (vs := vs) (out := (arrOf st').map (·.2)) hoL
  refine wpAny_pure ⟨_, rfl, hQ _ s1.heap.objs.size _ c ys (fun b u e => ?_) g1 o1 hz hc y1 (y2.trans pc) y3⟩
  have q := k1 b u e
  have hlt := Heap.lt_size q
  show (sortedHeap (s1.heap.push (seqObj "list" vs.toArray 0)) s1.heap.objs.size vs _).get? b = some u
  rw [sortedHeap_old (Nat.ne_of_lt hlt) (by rw [size_push']; exact Nat.lt_succ_of_lt hlt)]
  exact Heap.get?_push_of_some _ q
end
/-- the set of the signs of cs, at a -/
def SetSg (P : Program) (w : World) (a : Addr) (cs : List Nat) : HO := .ext fun h => SgAt P w h a cs
section
variable {X : Cx}
theorem setSg_new {w : World} {P : Program} {H : Hp} {h : Heap} {a : Addr} {cs : List Nat} (R : SgAt P w h a cs) : ObjOk P w H h a (SetSg P w a cs) := by
  have ⟨_, _, ho, _⟩ := R
  exact ⟨R, ⟨_, ho⟩, fun h1 h2 p k => SgAt.keep p k⟩
def rSetSg (P : Program) (w : World) : List V → Hp → VK → Prop := fun xs H Q => ∃ z : Str, xs = [.str z] ∧ z.cps.size ≤ 4000 ∧ ∀ p, H p = none → Q (.ref p) (upd H p (SetSg P w p z.cps.toList))
/-- set(z), z a text, to be walked -/
theorem cr_setSg {P : Program} {w : World} (hp : X.prog = P) (hw : X.w = w) (hc : X.calm = true) : CallR X (.type "set") (rSetSg P w) := by
  subst hp
  subst hw
  intro pins s σ H xs us Q I r h
  obtain ⟨z, rfl, hz, q⟩ := h
  obtain ⟨u, rfl, t, rfl⟩ := vals1 r
  refine call_set_sgs (I.ok.hd hc) (by unfold scanBound; omega) fun h' tk hS hk => ?_
  exact ⟨.ref _, _, I.laid (t' := tk) hk (Nat.le_refl _) (setSg_new hS), rfl, q _ (I.hok.fresh (Nat.le_refl _))⟩
def rSortSg (P : Program) (w : World) : List V → Hp → VK → Prop := fun vs H Q => ∃ (a : Addr) (cs : List Nat), vs = [V.ref a] ∧ H a = some (SetSg P w a cs) ∧ (met cs).length < 64 ∧
  ∀ (ys : List Str) (p : Addr), ys.Perm ((met cs).map fun c => (⟨#[c]⟩ : Str)) → sortedS ys = true → H p = none → Q (.ref p) (upd H p (.lst (ys.map V.str)))
/-- sorted(a set of signs) -/
theorem cr_sortSg {P : Program} {w : World} (hp : X.prog = P) (hw : X.w = w) (hc : X.calm = true) : CallR X (.builtin "sorted") (rSortSg P w) := by
  subst hp
  subst hw
  intro pins s σ H vs us Q I r h
  obtain ⟨a, cs, rfl, ha, h64, q⟩ := h
  have R : SgAt X.prog X.w s.heap a cs := (I.hok a _ ha).1
  rw [Vals.ref1 r]
  refine sorted_sgs R (I.ok.hd hc) h64 fun s' p out c ys k g o hp hg hi hm hs => ?_
  have hlen : (ys.map V.str).length ≤ sizeLine := by rw [List.length_map, hm.length_eq, List.length_map, sizeLine_eq]; omega
  have hn : H p = none := I.hok.fresh hp
  have J : Inv X pins σ (upd H p (.lst (ys.map V.str))) { s with heap := s'.heap, gens := s'.gens, drawn := s'.drawn, toks := s'.toks } :=
    I.call (ch := []) (Un.laid k hp hn) (I.hok.laid k hp ⟨hlen, out.toList, c, vals_of_strs hi, hg⟩) (by rw [g]; exact I.bare) (fun _ z => nomatch z)
  have e : s' = { s with heap := s'.heap, gens := s'.gens, drawn := s'.drawn, toks := s'.toks } := by
    cases s'
    cases s
    cases o
    rfl
  rw [e]
  exact ⟨.ref p, _, J, rfl, q ys p hm hs hn⟩
end
end Mo

namespace Mo
open PySem PySem.Spec PyProof.Rows L2
/-! enumerate(v), v a list or a tuple -/
theorem enum_made {v : Value} {o : Obj} {Hd : Heap → Prop} (B : Begins v o Hd) :
    Meets (Builtin.«enumerate.__new__» ⟨[.type "enumerate", v], []⟩) (fun _ R s => Hd s.heap ∧
      R (.ok (.ret (.ref (s.heap.push o).objs.size))) { s with heap := (s.heap.push o).push { cls := .type "enumerate", data := .fields #[.none, .bool false, .ref s.heap.objs.size, rawInt 0, .none, .none] } }) :=
  .of_wp fun prog w A R s hh => by
    obtain ⟨hp, g, dd, tk, os⟩ := s
    obtain ⟨b0, b1⟩ := hh
    have hsub := sub_enumerate
    have it1 : ∀ {A' : Around} {F : Value → Shared → Prop} {Q : Value → Shared → Prop}, Q (.ref hp.objs.size) ⟨hp.push o, g, dd, tk, os⟩ → wpAny (model prog w) A' (pyIter v) Q F ⟨hp, g, dd, tk, os⟩ := fun z => B.iter prog w _ _ ⟨hp, g, dd, tk, os⟩ _ b0 z
    wp_walk using it1
    refine wpAny_stack_any fun st => wpAny_pure ?_
    split
    · rename_i cc _ _ _ _ _
      by_cases ec : (cc == Value.type "enumerate") = true
      · rw [ec]
        wp_walk using it1
        exact ⟨_, rfl, b1⟩
      · rw [Bool.eq_false_iff.mpr ec]
        wp_walk using it1
        exact ⟨_, rfl, b1⟩
    · wp_walk using it1
      exact ⟨_, rfl, b1⟩
theorem enum_call {prog : Program} {w : World} {A : Around} {E : Value → Shared → Prop} {s : Shared} {v : Value} {o : Obj} {Hd : Heap → Prop} {Q : Value → Shared → Prop} (B : Begins v o Hd) (b0 : Hd s.heap)
    (q : ∀ h', IsEnum h' (s.heap.objs.size + 1) s.heap.objs.size 0 .none → h'.get? s.heap.objs.size = some o → (∀ b ob, s.heap.get? b = some ob → h'.get? b = some ob) → Q (.ref (s.heap.objs.size + 1)) { s with heap := h' }) :
    wpAny (model prog w) A (call (.type "enumerate") [v]) Q E s := by
  refine callType_new F.called_enumerate (by decide) (F.typeCall_enumerate_1 _) (F.newCall_enumerate_1 _) (fun ob => F.args_object_init_2 ob _) F.entry_enumerate_new (enum_made B) ⟨b0, ?_⟩
  have n1 : (s.heap.push o).objs.size = s.heap.objs.size + 1 := Heap.size_push ..
  have g1 := Heap.get?_push_size (s.heap.push o) (o := { cls := .type "enumerate", data := .fields #[.none, .bool false, .ref s.heap.objs.size, rawInt 0, .none, .none] }) rfl
  rw [n1] at g1
  show _ ∧ _
  rw [n1]
  exact ⟨⟨_, g1, rfl⟩, q _ g1 (Heap.get?_push_of_some _ (Heap.get?_push_size _ B.free)) fun b ob z => Heap.get?_push_of_some _ (Heap.get?_push_of_some _ z)⟩
def ItE (K : PySem.W.Frag) (a : Addr) (xs : List V) : It := ⟨fun i H => SqT K H a xs ∧ i < xs.length, fun i H v H' => ∃ T x, v = .ref T ∧ H T = none ∧ xs[i]? = some x ∧ H' = upd H T (.tup [.int (i : Nat), x]), fun i H => SqT K H a xs ∧ xs.length ≤ i⟩
theorem turn_enumT {P : Program} {w : World} {K : PySem.W.Frag} {elts : List Expr} {kk : Nat} {tpos : Pos} {xs : List V} {a e it : Addr} (n1 : e ≠ it) (n2 : a ≠ it) (n3 : e ≠ a) :
    Turn P w K (.Tuple elts kk tpos) (ItE K a xs) [e, it] e (fun i h => ((∃ old, IsEnum h e it ((i : Nat) : Int) old) ∧ h.IsTupleIter it a i) ∧ i ≤ xs.length) where
  mem := List.mem_cons_self ..
  obj := fun i h st b hb => by
    obtain ⟨⟨⟨old, he⟩, o, ho, hc, hd⟩, _⟩ := st
    rcases List.mem_cons.mp hb with rfl | hb
    · exact ⟨_, he, fun v q => nomatch q⟩
    · rw [List.mem_singleton.mp hb]
      exact ⟨o, ho, fun v q => by rw [hd] at q; cases q⟩
  keep := fun i h h' st k => by
    obtain ⟨⟨⟨old, he⟩, hi⟩, hle⟩ := st
    exact ⟨⟨⟨old, k e (List.mem_cons_self ..) _ he⟩, hi.at fun o q => k it (List.mem_cons_of_mem _ (List.mem_singleton.mpr rfl)) o q⟩, hle⟩
  item := by
    intro X hP hw hK hc i pins s σ H E I hf st hg
    subst hP hw hK
    obtain ⟨⟨⟨old, he⟩, hit⟩, hle⟩ := st
    obtain ⟨hq, hi⟩ := hg
    obtain ⟨its, rv, pt, _⟩ := I.tuple hq
    have pt : s.heap.IsTuple a its.toArray := pt
    have hsz : i < its.toArray.size := by rw [List.size_toArray, ← rv.length]; exact hi
    have le : e < s.heap.objs.size := Heap.lt_size he
    have li : it < s.heap.objs.size := by
      obtain ⟨_, z, _⟩ := hit
      exact Heap.lt_size z
    have nh : X.A.in1.handled = none := by simpa using I.ok.hd hc
    have nf : e ∉ [it, a] := fun z => by
      rcases List.mem_cons.mp z with z | z
      · exact n1 z
      · exact n3 (List.mem_singleton.mp z)
    refine wpAny_pyNext_enum_itemD (Draws.tuple nh it a n2 its.toArray) he ⟨hit, pt⟩ hsz n1 nf fun u h1 tk hu ho st1 hT _ hk => ?_
    obtain ⟨x, hx⟩ : ∃ x, xs[i]? = some x := ⟨xs[i], List.getElem?_eq_getElem hi⟩
    obtain ⟨u', hu', ru⟩ := rv.get hx
    have eu : u = u' := by
      have z : its.toArray[i]? = some u' := by simpa using hu'
      rw [hu] at z
      exact Option.some.inj z
    subst eu
    refine ⟨_, rfl, wpAny_letOwnedTupleGo_enum (s := { s with heap := h1, toks := tk + 1 }) ho fun h2 he2 sb => ?_⟩
    have hT2 := (sb.2 _ (Nat.ne_of_gt le)).trans hT
    have I1 : Inv X pins σ (upd H s.heap.objs.size (.tup [.int (i : Nat), x])) { s with heap := h2, toks := tk + 1 } := by
      refine I.turnedNew (ch := [e, it]) (fun b ob hb z => ?_) hf (Nat.le_refl _) ⟨by show 2 ≤ sizeLine; decide, [.int i tk, u], .cons ⟨_, rfl⟩ (.cons ru .nil), ⟨_, hT2, rfl, _, rfl⟩⟩
      have nb1 : b ≠ e := fun z => hb (by rw [z]; exact List.mem_cons_self ..)
      have nb2 : b ≠ it := fun z => hb (by rw [z]; exact List.mem_cons_of_mem _ (List.mem_singleton.mpr rfl))
      exact (sb.2 b nb1).trans (hk b ob nb1 nb2 z)
    refine ⟨.ref s.heap.objs.size, _, I1, rfl, ⟨_, x, rfl, I.hok.fresh (Nat.le_refl _), hx, rfl⟩, ⟨⟨⟨u, ?_⟩, st1.1.at fun o z => (sb.2 it (Ne.symm n1)).trans z⟩, hi⟩, fun b hb => ?_⟩
    · have e1 : ((i + 1 : Nat) : Int) = (i : Int) + 1 := Int.natCast_succ i
      rw [e1]
      exact he2
    · have lb : b < s.heap.objs.size := by
        rcases List.mem_cons.mp hb with rfl | hb
        · exact le
        · rw [List.mem_singleton.mp hb]
          exact li
      rw [upd_ne (Nat.ne_of_lt lb)]
      exact (hf b hb).1
  done := by
    intro X hP hw hK hc i pins s σ H E I hf st hg
    subst hP hw hK
    obtain ⟨⟨⟨old, he⟩, hit⟩, hle⟩ := st
    obtain ⟨hq, hge⟩ := hg
    obtain ⟨its, rv, pt, _⟩ := I.tuple hq
    have pt : s.heap.IsTuple a its.toArray := pt
    have ei : its.toArray.size = i := by
      rw [List.size_toArray, ← rv.length]
      omega
    obtain ⟨f0, f1, f2, f3, f4, f5⟩ := hf it (List.mem_cons_of_mem _ (List.mem_singleton.mpr rfl))
    have nh : X.A.in1.handled = none := by simpa using I.ok.hd hc
    exact wpAny_pyNext_enum_endD (Draws.tuple nh it a n2 its.toArray) he ⟨by rw [ei]; exact hit, pt⟩ fun h' eb => ⟨rfl, I.turned (t' := s.toks) (fun b o hb z => eb b o hb z) f0 f1 f3 f4 f5⟩
  self := fun A i s Q E st h => by
    obtain ⟨⟨⟨_, he⟩, _⟩, _⟩ := st
    exact wpAny_pyIter_enum he h
/-- enumerate of a list or of a tuple -/
def enJ (K : PySem.W.Frag) (a : Addr) (xs : List V) : Bool → It
  | true => ItE K a xs
  | false => Ite K a
def enO (xs : List V) : Bool → HO
  | true => .tup xs
  | false => .lst xs
def iEnumB (K : PySem.W.Frag) (ta : TA) : TI := fun σ H R => ta σ H fun vs H1 => ∃ (a : Addr) (xs : List V) (b : Bool), vs = [.ref a] ∧ H1 a = some (enO xs b) ∧ R (enJ K a xs b) H1
section
variable {X : Cx}
theorem pi_enumB {e : Expr} {ta : TA} {p pos tpos : Pos} {elts : List Expr} {kk : Nat} (hg : Gl X "enumerate") (hm : X.mg "enumerate" = none) (ha : PA X [e] ta) (hs : starEach [e] X.env = [(false, eval e X.env)] := by rfl) :
    PI X (.Tuple elts kk tpos) (.Call (.Name "enumerate" p) [e] [] pos) (iEnumB X.K ta) := by
  refine ⟨fun pins s σ H R I h => ?_⟩
  refine Call_ (ld_blt I hg hm boot_enumerate (PyProof.Rows.callWith_type1 (thn (ha.run pos pins s σ H _ I h) fun us s1 ⟨vs, H1, I1, r1, q1⟩ => ?_) hs rfl))
  obtain ⟨a, xs, b, rfl, hb, q⟩ := q1
  obtain ⟨u, rfl, ru⟩ := vals1 r1
  cases (show u = Value.ref a from ru)
  have far : ∀ b ∈ [s1.heap.objs.size + 1, s1.heap.objs.size], s1.heap.objs.size ≤ b := fun b hb => by
    rcases List.mem_cons.mp hb with rfl | hb
    · exact Nat.le_succ _
    · exact Nat.le_of_eq (List.mem_singleton.mp hb).symm
  cases b with
  | false =>
    obtain ⟨its, rv, pl, _⟩ := I1.list (SqL.of hb)
    exact enum_call (begins_list a its.toArray) pl.isList fun h' he hi hk => wpAny_pyIter_enum he
      ⟨s1.heap.objs.size + 1, _, _, _, H1, rfl, I1.kept (t' := s1.toks) hk, turn_enum a (s1.heap.objs.size + 1) s1.heap.objs.size, ⟨⟨.none, he⟩, ⟨_, hi, rfl, rfl⟩, Nat.succ_ne_self _⟩, fun b hb => I1.fpOk (far b hb) (I1.hok.fresh (far b hb)), q⟩
  | true =>
    obtain ⟨its, rv, pt, _⟩ := I1.tuple (SqT.of hb)
    have pt : s1.heap.IsTuple a its.toArray := pt
    have la : a < s1.heap.objs.size := by
      obtain ⟨_, z, _⟩ := pt
      exact Heap.lt_size z
    exact enum_call (begins_tuple a its.toArray) pt fun h' he hi hk => wpAny_pyIter_enum he
      ⟨s1.heap.objs.size + 1, _, _, _, H1, rfl, I1.kept (t' := s1.toks) hk, turn_enumT (a := a) (e := s1.heap.objs.size + 1) (it := s1.heap.objs.size) (Nat.succ_ne_self _) (Nat.ne_of_lt la) (Nat.ne_of_gt (Nat.lt_succ_of_lt la)), ⟨⟨⟨.none, he⟩, ⟨_, hi, rfl, rfl⟩⟩, Nat.zero_le _⟩, fun b hb => I1.fpOk (far b hb) (I1.hok.fresh (far b hb)), q⟩
end
/-- one walk for both -/
theorem walk_enB {K : PySem.W.Frag} {a : Addr} {xs : List V} {b : Bool} : Walk (enJ K a xs b) xs.length (fun H' => H' a = some (enO xs b)) (YPair (fun i => some (.int (i : Nat))) (fun i => xs[i]?)) := by
  cases b with
  | false => exact walk_enum.mono (fun H' h' => SqL.of h') fun _ _ _ _ _ _ y => y
  | true => exact ⟨fun i H' hi h' => ⟨SqT.of h', hi⟩, fun H' h' => ⟨SqT.of h', Nat.le_refl _⟩, fun i H' v H2 hi h' y => by
      obtain ⟨T, x, h1, h2, h3, h4⟩ := y
      exact ⟨T, _, x, h1, h2, h4, rfl, h3⟩⟩
end Mo
namespace Mo
open PySem PySem.Spec PyProof.Rows L2
theorem pi_listK {X : Cx} {K : PySem.W.Frag} {tg l : Expr} {tl : TE} (h : X.K = K) (hl : PE X l tl) : PI X tg l (iList K tl) := by
  subst h
  exact pi_list hl
end Mo

/-! ### zip of a tuple with a list; walks of a list or of a tuple -/
namespace Mo
open PySem PySem.Spec PyProof.Rows L2
def ItM (K : PySem.W.Frag) (a b : Addr) (xs ys : List V) : It := ⟨fun i H => (SqT K H a xs ∧ SqL K H b ys) ∧ i < xs.length ∧ i < ys.length, fun i H v H' => ∃ T x y, v = .ref T ∧ H T = none ∧ xs[i]? = some x ∧ ys[i]? = some y ∧ H' = upd H T (.tup [x, y]),
  fun i H => (SqT K H a xs ∧ SqL K H b ys) ∧ (xs.length ≤ i ∨ ys.length ≤ i)⟩
/-- the cells lie apart -/
structure Far (z TI TO i1 i2 a b : Addr) : Prop where
  nd : [z, TI, TO, i1, i2].Nodup
  na : a ∉ [z, TI, TO, i1, i2]
  nb : b ∉ [z, TI, TO, i1, i2]
theorem Far.sep {z TI TO i1 i2 a b : Addr} (f : Far z TI TO i1 i2 a b) : ZipSep2 z TI TO i1 i2 [i1, a] [i2, b] := by
  obtain ⟨nd, na, nb⟩ := f
  simp only [List.nodup_cons, List.mem_cons, List.not_mem_nil, or_false, not_or] at nd na nb
  obtain ⟨⟨z1, z2, z3, z4⟩, ⟨t1, t2, t3⟩, ⟨o1, o2⟩, j, _⟩ := nd
  obtain ⟨a1, a2, a3, a4, a5⟩ := na
  obtain ⟨b1, b2, b3, b4, b5⟩ := nb
  exact ⟨Ne.symm z1, Ne.symm z2, t1, t2, by simp, by simp only [List.mem_cons, List.not_mem_nil, or_false, not_or]; exact ⟨z3, Ne.symm a1⟩, by simp only [List.mem_cons, List.not_mem_nil, or_false, not_or]; exact ⟨o1, Ne.symm a3⟩, t3, by simp,
    by simp only [List.mem_cons, List.not_mem_nil, or_false, not_or]; exact ⟨z4, Ne.symm b1⟩, by simp only [List.mem_cons, List.not_mem_nil, or_false, not_or]; exact ⟨o2, Ne.symm b3⟩,
    by simp only [List.mem_cons, List.not_mem_nil, or_false, not_or]; exact ⟨j, Ne.symm b4⟩, by simp only [List.mem_cons, List.not_mem_nil, or_false, not_or]; exact ⟨Ne.symm j, Ne.symm a5⟩⟩
theorem turn_zipM {P : Program} {w : World} {K : PySem.W.Frag} {elts : List Expr} {kk : Nat} {tpos : Pos} {xs ys : List V} {a b z TI TO i1 i2 : Addr} (f : Far z TI TO i1 i2 a b) :
    Turn P w K (.Tuple elts kk tpos) (ItM K a b xs ys) [z, TI, TO, i1, i2] z (fun i h => (IsZip h z TI TO .none ∧ IsTupOf2 h TI (.ref i1) (.ref i2) ∧ (∃ x y, IsTupOf2 h TO x y) ∧ h.IsTupleIter i1 a i ∧ h.IsListIter i2 b i) ∧ i ≤ xs.length ∧ i ≤ ys.length) where
  mem := List.mem_cons_self ..
  obj := fun i h st c hc => by
    obtain ⟨⟨hz, hTI, ⟨x, y, hTO⟩, ⟨o1, e1, _, d1⟩, ⟨o2, e2, _, d2⟩⟩, _⟩ := st
    simp only [List.mem_cons, List.not_mem_nil, or_false] at hc
    rcases hc with q | q | q | q | q <;> rw [q]
    · exact ⟨_, hz, fun v q => nomatch q⟩
    · exact ⟨_, hTI, fun v q => nomatch q⟩
    · exact ⟨_, hTO, fun v q => nomatch q⟩
    · exact ⟨o1, e1, fun v q => by rw [d1] at q; cases q⟩
    · exact ⟨o2, e2, fun v q => by rw [d2] at q; cases q⟩
  keep := fun i h h' st k => by
    obtain ⟨⟨hz, hTI, ⟨x, y, hTO⟩, h1, h2⟩, hle⟩ := st
    exact ⟨⟨k z (by simp) _ hz, k TI (by simp) _ hTI, ⟨x, y, k TO (by simp) _ hTO⟩, h1.at fun o q => k i1 (by simp) o q, h2.at fun o q => k i2 (by simp) o q⟩, hle⟩
  item := by
    intro X hP hw hK hc i pins s σ H E I hf st hg
    subst hP hw hK
    obtain ⟨⟨hz, hTI, ⟨x0, y0, hTO⟩, h1, h2⟩, _⟩ := st
    obtain ⟨⟨hqx, hqy⟩, ix, iy⟩ := hg
    obtain ⟨its, rv, p, _⟩ := I.tuple hqx
    obtain ⟨its2, rv2, p2, _⟩ := I.list hqy
    have p : s.heap.IsTuple a its.toArray := p
    have s1 : i < its.toArray.size := by rw [List.size_toArray, ← rv.length]; exact ix
    have s2 : i < its2.toArray.size := by rw [List.size_toArray, ← rv2.length]; exact iy
    have hzl : z < s.heap.objs.size := Heap.lt_size hz
    have nh : X.A.in1.handled = none := by simpa using I.ok.hd hc
    have S := f.sep
    have na := f.na
    have nb := f.nb
    simp only [List.mem_cons, List.not_mem_nil, or_false, not_or] at na nb
    refine wpAny_pyNext_zipD2_item S (Draws.tuple nh i1 a na.2.2.2.1 its.toArray) (Draws.list nh i2 b nb.2.2.2.2 its2.toArray) hz hTI hTO ⟨h1, p⟩ ⟨h2, p2.isList⟩ s1 s2 fun u u2 h' tk g1 g2 z' TO' st1 st2 hT hsz hk => ?_
    refine ⟨_, rfl, wpAny_letOwnedTupleGo_zip (s := { s with heap := h', toks := tk }) z' fun h'' z'' sb => ?_⟩
    have hT2 : h''.get? s.heap.objs.size = some { cls := .type "tuple", data := .seq #[u, u2] } := (sb.2 _ (Nat.ne_of_gt hzl)).trans hT
    obtain ⟨x, hx⟩ : ∃ x, xs[i]? = some x := ⟨xs[i], List.getElem?_eq_getElem ix⟩
    obtain ⟨y, hy⟩ : ∃ y, ys[i]? = some y := ⟨ys[i], List.getElem?_eq_getElem iy⟩
    obtain ⟨v1, hv1, r1⟩ := rv.get hx
    obtain ⟨v2, hv2, r2⟩ := rv2.get hy
    have e1 : u = v1 := by
      have q : its.toArray[i]? = some v1 := by simpa using hv1
      rw [g1] at q
      exact Option.some.inj q
    have e2 : u2 = v2 := by
      have q : its2.toArray[i]? = some v2 := by simpa using hv2
      rw [g2] at q
      exact Option.some.inj q
    subst e1
    subst e2
    have I1 : Inv X pins σ (upd H s.heap.objs.size (.tup [x, y])) { s with heap := h'', toks := tk } := by
      refine I.turnedNew (ch := [z, TI, TO, i1, i2]) (fun c o hb q => ?_) hf (Nat.le_refl _) ⟨by show 2 ≤ sizeLine; decide, [u, u2], .cons r1 (.cons r2 .nil), ⟨_, hT2, rfl, _, rfl⟩⟩
      simp only [List.mem_cons, List.not_mem_nil, or_false, not_or] at hb
      exact (sb.2 c hb.1).trans (hk c o hb.1 hb.2.2.1 hb.2.2.2.1 hb.2.2.2.2 q)
    refine ⟨.ref s.heap.objs.size, _, I1, rfl, ⟨_, x, y, rfl, I.hok.fresh (Nat.le_refl _), hx, hy, rfl⟩, ⟨⟨z'', ?_, ⟨u, u2, ?_⟩, ?_, ?_⟩, ix, iy⟩, fun c hcm => ?_⟩
    · refine (sb.2 _ S.TIz).trans (hk _ _ S.TIz S.TITO S.TIi1 S.TIi2 hTI)
    · exact (sb.2 _ S.TOz).trans TO'
    · exact st1.1.at fun o q => (sb.2 _ (Ne.symm S.zi1)).trans q
    · exact st2.1.at fun o q => (sb.2 _ (Ne.symm S.zi2)).trans q
    · have hlt : c < s.heap.objs.size := by
        simp only [List.mem_cons, List.not_mem_nil, or_false] at hcm
        rcases hcm with q | q | q | q | q <;> rw [q]
        · exact hzl
        · exact Heap.lt_size hTI
        · exact Heap.lt_size hTO
        · obtain ⟨_, e1, _⟩ := h1
          exact Heap.lt_size e1
        · obtain ⟨_, e2, _⟩ := h2
          exact Heap.lt_size e2
      rw [upd_ne (Nat.ne_of_lt hlt)]
      exact (hf c hcm).1
  done := by
    intro X hP hw hK hc i pins s σ H E I hf st hg
    subst hP hw hK
    obtain ⟨⟨hz, hTI, ⟨x0, y0, hTO⟩, h1, h2⟩, le1, le2⟩ := st
    obtain ⟨⟨hqx, hqy⟩, hend⟩ := hg
    obtain ⟨its, rv, p, _⟩ := I.tuple hqx
    obtain ⟨its2, rv2, p2, _⟩ := I.list hqy
    have p : s.heap.IsTuple a its.toArray := p
    have l1 : its.toArray.size = xs.length := by rw [List.size_toArray, ← rv.length]
    have l2 : its2.toArray.size = ys.length := by rw [List.size_toArray, ← rv2.length]
    have nh : X.A.in1.handled = none := by simpa using I.ok.hd hc
    have na := f.na
    have nb := f.nb
    simp only [List.mem_cons, List.not_mem_nil, or_false, not_or] at na nb
    refine wpAny_pyNext_zipD2_end f.sep (Draws.tuple nh i1 a na.2.2.2.1 its.toArray) (Draws.list nh i2 b nb.2.2.2.2 its2.toArray) hz hTI hTO ⟨h1, p⟩ ⟨h2, p2.isList⟩ (by omega) (by omega) (by omega) fun h' tk hk => ⟨rfl, I.turnedL (t' := tk) (ch := [z, TI, TO, i1, i2]) (fun c o hb q => ?_) hf⟩
    simp only [List.mem_cons, List.not_mem_nil, or_false, not_or] at hb
    exact hk c o hb.1 hb.2.2.1 hb.2.2.2.1 hb.2.2.2.2 q
  self := fun A i s Q E st h => wpAny_pyIter_zip st.1.1 h
/-- zip of a list or of a tuple with a list -/
def zbJ (K : PySem.W.Frag) (a b : Addr) (xs ys : List V) : Bool → It
  | true => ItM K a b xs ys
  | false => Itz K a b
def iZipB (K : PySem.W.Frag) (ta : TA) : TI := fun σ H R => ta σ H fun vs H1 => ∃ (a b : Addr) (xs ys : List V) (f : Bool), vs = [.ref a, .ref b] ∧ H1 a = some (enO xs f) ∧ H1 b = some (.lst ys) ∧ R (zbJ K a b xs ys f) H1
/-- a list or a tuple, walked -/
def sqJ (K : PySem.W.Frag) (a : Addr) : Bool → It
  | true => Itt K a
  | false => Itl K a
def iSeqB (K : PySem.W.Frag) (tl : TE) : TI := fun σ H R => tl σ H fun x H1 => ∃ (a : Addr) (xs : List V) (f : Bool), x = .ref a ∧ H1 a = some (enO xs f) ∧ R (sqJ K a f) H1
section
variable {X : Cx} {K : PySem.W.Frag}
theorem pi_zipB {e e2 : Expr} {ta : TA} {p pos tpos : Pos} {elts : List Expr} {kk : Nat} (hK : X.K = K) (hg : Gl X "zip") (hm : X.mg "zip" = none) (ha : PA X [e, e2] ta)
    (hs : starEach [e, e2] X.env = (false, eval e X.env) :: starEach [e2] X.env := by rfl) (hpl : (backTo pos (starEach [e2] X.env)).any (·.1) = false := by rfl) :
    PI X (.Tuple elts kk tpos) (.Call (.Name "zip" p) [e, e2] [] pos) (iZipB K ta) := by
  subst hK
  refine ⟨fun pins s σ H R I h => ?_⟩
  refine Call_ (ld_blt I hg hm PyProof.Rows.boot_zip (PyProof.Rows.callWith_type1 (thn (ha.run pos pins s σ H _ I h) fun us s1 ⟨vs, H1, I1, r1, q1⟩ => ?_) hs hpl))
  obtain ⟨a, b, xs, ys, f, ex, h1, h2, q⟩ := q1
  subst ex
  cases r1 with
  | cons r rr =>
    cases rr with
    | cons r' rr =>
      cases rr
      cases r
      cases r'
      have far : ∀ c ∈ [s1.heap.objs.size + 4, s1.heap.objs.size + 2, s1.heap.objs.size + 3, s1.heap.objs.size, s1.heap.objs.size + 1], s1.heap.objs.size ≤ c := fun c hc => by
        simp only [List.mem_cons, List.not_mem_nil, or_false] at hc
        rcases hc with q | q | q | q | q <;> rw [q]
        · exact Nat.le_add_right _ _
        · exact Nat.le_add_right _ _
        · exact Nat.le_add_right _ _
        · exact Nat.le_refl _
        · exact Nat.le_add_right _ _
      have old : ∀ {c : Addr} {o : Obj}, s1.heap.get? c = some o → c ∉ [s1.heap.objs.size + 4, s1.heap.objs.size + 2, s1.heap.objs.size + 3, s1.heap.objs.size, s1.heap.objs.size + 1] := fun ho hc => absurd (Heap.lt_size ho) (Nat.not_lt.mpr (far _ hc))
      obtain ⟨its2, rv2, p2, _⟩ := I1.list (SqL.of h2)
      obtain ⟨o2, ho2, _⟩ := id p2.isList
      cases f with
      | false =>
        obtain ⟨its, rv, p1, _⟩ := I1.list (SqL.of h1)
        refine call_zip_2 p1.isList p2.isList fun h' hz hTI hTO g1 g2 hsz hk => wpAny_pyIter_zip hz ?_
        exact ⟨s1.heap.objs.size + 4, _, _, _, H1, rfl, I1.kept (t' := s1.toks) hk, turn_zip (PySem.W.ktu_apart s1.heap.objs.size a b p1.lt p2.lt), ⟨hz, hTI, ⟨_, _, hTO⟩, g1, g2⟩, fun c hc => I1.fpOk (far c hc) (I1.hok.fresh (far c hc)), q⟩
      | true =>
        obtain ⟨its, rv, pt, _⟩ := I1.tuple (SqT.of h1)
        have pt : s1.heap.IsTuple a its.toArray := pt
        obtain ⟨o1, ho1, _⟩ := id pt
        refine zip_begins2 (begins_tuple a its.toArray) (begins_list b its2.toArray) pt p2.isList fun h' hz hTI hTO g1 g2 hsz hk => wpAny_pyIter_zip hz ?_
        exact ⟨s1.heap.objs.size + 4, _, _, _, H1, rfl, I1.kept (t' := s1.toks) hk, turn_zipM (xs := xs) (ys := ys) ⟨by simp, old ho1, old ho2⟩, ⟨⟨hz, hTI, ⟨_, _, hTO⟩, ⟨_, g1, rfl, rfl⟩, ⟨_, g2, rfl, rfl⟩⟩, Nat.zero_le _, Nat.zero_le _⟩, fun c hc => I1.fpOk (far c hc) (I1.hok.fresh (far c hc)), q⟩
theorem walk_zipB {a b : Addr} {xs ys : List V} {f : Bool} {n : Nat} (hn : n = min xs.length ys.length) : Walk (zbJ K a b xs ys f) n (fun H' => H' a = some (enO xs f) ∧ H' b = some (.lst ys)) (YPair (fun i => xs[i]?) (fun i => ys[i]?)) := by
  cases f with
  | false => exact (walk_zip hn).mono (fun H' h' => ⟨SqL.of h'.1, SqL.of h'.2⟩) fun _ _ _ _ _ _ y => y
  | true => exact ⟨fun i H' hi h' => ⟨⟨SqT.of h'.1, SqL.of h'.2⟩, by omega, by omega⟩, fun H' h' => ⟨⟨SqT.of h'.1, SqL.of h'.2⟩, by omega⟩, fun i H' v H2 hi h' y => by
      obtain ⟨T, x, z, h1, h2, h3, h4, h5⟩ := y
      exact ⟨T, x, z, h1, h2, h5, h3, h4⟩⟩
theorem pi_seqB {tg l : Expr} {tl : TE} (hK : X.K = K) (hl : PE X l tl) : PI X tg l (iSeqB K tl) := by
  subst hK
  refine ⟨fun pins s σ H R I h => ?_⟩
  refine thn (hl.run pins s σ H _ I h) fun v s1 ⟨x, H1, I1, r1, q1⟩ => ?_
  obtain ⟨a, xs, f, e, ha, q⟩ := q1
  subst e
  cases r1
  have one : ∀ b ∈ [s1.heap.objs.size], FpOk X pins H1 b := fun b hb => by
    rw [List.mem_singleton.mp hb]
    exact I1.fpOk (Nat.le_refl _) (I1.hok.fresh (Nat.le_refl _))
  cases f with
  | false =>
    obtain ⟨its, rv, p, _⟩ := I1.list (SqL.of ha)
    exact wpAny_pyIter_list p.isList ⟨s1.heap.objs.size, _, _, _, H1, rfl, I1.kept (t' := s1.toks) fun b o e => Heap.get?_push_of_some _ e, turn_list a _, ⟨_, Heap.get?_push_size _ rfl, rfl, rfl⟩, one, q⟩
  | true =>
    obtain ⟨its, rv, p, _⟩ := I1.tuple (SqT.of ha)
    exact wpAny_pyIter_tuple (show s1.heap.IsTuple a its.toArray from p) ⟨s1.heap.objs.size, _, _, _, H1, rfl, I1.kept (t' := s1.toks) fun b o e => Heap.get?_push_of_some _ e, turn_tuple a _, ⟨_, Heap.get?_push_size _ rfl, rfl, rfl⟩, one, q⟩
theorem walk_sqB {a : Addr} {xs : List V} {f : Bool} : Walk (sqJ K a f) xs.length (fun H' => H' a = some (enO xs f)) (YAt xs) := by
  cases f with
  | false => exact walk_list.mono (fun H' h' => SqL.of h') fun _ _ _ _ _ _ y => y
  | true => exact walk_tup.mono (fun H' h' => SqT.of h') fun _ _ _ _ _ _ y => y
/-- a list or a tuple, as the rules that take both ask for it -/
theorem sqB {H : Hp} {a : Addr} {xs : List V} {f : Bool} (h : H a = some (enO xs f)) : SqL K H a xs ∨ SqT K H a xs := by
  cases f with
  | false => exact .inl (SqL.of h)
  | true => exact .inr (SqT.of h)
end
end Mo

namespace Mo
open PySem PySem.Spec PyProof.Rows L2
/-! ### letters -/
def lett : List Nat := [97, 98, 99, 100, 101, 102, 103, 104, 105, 106, 107, 108, 109, 110, 111, 112, 113, 114, 115, 116, 117, 118, 119, 120, 121, 122]
theorem lett_text : (Str.ofString "abcdefghijklmnopqrstuvwxyz").cps.toList = lett := by decide +kernel
theorem lett_tx : Str.ofString "abcdefghijklmnopqrstuvwxyz" = tx lett := by decide +kernel
theorem lett_asc : lett.Pairwise (· < ·) := by decide
theorem lett_low {c : Nat} (h : c ∈ lett) : 97 ≤ c ∧ c ≤ 122 := (show ∀ c ∈ lett, 97 ≤ c ∧ c ≤ 122 by decide) c h
theorem asc_eq : ∀ a b : List Nat, a.Pairwise (· < ·) → b.Pairwise (· < ·) → (∀ x, x ∈ a ↔ x ∈ b) → a = b
  | [], [], _, _, _ => rfl
  | [], y :: b, _, _, h => absurd ((h y).mpr List.mem_cons_self) (by simp)
  | x :: a, [], _, _, h => absurd ((h x).mp List.mem_cons_self) (by simp)
  | x :: a, y :: b, ha, hb, h => by
    have ha2 := List.pairwise_cons.mp ha
    have hb2 := List.pairwise_cons.mp hb
    have e : x = y := by
      rcases List.mem_cons.mp ((h x).mp List.mem_cons_self) with q | q
      · exact q
      · rcases List.mem_cons.mp ((h y).mpr List.mem_cons_self) with q' | q'
        · exact q'.symm
        · have := hb2.1 x q
          have := ha2.1 y q'
          omega
    subst e
    congr 1
    refine asc_eq a b ha2.2 hb2.2 fun z => ⟨fun hz => ?_, fun hz => ?_⟩
    · rcases List.mem_cons.mp ((h z).mp (List.mem_cons_of_mem _ hz)) with q | q
      · have := ha2.1 z hz
        omega
      · exact q
    · rcases List.mem_cons.mp ((h z).mpr (List.mem_cons_of_mem _ hz)) with q | q
      · have := hb2.1 z hz
        omega
      · exact q
theorem lt_one (x p : Nat) : ltCps [x] [p] = decide (x < p) := by
  by_cases h : x < p
  · simp [ltCps, h]
  · by_cases h2 : x = p
    · simp [ltCps, h2]
    · simp [ltCps, h, h2]
theorem rising_le : ∀ (ls : List Nat) (p : Nat), risingS (⟨#[p]⟩ : Str) (ls.map fun c => (⟨#[c]⟩ : Str)) = true → (p :: ls).Pairwise (· ≤ ·)
  | [], p, _ => by simp
  | x :: ls, p, h => by
    have h2 : (!ltCps [x] [p] && risingS (⟨#[x]⟩ : Str) (ls.map fun c => (⟨#[c]⟩ : Str))) = true := h
    obtain ⟨h3, h4⟩ := Bool.and_eq_true_iff.mp h2
    rw [lt_one] at h3
    have h5 : ¬ x < p := by simpa using h3
    have ih := rising_le ls x h4
    refine List.pairwise_cons.mpr ⟨fun y hy => ?_, ih⟩
    rcases List.mem_cons.mp hy with q | q
    · omega
    · have := (List.pairwise_cons.mp ih).1 y q
      omega
theorem sorted_asc {ls : List Nat} (h : sortedS (ls.map fun c => (⟨#[c]⟩ : Str)) = true) (hn : ls.Nodup) : ls.Pairwise (· < ·) := by
  have h1 : ls.Pairwise (· ≤ ·) := by
    cases ls with
    | nil => exact List.Pairwise.nil
    | cons p r => exact rising_le r p h
  exact List.Pairwise.imp₂ (fun a b h1 h2 => by have : a ≠ b := h2; omega) h1 hn
theorem signs_of : ∀ (ys : List Str), (∀ y ∈ ys, ∃ c : Nat, y = ⟨#[c]⟩) → ∃ ls : List Nat, ys = ls.map fun c => (⟨#[c]⟩ : Str)
  | [], _ => ⟨[], rfl⟩
  | y :: ys, h => by
    obtain ⟨c, rfl⟩ := h y List.mem_cons_self
    obtain ⟨ls, rfl⟩ := signs_of ys fun z hz => h z (List.mem_cons_of_mem _ hz)
    exact ⟨c :: ls, rfl⟩
theorem sign_map_inj {a b : List Nat} (h : (a.map fun c => (⟨#[c]⟩ : Str)).Perm (b.map fun c => (⟨#[c]⟩ : Str))) : a.Perm b := by
  have q := h.map fun y : Str => y.cps.getD 0 0
  rw [List.map_map, List.map_map] at q
  have e : ((fun y : Str => y.cps.getD 0 0) ∘ fun c => (⟨#[c]⟩ : Str)) = id := by
    funext c
    rfl
  rwa [e, List.map_id, List.map_id] at q
theorem nodup_sub_len : ∀ (a b : List Nat), a.Nodup → (∀ x ∈ a, x ∈ b) → a.length ≤ b.length
  | [], b, _, _ => Nat.zero_le _
  | x :: a, b, hn, hs => by
    have hx : x ∈ b := hs x List.mem_cons_self
    have hn2 := List.nodup_cons.mp hn
    have ih := nodup_sub_len a (b.erase x) hn2.2 fun y hy => by
      have ne : y ≠ x := fun e => hn2.1 (e ▸ hy)
      exact (List.mem_erase_of_ne ne).mpr (hs y (List.mem_cons_of_mem _ hy))
    rw [List.length_erase_of_mem hx] at ih
    have := List.length_pos_of_mem hx
    rw [List.length_cons]
    omega
theorem met_sub_len {zs cs : List Nat} (h : ∀ x ∈ zs, x ∈ cs) : (met zs).length ≤ cs.length := nodup_sub_len _ _ (met_nodup zs) fun x hx => h x (mem_met.mp hx)
/-! ### patterns -/
def patL (cs : List Nat) : Bool := decide (cs.length ≤ 40) && (decide ((met cs).length ≤ 8) && cs.all fun c => decide (c ∈ lett))
def patD : PyData → Bool
  | .str z => patL z.cps.toList
  | _ => false
structure OkP (cs : List Nat) : Prop where
  len : cs.length ≤ 40
  few : (met cs).length ≤ 8
  low : ∀ c ∈ cs, c ∈ lett
theorem OkP.pat {cs : List Nat} (h : OkP cs) : patL cs = true := by
  unfold patL
  rw [decide_eq_true h.len, decide_eq_true h.few, Bool.true_and, Bool.true_and, List.all_eq_true]
  exact fun c hc => decide_eq_true (h.low c hc)
theorem OkP.of {cs : List Nat} (h : patL cs = true) : OkP cs := by
  unfold patL at h
  obtain ⟨h1, h2⟩ := Bool.and_eq_true_iff.mp h
  obtain ⟨h2, h3⟩ := Bool.and_eq_true_iff.mp h2
  exact ⟨of_decide_eq_true h1, of_decide_eq_true h2, fun c hc => of_decide_eq_true (List.all_eq_true.mp h3 c hc)⟩
theorem OkP.sub {zs ls : List Nat} (h1 : zs.length ≤ 40) (h2 : ls.length ≤ 8) (hl : ∀ c ∈ ls, c ∈ lett) (h : ∀ c ∈ zs, c ∈ ls) : OkP zs := ⟨h1, Nat.le_trans (met_sub_len h) h2, fun c hc => hl c (h c hc)⟩
theorem signs_map (zs : List Nat) : zs.map sg = (zs.map fun c => (⟨#[c]⟩ : Str)).map V.str := by rw [List.map_map]; rfl
theorem signs_room {zs : List Nat} (h : zs.length ≤ 100000) : ((zs.map fun c => (⟨#[c]⟩ : Str)).map (·.length)).sum + (zs.map fun c => (⟨#[c]⟩ : Str)).length * (Str.ofString "").length ≤ 16777216 := by
  have e : ((zs.map fun c => (⟨#[c]⟩ : Str)).map (·.length)) = zs.map fun _ => 1 := by
    rw [List.map_map]
    rfl
  have e2 : ∀ l : List Nat, (l.map fun _ => 1).sum = l.length := by
    intro l
    induction l with
    | nil => rfl
    | cons x l ih => simp [ih]; omega
  have e3 : (Str.ofString "").length = 0 := by decide
  rw [e, e2, e3]
  omega
def tss (l : List (List Nat)) : List V := l.map fun q => V.str (tx q)
theorem tss_len (l : List (List Nat)) : (tss l).length = l.length := List.length_map ..
theorem tss_strs (l : List (List Nat)) : tss l = (l.map tx).map V.str := by
  unfold tss
  rw [List.map_map]
  rfl
theorem tss_app (a b : List (List Nat)) : tss a ++ tss b = tss (a ++ b) := by
  unfold tss
  rw [List.map_append]
/-! ### texts joined -/
theorem join_texts : ∀ l : List (List Nat), Txt.join (Str.ofString "") (l.map tx) = tx l.flatten := by
  have key : ∀ l : List (List Nat), Str.join (tx []) (l.map tx) = tx l.flatten := by
    intro l
    induction l with
    | nil => rfl
    | cons u r ih =>
      cases r with
      | nil =>
        show tx u = tx (u ++ [])
        rw [List.append_nil]
      | cons v r =>
        show tx u ++ tx [] ++ Str.join (tx []) ((v :: r).map tx) = tx (u :: v :: r).flatten
        rw [ih, tx_app, tx_app, List.append_nil]
        rfl
  intro l
  show Builtin.Str.glued _ _ = _
  rw [StrLaws.glued_eq_join, tx_nil]
  exact key l
theorem texts_sum (l : List (List Nat)) : ((l.map tx).map (·.length)).sum = l.flatten.length := by
  induction l with
  | nil => rfl
  | cons u r ih =>
    rw [List.map_cons, List.map_cons, List.sum_cons, ih, tx_len, List.flatten_cons, List.length_append]
theorem texts_room {l : List (List Nat)} (h : l.flatten.length ≤ 100000) : ((l.map tx).map (·.length)).sum + (l.map tx).length * (Str.ofString "").length ≤ 16777216 := by
  have e3 : (Str.ofString "").length = 0 := by decide
  rw [texts_sum, e3]
  omega
/-! ### formulas -/
structure OkF (f : List (List Nat)) : Prop where
  ne : ∀ u ∈ f, u ≠ []
  ok : ∀ u ∈ f, OkP u
  len : f.length ≤ 20
  few : (met f.flatten).length ≤ 8
theorem OkF.flat {f : List (List Nat)} (h : OkF f) : f.flatten.length ≤ 800 := by
  have key : ∀ l : List (List Nat), (∀ u ∈ l, u.length ≤ 40) → l.flatten.length ≤ 40 * l.length := by
    intro l
    induction l with
    | nil => intro _; exact Nat.le_refl _
    | cons u r ih =>
      intro hu
      have h1 := hu u List.mem_cons_self
      have h2 := ih fun v hv => hu v (List.mem_cons_of_mem _ hv)
      rw [List.flatten_cons, List.length_append, List.length_cons]
      omega
  have := key f fun u hu => (h.ok u hu).len
  have := h.len
  omega
theorem OkF.sub {f : List (List Nat)} {ls : List Nat} (h1 : f.length ≤ 20) (h2 : ∀ u ∈ f, 1 ≤ u.length ∧ u.length ≤ 40) (h3 : ls.length ≤ 8) (hl : ∀ c ∈ ls, c ∈ lett) (h : ∀ u ∈ f, ∀ c ∈ u, c ∈ ls) : OkF f := by
  refine ⟨fun u hu z => ?_, fun u hu => OkP.sub (h2 u hu).2 h3 hl (h u hu), h1, Nat.le_trans (met_sub_len (cs := ls) fun x hx => ?_) h3⟩
  · have := (h2 u hu).1
    rw [z] at this
    exact absurd this (by decide)
  · obtain ⟨u, hu, hc⟩ := List.mem_flatten.mp hx
    exact h u hu x hc
def gapsF (f : List (List Nat)) : Nat := f.length - 1
def freeF (f : List (List Nat)) : List Nat := lett.filter fun c => !decide (c ∈ f.flatten)
def freshF (f : List (List Nat)) : List Nat := (freeF f).take (gapsF f)
theorem free_len (f : List (List Nat)) : (freeF f).length + (met f.flatten).length ≥ 26 := by
  have key : ∀ l : List Nat, (l.filter fun c => !decide (c ∈ f.flatten)).length + (l.filter fun c => decide (c ∈ f.flatten)).length = l.length := by
    intro l
    induction l with
    | nil => rfl
    | cons c r ih =>
      by_cases h : c ∈ f.flatten
      · rw [List.filter_cons_of_neg (by simp [h]), List.filter_cons_of_pos (by simp [h]), List.length_cons, List.length_cons]
        omega
      · rw [List.filter_cons_of_pos (by simp [h]), List.filter_cons_of_neg (by simp [h]), List.length_cons, List.length_cons]
        omega
  have h1 := key lett
  have h2 : (lett.filter fun c => decide (c ∈ f.flatten)).length ≤ (met f.flatten).length := by
    refine nodup_sub_len _ _ ((show lett.Nodup by decide).sublist List.filter_sublist) fun x hx => mem_met.mpr ?_
    exact of_decide_eq_true (List.mem_filter.mp hx).2
  have h3 : lett.length = 26 := rfl
  unfold freeF
  omega
theorem fresh_len {f : List (List Nat)} (h : (met f.flatten).length + gapsF f ≤ 8) : (freshF f).length = gapsF f := by
  have := free_len f
  unfold freshF
  rw [List.length_take]
  omega
/-- what stands behind the k-th fragment -/
def behind (fr : List Nat) (k : Nat) : List Nat := (fr[k]?).toList
/-- what stands ahead of the k-th fragment -/
def ahead (fr : List Nat) (k : Nat) : List Nat := if 0 < k then behind fr (k - 1) else []
def joinT (fr : List Nat) (f : List (List Nat)) (i : Nat) : List Nat := ((List.range i).map fun k => (f[k]?).getD [] ++ behind fr k).flatten
def patT (fr : List Nat) (f : List (List Nat)) (i : Nat) : List Nat := ((List.range i).map fun k => ahead fr k ++ (f[k]?).getD []).flatten
theorem joinT_succ (fr : List Nat) (f : List (List Nat)) (i : Nat) : joinT fr f (i + 1) = joinT fr f i ++ ((f[i]?).getD [] ++ behind fr i) := by
  unfold joinT
  rw [List.range_succ, List.map_append, List.flatten_append]
  simp
theorem patT_succ (fr : List Nat) (f : List (List Nat)) (i : Nat) : patT fr f (i + 1) = patT fr f i ++ (ahead fr i ++ (f[i]?).getD []) := by
  unfold patT
  rw [List.range_succ, List.map_append, List.flatten_append]
  simp
theorem join_pat (fr : List Nat) (f : List (List Nat)) : ∀ i, joinT fr f i = patT fr f i ++ ahead fr i
  | 0 => rfl
  | i + 1 => by
    rw [joinT_succ, patT_succ, join_pat fr f i]
    have e : ahead fr (i + 1) = behind fr i := if_pos (Nat.succ_pos i)
    rw [e, List.append_assoc, List.append_assoc, List.append_assoc]
theorem behind_none {fr : List Nat} {k : Nat} (h : fr.length ≤ k) : behind fr k = [] := by
  unfold behind
  rw [List.getElem?_eq_none h]
  rfl
theorem behind_len {fr : List Nat} {k : Nat} (h : k < fr.length) : (behind fr k).length = 1 := by
  unfold behind
  rw [List.getElem?_eq_getElem h]
  rfl
theorem join_all {fr : List Nat} {f : List (List Nat)} (h : fr.length = gapsF f) : joinT fr f f.length = patT fr f f.length := by
  rw [join_pat]
  unfold ahead gapsF at *
  split
  · rw [behind_none (by omega), List.append_nil]
  · rw [List.append_nil]
theorem flat_take {f : List (List Nat)} {i : Nat} (h : i < f.length) : (f.take (i + 1)).flatten = (f.take i).flatten ++ (f[i]?).getD [] := by
  rw [List.take_add_one, List.flatten_append, List.getElem?_eq_getElem h]
  simp
theorem pat_len {fr : List Nat} {f : List (List Nat)} (h : fr.length = gapsF f) : ∀ i, i ≤ f.length → (patT fr f i).length = (f.take i).flatten.length + (i - 1)
  | 0, _ => rfl
  | i + 1, hi => by
    rw [patT_succ, List.length_append, List.length_append, pat_len h i (by omega), flat_take (by omega), List.length_append]
    unfold ahead gapsF at *
    by_cases e : 0 < i
    · rw [if_pos e, behind_len (by omega)]
      omega
    · rw [if_neg e]
      show _ + (0 + _) = _
      omega
theorem pat_len_all {fr : List Nat} {f : List (List Nat)} (h : fr.length = gapsF f) : (patT fr f f.length).length = f.flatten.length + gapsF f := by
  rw [pat_len h _ (Nat.le_refl _), List.take_length]
  rfl
theorem bet_eq (fr : List Nat) : fr.map sg ++ [V.str (Str.ofString "")] = tss ((List.range (fr.length + 1)).map (behind fr)) := by
  rw [List.range_succ, List.map_append, ← tss_app]
  congr 1
  · unfold tss
    rw [List.map_map]
    refine List.ext_getElem (by simp) fun i h1 h2 => ?_
    have hi : i < fr.length := by simpa using h1
    simp only [List.getElem_map, List.getElem_range, Function.comp]
    unfold behind
    rw [List.getElem?_eq_getElem hi]
    rfl
  · rw [List.map_cons, List.map_nil, behind_none (Nat.le_refl _), tx_nil]
    rfl
theorem inV_sg (c : Nat) : ∀ ns : List Nat, inV (sg c) (ns.map sg) = decide (c ∈ ns)
  | [] => by simp [inV]
  | d :: ns => by
    have ih := inV_sg c ns
    have e : inV (sg c) ((d :: ns).map sg) = (((⟨#[d]⟩ : Str) == ⟨#[c]⟩) || inV (sg c) (ns.map sg)) := rfl
    rw [e, ih]
    by_cases h : d = c
    · rw [h]
      simp
    · have n : ((⟨#[d]⟩ : Str) == ⟨#[c]⟩) = false := beq_eq_false_iff_ne.mpr fun z => h (sign_inj z)
      rw [n, Bool.false_or]
      refine decide_eq_decide.mpr ⟨fun z => List.mem_cons_of_mem _ z, fun z => ?_⟩
      rcases List.mem_cons.mp z with q | q
      · exact absurd q.symm h
      · exact q
theorem flat_sg (ns : List Nat) : (ns.map sg).all flatV = true := by
  rw [List.all_eq_true]
  intro x hx
  obtain ⟨c, _, rfl⟩ := List.mem_map.mp hx
  rfl
/-- the answer -/
def resV (f : List (List Nat)) : V := if 8 < (met f.flatten).length + gapsF f then .int 8 else if 40 < f.flatten.length + gapsF f then .int 40 else .str (tx (patT (freshF f) f f.length))
end Mo

namespace Mo
open PySem PySem.Spec PyProof.Rows L2
section
variable {P : Program} {w : World} {K : PySem.W.Frag} {mg : Str → Option Value} {base : Heap}
def spPickA (K : PySem.W.Frag) : Sp := fun vs H Q _ => ∃ (d c : Addr) (t : Nat), Src H d c t ∧ t < 1073741824 ∧
  ((∃ (l : Addr) (xs : List V), vs = [.ref d, .ref l] ∧ SqL K H l xs ∧ l ≠ d ∧ 0 < xs.length ∧ xs.length < 1073741824 ∧ ∀ H' v t', But d H H' → Src H' d c t' → t' ≤ t + 1 → v ∈ xs → Q v H') ∨
  (∃ zs : List Nat, vs = [.ref d, .str (tx zs)] ∧ 0 < zs.length ∧ zs.length ≤ 100 ∧ ∀ H' x t', But d H H' → Src H' d c t' → t' ≤ t + 1 → x ∈ zs → Q (sg x) H'))
theorem ok_pick {k : Nat} (T : Txt K mg) : FnOk P w K mg base CX0 (k + 2) T.aLPick T.dLPick ["_law_pen_here", "_law_options"] (spPickA K) := by
  have GLDraw : FnOk P w K mg base CX0 (k + 1) T.aLDraw T.dLDraw ["_law_pen_here", "_law_count"] spSDraw := ok_draw T
  refine T.fLPick.ok scLPick (fun vs H Q E h => ?_) (fun cdv A outer s H vs Q E hr h => ?_)
  · obtain ⟨d, c, t, _, _, ⟨l, xs, rfl, _⟩ | ⟨zs, rfl, _⟩⟩ := h <;> rfl
  · obtain ⟨d, c, t, src, ht, h⟩ := h
    refine ⟨_, (pss_one (ps_ret (pe_ix (Mo.ixR_or ix_list ix_str) (pv 1) (pe_call GLDraw hr (by rfl) T.gLDraw T.fLDraw.kp T.bLDraw .nil pass0 (pa_cons (pv 0) (pa_cons (pe_callB (Mo.callR_or call_len_seq call_len_str) (by rfl) T.m_len PySem.boot_len (pa_cons (pv 1) pa_nil)) pa_nil))) (fun _ _ => rfl)))), ?_⟩
    rcases h with ⟨l, xs, rfl, hl, nld, h0, h1, q⟩ | ⟨zs, rfl, h0, h1, q⟩
    · refine ⟨_, rfl, _, rfl, _, rfl, .inl ⟨l, xs, rfl, .inl hl, d, c, _, t, rfl, src, by omega, by omega, ht, fun H' k t' but src' ht' k0 k1 => ?_⟩⟩
      obtain ⟨j, rfl⟩ := nat_of k0
      have hj : j < xs.length := by omega
      have hl' : SqL K H' l xs := by
        rcases hl with (e | ⟨o, e⟩) | e
        · exact .inl (.inl (but _ _ nld e))
        · exact .inl (.inr ⟨o, but _ _ nld e⟩)
        · exact .inr e
      exact .inl ⟨l, xs, j, xs[j], rfl, rfl, hl', atI_nat (List.getElem?_eq_getElem hj), q H' _ t' but src' ht' (List.getElem_mem hj)⟩
    · refine ⟨_, rfl, _, rfl, _, rfl, .inr ⟨tx zs, rfl, by rw [tx_len]; exact fits5 (by omega), d, c, _, t, rfl, src, by rw [tx_len]; omega, by rw [tx_len]; omega, ht, fun H' k t' but src' ht' k0 k1 => ?_⟩⟩
      rw [tx_len] at k1
      obtain ⟨j, rfl⟩ := nat_of k0
      have hj : j < zs.length := by omega
      exact .inr ⟨tx zs, j, zs[j], rfl, rfl, by rw [tx_len]; exact fits5 (by omega), atI_nat (List.getElem?_eq_getElem hj), q H' _ t' but src' ht' (List.getElem_mem hj)⟩
end
end Mo

namespace Mo
open PySem PySem.Spec PyProof.Rows L2
section
variable {P : Program} {w : World} {K : PySem.W.Frag} {mg : Str → Option Value} {base : Heap}
/-- letters: n of them -/
def spLets : Sp := fun vs H Q _ => ∃ (d c : Addr) (n t : Nat), vs = [.ref d, .int (n : Nat)] ∧ Src H d c t ∧ n ≤ 26 ∧ t < 1000000000 ∧
  ∀ H' ls t', But d H H' → Src H' d c t' → t' ≤ t + 2 → ls.length = n → (∀ x ∈ ls, x ∈ lett) → Q (.str (tx ls)) H'
theorem ok_lets {k : Nat} (T : Txt K mg) : FnOk P w K mg base CX0 (k + 3) T.aLDrawnLetters T.dLDrawnLetters ["_law_pen_here", "_law_count"] spLets := by
  have GLDraw : FnOk P w K mg base CX0 (k + 2) T.aLDraw T.dLDraw ["_law_pen_here", "_law_count"] spSDraw := ok_draw T
  have GLPick : FnOk P w K mg base CX0 (k + 2) T.aLPick T.dLPick ["_law_pen_here", "_law_options"] (spPickA K) := ok_pick T
  refine T.fLDrawnLetters.ok scLDrawnLetters (fun vs H Q E h => ?_) (fun cdv A outer s H vs Q E hr h => ?_)
  · obtain ⟨d, c, n, t, rfl, _⟩ := h
    rfl
  · obtain ⟨d, c, n, t, rfl, src, hn, ht, q⟩ := h
    refine ⟨_, (pss_cons (ps_asg (pe_tup (pa_cons (pe_call GLDraw hr (by rfl) T.gLDraw T.fLDraw.kp T.bLDraw .nil pass0 (pa_cons (pv 0) (pa_cons pe_int pa_nil))) (pa_cons (pe_call GLPick hr (by rfl) T.gLPick T.fLPick.kp T.bLPick .nil pass0 (pa_cons (pv 0) (pa_cons (pe_lst (pa_cons pe_int (pa_cons pe_int (pa_cons pe_int (pa_cons pe_int (pa_cons pe_int (pa_cons pe_int (pa_cons pe_int (pa_cons pe_int (pa_cons pe_int (pa_cons pe_int (pa_cons pe_int (pa_cons pe_int pa_nil))))))))))))) pa_nil))) pa_nil))) (pg_tup (by rfl) (pgs_cons (pg_name (i := 2) scLDrawnLetters.nd rfl (Or.inr rfl)) (pgs_cons (pg_name (i := 3) scLDrawnLetters.nd rfl (Or.inr rfl)) pgs_nil))))
      (pss_one (ps_ret (pe_join pe_str (pe_lc (own := [("_law_k", 4)]) (g := gName 4) (tt := tYes) rfl scLDrawnLetters.nd (pi_range1 (by rfl) T.m_range (pa_cons (pv 1) pa_nil)) (blkOk_by (N := ["_law_pen_here", "_law_count", "_law_first", "_law_step", "_law_k"]) (sc := defScope sLDrawnLetters) (by decide +kernel)) (fun _ _ _ _ _ => pg_name (i := 4) scLDrawnLetters.nd rfl (Or.inl rfl)) (fun _ _ _ _ _ => pts_nil) (fun _ _ _ _ _ => (pe_ix ix_str pe_str (pe_op op_modN (pe_op op_add (pv 2) (pe_op op_mul (pv 3) (pv 4))) pe_int) (fun _ _ => rfl)))))))), ?_⟩
    refine ⟨_, rfl, d, c, 26, t, rfl, src, by decide, by decide, by omega, fun H1 f t1 but1 src1 ht1 f0 f1 => ?_⟩
    refine ⟨_, rfl, by show 12 ≤ sizeLine; decide, fun l nl => ?_⟩
    obtain ⟨xs, hxs⟩ : ∃ xs : List V, xs = [V.int 1, V.int 3, V.int 5, V.int 7, V.int 9, V.int 11, V.int 15, V.int 17, V.int 19, V.int 21, V.int 23, V.int 25] := ⟨_, rfl⟩
    rw [← hxs]
    have s1 := same_new (o := .lst xs) nl
    refine ⟨d, c, t1, src1.same s1, by omega, .inl ⟨l, xs, rfl, SqL.of upd_same, (src1.new nl).1, by rw [hxs]; decide, by rw [hxs]; decide, fun H2 v t2 but2 src2 ht2 hv => ?_⟩⟩
    obtain ⟨st, rfl, st0⟩ : ∃ st : Int, v = .int st ∧ 0 ≤ st := by
      rw [hxs] at hv
      simp only [List.mem_cons, List.not_mem_nil, or_false] at hv
      rcases hv with e | e | e | e | e | e | e | e | e | e | e | e <;> exact ⟨_, e, by decide⟩
    have but2' := (but1.trans (But.same s1)).trans but2
    refine ⟨by show 2 ≤ sizeLine; decide, fun p np => ?_⟩
    have s2 := same_new (o := .tup [V.int f, V.int st]) np
    have src3 := src2.same s2
    have but3 := but2'.trans (But.same s2)
    refine ⟨p, _, rfl, SqT.of upd_same, rfl, _, _, rfl, _, _, rfl, rfl, ?_⟩
    generalize upd H2 p (.tup [V.int f, V.int st]) = H3 at *
    refine ⟨⟨_, rfl⟩, _, rfl, n, rfl, by omega, by omega, fun D nD => ?_⟩
    refine lc_range (lo := 0) (n := n) (fun i H' => ∃ zs : List Nat, Same H3 H' ∧ H' D = some (.lst (zs.map sg)) ∧ zs.length = i ∧ ∀ x ∈ zs, x ∈ lett) ?_ ?_ ?_
    · exact ⟨[], same_new nD, upd_same, rfl, fun x hx => nomatch hx⟩
    · rintro i H4 hi ⟨zs, s4, hD, hz, low⟩
      have m := mod_in (a := f + st * (0 + (i : Int))) (b := 26) (by decide)
      obtain ⟨j, hj⟩ := nat_of m.1
      have hj2 : j < lett.length := by
        show j < 26
        omega
      refine ⟨rfl, _, rfl, _, rfl, _, rfl, st, _, rfl, rfl, .inr (by constructor <;> omega), f, _, rfl, rfl, _, 26, rfl, rfl, (by show (26 : Int) ≠ 0; decide), _, j, lett[j], rfl, congrArg V.int hj, by decide, ?_, _, hD, fitsLt (by rw [List.length_map]; omega), zs ++ [lett[j]], Same.put s4 nD, by rw [upd_same, List.map_append]; rfl, by rw [List.length_append, hz]; rfl, fun y hy => ?_⟩
      · rw [lett_text]
        exact atI_nat (List.getElem?_eq_getElem hj2)
      · rcases List.mem_append.mp hy with z | z
        · exact low y z
        · rw [List.mem_singleton.mp z]
          exact List.getElem_mem hj2
    · rintro H4 ⟨zs, s4, hD, hz, low⟩
      rw [signs_map] at hD
      refine ⟨_, D, _, rfl, rfl, .inl (SqL.of hD), signs_room (by omega), ?_⟩
      rw [join_signs]
      exact q _ zs t2 (but3.trans (But.same s4)) (src3.same s4) (by omega) hz low
/-- a formula: at most n - 1 fragments of at most m letters, of at most r letters -/
def spForm : Sp := fun vs H Q _ => ∃ (d c : Addr) (n m r t : Nat), vs = [.ref d, .int (n : Nat), .int (m : Nat), .int (r : Nat)] ∧ Src H d c t ∧ 0 < n ∧ n ≤ 21 ∧ 0 < m ∧ m ≤ 6 ∧ 0 < r ∧ r ≤ 8 ∧ t < 800000000 ∧
  ∀ H' l f t', But d H H' → Src H' d c t' → t' ≤ t + 200 → H l = none → l ≠ d → H' l = some (.lst (tss f)) → OkF f → Q (.ref l) H'
theorem ok_form {k : Nat} (T : Txt K mg) : FnOk P w K mg base CX0 (k + 4) T.aLDrawnFormula T.dLDrawnFormula ["_law_pen_here", "_law_parts", "_law_size", "_law_count"] spForm := by
  have GLDraw : FnOk P w K mg base CX0 (k + 3) T.aLDraw T.dLDraw ["_law_pen_here", "_law_count"] spSDraw := ok_draw T
  have GLDrawnLetters : FnOk P w K mg base CX0 (k + 3) T.aLDrawnLetters T.dLDrawnLetters ["_law_pen_here", "_law_count"] spLets := ok_lets T
  have GLPick : FnOk P w K mg base CX0 (k + 3) T.aLPick T.dLPick ["_law_pen_here", "_law_options"] (spPickA K) := ok_pick T
  refine T.fLDrawnFormula.ok scLDrawnFormula (fun vs H Q E h => ?_) (fun cdv A outer s H vs Q E hr h => ?_)
  · obtain ⟨d, c, n, m, r, t, rfl, _⟩ := h
    rfl
  · obtain ⟨d, c, n, m, r, t, rfl, src, n0, n1, m0, m1, r0, r1, ht, q⟩ := h
    refine ⟨_, (pss_cons (ps_set (i := 4) scLDrawnFormula.nd rfl (Or.inr rfl) (pe_call GLDrawnLetters hr (by rfl) T.gLDrawnLetters T.fLDrawnLetters.kp T.bLDrawnLetters .nil pass0 (pa_cons (pv 0) (pa_cons (pe_op op_add pe_int (pe_call GLDraw hr (by rfl) T.gLDraw T.fLDraw.kp T.bLDraw .nil pass0 (pa_cons (pv 0) (pa_cons (pv 3) pa_nil)))) pa_nil))))
      (pss_cons (ps_set (i := 5) scLDrawnFormula.nd rfl (Or.inl rfl) (pe_lst pa_nil))
      (pss_cons (ps_for PassesOwn.never rfl (pi_range1 (by rfl) T.m_range (pa_cons (pe_call GLDraw hr (by rfl) T.gLDraw T.fLDraw.kp T.bLDraw .nil pass0 (pa_cons (pv 0) (pa_cons (pv 1) pa_nil))) pa_nil)) (pg_name (i := 6) scLDrawnFormula.nd rfl (Or.inl rfl)) (pss_one (ps_expr (pe_bm PySem.F.plainAttrs_list PySem.F.slot_list_append PySem.F.type_list_append mt_append (pv 5) (pa_cons (pe_join pe_str (pe_lc (own := [("_law_j", 7)]) (g := gName 7) (tt := tYes) rfl scLDrawnFormula.nd (pi_range1 (by rfl) T.m_range (pa_cons (pe_op op_add pe_int (pe_call GLDraw hr (by rfl) T.gLDraw T.fLDraw.kp T.bLDraw .nil pass0 (pa_cons (pv 0) (pa_cons (pv 2) pa_nil)))) pa_nil)) (blkOk_by (N := ["_law_pen_here", "_law_parts", "_law_size", "_law_count", "_law_letters", "_law_found", "_law_k", "_law_j"]) (sc := defScope sLDrawnFormula) (by decide +kernel)) (fun _ _ _ _ _ => pg_name (i := 7) scLDrawnFormula.nd rfl (Or.inl rfl)) (fun _ _ _ _ _ => pts_nil) (fun _ _ _ _ _ => (pe_call GLPick hr (by rfl) T.gLPick T.fLPick.kp T.bLPick .nil pass0 (pa_cons (pv 0) (pa_cons (pv 4) pa_nil)))))) pa_nil)))))
      (pss_one (ps_ret (pv 5)))))), ?_⟩
    refine ⟨_, rfl, _, rfl, _, rfl, d, c, r, t, rfl, src, by omega, by omega, by omega, fun H1 x t1 but1 src1 ht1 x0 x1 => ?_⟩
    obtain ⟨x, rfl⟩ := nat_of x0
    refine ⟨1, x, rfl, rfl, d, c, 1 + x, t1, by rw [show ((1 + x : Nat) : Int) = 1 + (x : Int) by omega]; rfl, src1, by omega, by omega, fun H2 ls t2 but2 src2 ht2 ll low => ?_⟩
    refine ⟨Nat.zero_le _, fun L nL => ?_⟩
    have nLd := (src2.new nL).1
    have nLc := (src2.new nL).2
    have b2 := but1.trans but2
    have hLn := b2.none nL nLd
    have s3 := same_new (o := .lst []) nL
    refine ⟨_, rfl, _, rfl, d, c, n, t2, rfl, src2.same s3, by omega, by omega, by omega, fun H3 y t3 but3 src3 ht3 y0 y1 => ?_⟩
    obtain ⟨y, rfl⟩ := nat_of y0
    refine ⟨y, rfl, by omega, by omega, for_range (lo := 0) (fun i σ H' => ∃ (t' : Nat) (f : List (List Nat)) (o6 o7 : Option V), σ = [some (.ref d), some (.int (n : Int)), some (.int (m : Int)), some (.int (r : Int)), some (.str (tx ls)), some (.ref L), o6, o7] ∧ But d H H' ∧ Src H' d c t' ∧ t' ≤ t3 + 8 * i ∧ H' L = some (.lst (tss f)) ∧ f.length = i ∧ (∀ u ∈ f, 1 ≤ u.length ∧ u.length ≤ 40) ∧ ∀ u ∈ f, ∀ z ∈ u, z ∈ ls) ?_ ?_ ?_⟩
    · exact ⟨t3, [], _, _, rfl, (b2.trans (But.same s3)).trans but3, src3, Nat.le_refl _, but3 _ _ nLd upd_same, rfl, (fun u hu => nomatch hu), fun u hu => nomatch hu⟩
    · rintro i σ H4 hi ⟨t4, f, o6, o7, rfl, but4, src4, ht4, hL, hf, hf1, hf2⟩
      refine ⟨_, rfl, .inl ⟨rfl, _, SqL.of hL⟩, ⟨_, rfl⟩, ?_⟩
      refine ⟨_, rfl, _, rfl, d, c, m, t4, rfl, src4, by omega, by omega, by omega, fun H5 z t5 but5 src5 ht5 z0 z1 => ?_⟩
      obtain ⟨z, rfl⟩ := nat_of z0
      refine ⟨1, z, rfl, rfl, 1 + (z : Int), rfl, by omega, by omega, fun D nD => ?_⟩
      have ndD := (src5.new nD).1
      have ncD := (src5.new nD).2
      have hL5 := but5 _ _ nLd hL
      have nLD : L ≠ D := ne_of_none hL5 nD
      have b45 := but4.trans but5
      have hDn := b45.none nD ndD
      refine lc_range (lo := 0) (n := 1 + z) (fun j H' => ∃ (zs : List Nat) (t' : Nat), But d H H' ∧ Src H' d c t' ∧ t' ≤ t5 + j ∧ H' L = some (.lst (tss f)) ∧ H' D = some (.lst (zs.map sg)) ∧ zs.length = j ∧ ∀ x ∈ zs, x ∈ ls) ?_ ?_ ?_
      · exact ⟨[], t5, b45.trans (But.same (same_new nD)), src5.same (same_new nD), Nat.le_refl _, (same_new nD) _ _ hL5, upd_same, rfl, fun x hx => nomatch hx⟩
      · rintro j H6 hj ⟨zs, t6, but6, src6, ht6, hL6, hD, hz, sub⟩
        refine ⟨rfl, _, rfl, _, rfl, d, c, t6, src6, by omega, .inr ⟨ls, rfl, by omega, by omega, fun H7 x t7 but7 src7 ht7 hx => ?_⟩⟩
        have hD7 := but7 _ _ ndD hD
        have hL7 := but7 _ _ nLd hL6
        refine ⟨_, hD7, fitsLt (by rw [List.length_map]; omega), zs ++ [x], t7, (but6.trans but7).put hDn, src7.upd ndD ncD, by omega, by rw [upd_ne nLD]; exact hL7, by rw [upd_same, List.map_append]; rfl, by rw [List.length_append, hz]; rfl, fun y hy => ?_⟩
        rcases List.mem_append.mp hy with q | q
        · exact sub y q
        · rw [List.mem_singleton.mp q]
          exact hx
      · rintro H6 ⟨zs, t6, but6, src6, ht6, hL6, hD, hz, sub⟩
        rw [signs_map] at hD
        refine ⟨_, D, _, rfl, rfl, .inl (SqL.of hD), signs_room (by omega), ?_⟩
        rw [join_signs]
        refine ⟨L, _, _, rfl, rfl, hL6, fitsLt (by rw [tss_len]; omega), t6, f ++ [zs], _, _, rfl, but6.put hLn, src6.upd nLd nLc, by omega, ?_, by rw [List.length_append, hf]; rfl, fun u hu => ?_, fun u hu => ?_⟩
        · rw [upd_same, ← tss_app]
          rfl
        · rcases List.mem_append.mp hu with q | q
          · exact hf1 u q
          · rw [List.mem_singleton.mp q]
            omega
        · rcases List.mem_append.mp hu with q | q
          · exact hf2 u q
          · rw [List.mem_singleton.mp q]
            exact sub
    · rintro σ H4 ⟨t4, f, o6, o7, rfl, but4, src4, ht4, hL, hf, hf1, hf2⟩
      exact ⟨_, rfl, q H4 L f t4 but4 src4 (by omega) hLn nLd hL (OkF.sub (by omega) hf1 (by omega) low hf2)⟩
/-- a long formula -/
def spLong : Sp := fun vs H Q _ => ∃ (d c : Addr) (t : Nat), vs = [.ref d] ∧ Src H d c t ∧ t < 800000000 ∧
  ∀ H' l f t', But d H H' → Src H' d c t' → t' ≤ t + 600 → H l = none → l ≠ d → H' l = some (.lst (tss f)) → OkF f → Q (.ref l) H'
theorem ok_long {k : Nat} (T : Txt K mg) : FnOk P w K mg base CX0 (k + 4) T.aLLong T.dLLong ["_law_pen_here"] spLong := by
  have GLDraw : FnOk P w K mg base CX0 (k + 3) T.aLDraw T.dLDraw ["_law_pen_here", "_law_count"] spSDraw := ok_draw T
  have GLDrawnLetters : FnOk P w K mg base CX0 (k + 3) T.aLDrawnLetters T.dLDrawnLetters ["_law_pen_here", "_law_count"] spLets := ok_lets T
  have GLPick : FnOk P w K mg base CX0 (k + 3) T.aLPick T.dLPick ["_law_pen_here", "_law_options"] (spPickA K) := ok_pick T
  refine T.fLLong.ok scLLong (fun vs H Q E h => ?_) (fun cdv A outer s H vs Q E hr h => ?_)
  · obtain ⟨d, c, t, rfl, _⟩ := h
    rfl
  · obtain ⟨d, c, t, rfl, src, ht, q⟩ := h
    refine ⟨_, (pss_cons (ps_asg (pe_tup (pa_cons (pe_call GLDrawnLetters hr (by rfl) T.gLDrawnLetters T.fLDrawnLetters.kp T.bLDrawnLetters .nil pass0 (pa_cons (pv 0) (pa_cons (pe_op op_add pe_int (pe_call GLDraw hr (by rfl) T.gLDraw T.fLDraw.kp T.bLDraw .nil pass0 (pa_cons (pv 0) (pa_cons pe_int pa_nil)))) pa_nil))) (pa_cons (pe_op op_add pe_int (pe_call GLDraw hr (by rfl) T.gLDraw T.fLDraw.kp T.bLDraw .nil pass0 (pa_cons (pv 0) (pa_cons pe_int pa_nil)))) (pa_cons (pe_lst pa_nil) pa_nil)))) (pg_tup (by rfl) (pgs_cons (pg_name (i := 1) scLLong.nd rfl (Or.inr rfl)) (pgs_cons (pg_name (i := 2) scLLong.nd rfl (Or.inl rfl)) (pgs_cons (pg_name (i := 3) scLLong.nd rfl (Or.inl rfl)) pgs_nil)))))
      (pss_cons (ps_while PassesOwn.never (pt_cmpR op_gt (pv 2) pe_int (nomark _)) (pss_cons (ps_set (i := 4) scLLong.nd rfl (Or.inl rfl) (pe_callB (call_min2 rfl) (by rfl) T.m_min (by decide +kernel) (pa_cons (pv 2) (pa_cons (pe_op op_add pe_int (pe_call GLDraw hr (by rfl) T.gLDraw T.fLDraw.kp T.bLDraw .nil pass0 (pa_cons (pv 0) (pa_cons pe_int pa_nil)))) pa_nil))))
      (pss_cons (ps_expr (pe_bm PySem.F.plainAttrs_list PySem.F.slot_list_append PySem.F.type_list_append mt_append (pv 3) (pa_cons (pe_join pe_str (pe_lc (own := [("_law_k", 5)]) (g := gName 5) (tt := tYes) rfl scLLong.nd (pi_range1 (by rfl) T.m_range (pa_cons (pv 4) pa_nil)) (blkOk_by (N := ["_law_pen_here", "_law_letters", "_law_total", "_law_found", "_law_size", "_law_k"]) (sc := defScope sLLong) (by decide +kernel)) (fun _ _ _ _ _ => pg_name (i := 5) scLLong.nd rfl (Or.inl rfl)) (fun _ _ _ _ _ => pts_nil) (fun _ _ _ _ _ => (pe_call GLPick hr (by rfl) T.gLPick T.fLPick.kp T.bLPick .nil pass0 (pa_cons (pv 0) (pa_cons (pv 1) pa_nil)))))) pa_nil)))
      (pss_one (ps_set (i := 2) scLLong.nd rfl (Or.inl rfl) (pe_op op_sub (pv 2) (pv 4)))))))
      (pss_one (ps_ret (pv 3))))), ?_⟩
    refine ⟨_, rfl, _, rfl, d, c, 6, t, rfl, src, by decide, by decide, by omega, fun H1 x t1 but1 src1 ht1 x0 x1 => ?_⟩
    obtain ⟨x, rfl⟩ := nat_of x0
    refine ⟨1, x, rfl, rfl, d, c, 1 + x, t1, by rw [show ((1 + x : Nat) : Int) = 1 + (x : Int) by omega]; rfl, src1, by omega, by omega, fun H2 ls t2 but2 src2 ht2 ll low => ?_⟩
    refine ⟨_, rfl, d, c, 16, t2, rfl, src2, by decide, by decide, by omega, fun H3 y t3 but3 src3 ht3 y0 y1 => ?_⟩
    obtain ⟨y, rfl⟩ := nat_of y0
    refine ⟨30, y, rfl, rfl, Nat.zero_le _, fun L nL => ?_⟩
    have nLd := (src3.new nL).1
    have nLc := (src3.new nL).2
    have b3 := (but1.trans but2).trans but3
    have hLn := b3.none nL nLd
    have s3 := same_new (o := .lst []) nL
    have hL3 : upd H3 L (.lst []) L = some (.lst []) := upd_same
    have src4 := src3.same s3
    have b4 := b3.trans (But.same s3)
    generalize upd H3 L (.lst []) = H4 at *
    refine ⟨by show 3 ≤ sizeLine; decide, fun p np => ?_⟩
    have s5 := same_new (o := .tup [V.str (tx ls), V.int (30 + (y : Int)), V.ref L]) np
    refine ⟨p, _, rfl, SqT.of upd_same, rfl, _, _, rfl, _, _, rfl, _, _, rfl, rfl, ?_⟩
    have src5 := src4.same s5
    have b5 := b4.trans (But.same s5)
    have hL5 := s5 _ _ hL3
    generalize upd H4 p (.tup [V.str (tx ls), V.int (30 + (y : Int)), V.ref L]) = H5 at *
    refine while_raw (fun σ H' => ∃ (tot t' : Nat) (f : List (List Nat)) (o4 o5 : Option V), σ = [some (.ref d), some (.str (tx ls)), some (.int (tot : Int)), some (.ref L), o4, o5] ∧ But d H H' ∧ Src H' d c t' ∧ t' ≤ t3 + 25 * f.length ∧ H' L = some (.lst (tss f)) ∧ (tot = 0 ∨ 3 * f.length + tot ≤ 45) ∧ f.length ≤ 16 ∧ (∀ u ∈ f, 1 ≤ u.length ∧ u.length ≤ 40) ∧ ∀ u ∈ f, ∀ z ∈ u, z ∈ ls)
      (fun σ _ => match σ with | _ :: _ :: some (.int t) :: _ => t.toNat | _ => 0) ?_ ?_
    · exact ⟨30 + y, t3, [], _, _, by rw [show ((30 + y : Nat) : Int) = 30 + (y : Int) by omega]; rfl, b5, src5, Nat.le_refl _, hL5, .inr (by show 0 + (30 + y) ≤ 45; omega), by decide, (fun u hu => nomatch hu), fun u hu => nomatch hu⟩
    · rintro σ H6 ⟨tot, t6, f, o4, o5, rfl, but6, src6, ht6, hL6, htot, hfl, hf1, hf2⟩
      refine ⟨_, rfl, _, _, rfl, rfl, decide (0 < tot), congrArg V.bl (decide_eq_decide.mpr (by omega)), ?_⟩
      by_cases c0 : 0 < tot
      · rw [decide_eq_true c0]
        refine iteT ⟨fun σ' H' => ∃ (tot' t' : Nat) (f' : List (List Nat)) (o4 o5 : Option V), tot' < tot ∧ σ' = [some (.ref d), some (.str (tx ls)), some (.int (tot' : Int)), some (.ref L), o4, o5] ∧ But d H H' ∧ Src H' d c t' ∧ t' ≤ t3 + 25 * f'.length ∧ H' L = some (.lst (tss f')) ∧ (tot' = 0 ∨ 3 * f'.length + tot' ≤ 45) ∧ f'.length ≤ 16 ∧ (∀ u ∈ f', 1 ≤ u.length ∧ u.length ≤ 40) ∧ ∀ u ∈ f', ∀ z ∈ u, z ∈ ls, ?_, ?_⟩
        · rintro σ' H' ⟨tot', t', f', o4', o5', hlt, rfl, r⟩
          exact ⟨tot', hlt, rfl, tot', t', f', o4', o5', rfl, r⟩
        refine ⟨_, rfl, _, rfl, d, c, 18, t6, rfl, src6, by decide, by decide, by omega, fun H7 z t7 but7 src7 ht7 z0 z1 => ?_⟩
        obtain ⟨z, rfl⟩ := nat_of z0
        refine ⟨3, z, rfl, rfl, _, _, rfl, ?_⟩
        obtain ⟨sz, hsz, sz1, sz2, sz3⟩ : ∃ sz : Nat, (if (3 : Int) + (z : Int) < (tot : Int) then (3 : Int) + (z : Int) else (tot : Int)) = (sz : Int) ∧ 1 ≤ sz ∧ sz ≤ 20 ∧ (sz = tot ∨ (3 ≤ sz ∧ sz < tot)) := by
          by_cases e : 3 + z < tot
          · exact ⟨3 + z, by rw [if_pos (by omega)]; omega, by omega, by omega, .inr (by omega)⟩
          · exact ⟨tot, by rw [if_neg (by omega)], by omega, by omega, .inl rfl⟩
        dsimp only
        rw [hsz]
        have hL7 := but7 _ _ nLd hL6
        refine ⟨_, rfl, .inl ⟨rfl, _, SqL.of hL7⟩, ⟨_, rfl⟩, _, rfl, sz, rfl, by omega, by omega, fun D nD => ?_⟩
        have ndD := (src7.new nD).1
        have ncD := (src7.new nD).2
        have nLD : L ≠ D := ne_of_none hL7 nD
        have b67 := but6.trans but7
        have hDn := b67.none nD ndD
        refine lc_range (lo := 0) (n := sz) (fun j H' => ∃ (zs : List Nat) (t' : Nat), But d H H' ∧ Src H' d c t' ∧ t' ≤ t7 + j ∧ H' L = some (.lst (tss f)) ∧ H' D = some (.lst (zs.map sg)) ∧ zs.length = j ∧ ∀ x ∈ zs, x ∈ ls) ?_ ?_ ?_
        · exact ⟨[], t7, b67.trans (But.same (same_new nD)), src7.same (same_new nD), Nat.le_refl _, (same_new nD) _ _ hL7, upd_same, rfl, fun x hx => nomatch hx⟩
        · rintro j H8 hj ⟨zs, t8, but8, src8, ht8, hL8, hD, hz, sub⟩
          refine ⟨rfl, _, rfl, _, rfl, d, c, t8, src8, by omega, .inr ⟨ls, rfl, by omega, by omega, fun H9 x t9 but9 src9 ht9 hx => ?_⟩⟩
          have hD9 := but9 _ _ ndD hD
          have hL9 := but9 _ _ nLd hL8
          refine ⟨_, hD9, fitsLt (by rw [List.length_map]; omega), zs ++ [x], t9, (but8.trans but9).put hDn, src9.upd ndD ncD, by omega, by rw [upd_ne nLD]; exact hL9, by rw [upd_same, List.map_append]; rfl, by rw [List.length_append, hz]; rfl, fun y hy => ?_⟩
          rcases List.mem_append.mp hy with q | q
          · exact sub y q
          · rw [List.mem_singleton.mp q]
            exact hx
        · rintro H8 ⟨zs, t8, but8, src8, ht8, hL8, hD, hz, sub⟩
          rw [signs_map] at hD
          refine ⟨_, D, _, rfl, rfl, .inl (SqL.of hD), signs_room (by omega), ?_⟩
          rw [join_signs]
          refine ⟨L, _, _, rfl, rfl, hL8, fitsLt (by rw [tss_len]; omega), _, rfl, _, rfl, _, _, rfl, rfl, tot - sz, t8, f ++ [zs], some (.int (sz : Int)), o5, by omega, ?_, but8.put hLn, src8.upd nLd nLc, by rw [List.length_append, List.length_singleton]; omega, ?_, ?_, by rw [List.length_append, List.length_singleton]; omega, fun u hu => ?_, fun u hu => ?_⟩
          · rw [show ((tot - sz : Nat) : Int) = (tot : Int) - (sz : Int) by omega]
            rfl
          · rw [upd_same, ← tss_app]
            rfl
          · rw [List.length_append, List.length_singleton]
            omega
          · rcases List.mem_append.mp hu with q | q
            · exact hf1 u q
            · rw [List.mem_singleton.mp q]
              omega
          · rcases List.mem_append.mp hu with q | q
            · exact hf2 u q
            · rw [List.mem_singleton.mp q]
              exact sub
      · rw [decide_eq_false c0]
        exact iteF ⟨_, rfl, q H6 L f t6 but6 src6 (by omega) hLn nLd hL6 (OkF.sub (by omega) hf1 (by omega) low hf2)⟩
end
end Mo

namespace Mo
open PySem PySem.Spec PyProof.Rows L2
section
variable {P : Program} {w : World} {K : PySem.W.Frag} {mg : Str → Option Value} {base : Heap}
theorem notStr {d : PyData} (h : isStrD d = false) : patD d = false := by
  cases d <;> first | rfl | exact absurd (show true = false from h) (by decide)
theorem ok_pat {k : Nat} (T : Txt K mg) : FnOk P w K mg base CX0 (k + 1) T.aIsPattern T.dIsPattern ["value"] (spAsk patD) := by
  refine T.fIsPattern.ok scIsPattern (fun vs H Q E h => ?_) (fun cdv A outer s H vs Q E hr h => ?_)
  · obtain ⟨_, _, _, rfl, _⟩ := h
    rfl
  · obtain ⟨N, x, d, rfl, hd, hb, q⟩ := h
    refine ⟨_, (pss_cons (ps_if (PW.pt (pw_or (pt_not (pt_val (pe_callB call_isi (by rfl) T.m_isinstance (by decide +kernel) (pa_cons (pv 0) (pa_cons (pe_bltn (v := .ty "str") (by rfl) T.m_str (by decide +kernel) rfl) pa_nil))))) (pw_or1 (pt_cmpR op_gt (pe_callB call_len_str (by rfl) T.m_len PySem.boot_len (pa_cons (pv 0) pa_nil)) (pe_glob (v := .int 40) rfl T.m_LONGEST_PATTERN ⟨_, rfl⟩) (nomark _))))) (pss_one (ps_ret pe_bl)) pss_nil)
      (pss_one (ps_ret (pe_and (pe_cmpR op_le (pe_callB Mo.cr_lenK (by rfl) T.m_len PySem.boot_len (pa_cons (pe_callTy (Mo.cr_setS rfl) (by rfl) T.m_set (by decide +kernel) (pa_cons (pv 0) pa_nil)) pa_nil)) (pe_glob (v := .int 8) rfl T.m_MOST_VARIABLES ⟨_, rfl⟩) (nomark _)) (pe_one (pe_callB (cr_all rfl) (by rfl) T.m_all (by decide +kernel) (pa_cons (pe_lc (own := [("name", 1)]) (g := gName 1) (tt := tYes) rfl scIsPattern.nd (pi_str (pv 0)) (blkOk_by (N := ["value", "name"]) (sc := defScope sIsPattern) (by decide +kernel)) (fun _ _ _ _ _ => pg_name (i := 1) scIsPattern.nd rfl (Or.inl rfl)) (fun _ _ _ _ _ => pts_nil) (fun _ _ _ _ _ => (pe_cmpR op_in_sign (pv 1) (pe_glob (v := .str "abcdefghijklmnopqrstuvwxyz") rfl T.m_VARIABLES ⟨_, rfl⟩) rfl))) pa_nil))))))), ?_⟩
    have ty := hd.ty (K := K)
    refine ⟨_, rfl, _, _, .type (tyD d), .type "str", isStrD d, rfl, .ty "str", ty, kit_ty (kit_str d), isStrD d, rfl, ?_⟩
    cases e : isStrD d with
    | false =>
      have q0 := q H (Same.refl H)
      rw [notStr e] at q0
      exact iteT q0
    | true =>
      obtain ⟨cs, rfl, rfl⟩ := str_dx hd e
      simp only [PyData.bulk] at hb
      rw [tx_size] at hb
      have zp : patD (.str (tx cs)) = (decide (cs.length ≤ 40) && (decide ((met cs).length ≤ 8) && cs.all fun c => decide (c ∈ lett))) := rfl
      refine iteF ⟨_, rfl, _, rfl, Nat.le_trans (by rw [tx_len]; exact hb) (by decide), _, _, rfl, rfl, _, rfl, ite2 (fun e => ?_) (fun e => ?_)⟩
      · have h1 := of_decide_eq_true e
        rw [tx_len] at h1
        have q0 := q H (Same.refl H)
        rw [zp, decide_eq_false (by omega)] at q0
        exact q0
      · have h1 : ¬ (40 : Int) < (tx cs).length := fun z => e (decide_eq_true z)
        rw [tx_len] at h1
        rw [zp, decide_eq_true (by omega), Bool.true_and] at q
        refine ⟨_, rfl, tx cs, rfl, by rw [tx_size]; omega, fun p np => ?_⟩
        have hml := met_length_le cs
        refine ⟨p, _, _, rfl, upd_same, by rw [tx_list]; omega, _, _, rfl, rfl, decide ((met cs).length ≤ 8), congrArg V.bl (decide_eq_decide.mpr (by rw [tx_list]; omega)), ?_⟩
        have sm := same_new (o := SetK P w p (inS (tx cs).cps.toList) (met (tx cs).cps.toList).length) np
        cases e8 : decide ((met cs).length ≤ 8) with
        | false =>
          rw [e8] at q
          exact q _ sm
        | true =>
          rw [e8, Bool.true_and] at q
          refine iteT ⟨_, rfl, tx cs, rfl, fun D nD => lc_it walk_str (fun i H' => Same (upd H p (SetK P w p (inS (tx cs).cps.toList) (met (tx cs).cps.toList).length)) H' ∧ H' D = some (.lst (((cs.take i).map fun c => decide (c ∈ lett)).map V.bl))) ?_ ?_ ?_ ?_⟩
          · exact ⟨same_new nD, upd_same⟩
          · exact fun _ _ _ _ => trivial
          · rintro i x H1 H2 hi ⟨s1, hD⟩ ⟨rfl, c, hc, rfl⟩
            rw [tx_get] at hc
            refine ⟨rfl, _, rfl, c, _, rfl, rfl, _, hD, fitsLt (by rw [List.length_map, List.length_map, List.length_take]; omega), Same.put s1 nD, ?_⟩
            rw [upd_same, lett_text, List.take_add_one, hc, List.map_append, List.map_append]
            rfl
          · rintro H1 ⟨s1, hD⟩
            rw [tx_size, List.take_length] at hD
            refine ⟨D, cs.map fun c => decide (c ∈ lett), rfl, SqL.of hD, ?_⟩
            rw [show (cs.map fun c => decide (c ∈ lett)).all id = cs.all fun c => decide (c ∈ lett) by rw [List.all_map]; rfl]
            exact q H1 (sm.trans s1)
/-- a formula stands at a, a list or a tuple -/
def FAt (H : Hp) (a : Addr) (f : List (List Nat)) (b : Bool) : Prop := H a = some (enO (tss f) b)
theorem FAt.sq {H : Hp} {a : Addr} {f : List (List Nat)} {b : Bool} (h : FAt H a f b) : SqL K H a (tss f) ∨ SqT K H a (tss f) := sqB h
theorem FAt.sqx {H : Hp} {a : Addr} {f : List (List Nat)} {b : Bool} (h : FAt H a f b) : SqL K H a ((f.map tx).map V.str) ∨ SqT K H a ((f.map tx).map V.str) := by
  rw [← tss_strs]
  exact sqB h
def spNames : Sp := fun vs H Q _ => ∃ (a : Addr) (f : List (List Nat)) (b : Bool), vs = [.ref a] ∧ FAt H a f b ∧ f.flatten.length ≤ 1000 ∧ (met f.flatten).length < 64 ∧
  ∀ H' (p : Addr) (ns : List Nat), Same H H' → H p = none → H' p = some (.lst (ns.map sg)) → (∀ c, c ∈ ns ↔ c ∈ f.flatten) → ns.length = (met f.flatten).length → Q (.ref p) H'
theorem ok_names {k : Nat} (T : Txt K mg) : FnOk P w K mg base CX0 (k + 1) T.aNamesIn T.dNamesIn ["formula"] spNames := by
  refine T.fNamesIn.ok scNamesIn (fun vs H Q E h => ?_) (fun cdv A outer s H vs Q E hr h => ?_)
  · obtain ⟨a, f, b, rfl, _⟩ := h
    rfl
  · obtain ⟨a, f, b, rfl, ha, hf, h64, q⟩ := h
    refine ⟨_, (pss_one (ps_ret (pe_callB (Mo.cr_sortSg (P := P) (w := w) rfl rfl rfl) (by rfl) T.m_sorted (by decide +kernel) (pa_cons (pe_callTy (Mo.cr_setSg (P := P) (w := w) rfl rfl rfl) (by rfl) T.m_set (by decide +kernel) (pa_cons (pe_join pe_str (pv 0)) pa_nil)) pa_nil)))), ?_⟩
    refine ⟨⟨_, rfl⟩, _, rfl, _, a, _, rfl, rfl, ha.sqx, texts_room (by omega), ?_⟩
    rw [join_texts]
    refine ⟨_, rfl, by rw [tx_size]; omega, fun p np => ?_⟩
    have s1 := same_new (o := SetSg P w p (tx f.flatten).cps.toList) np
    refine ⟨p, _, rfl, upd_same, h64, fun ys r pm st nr => ?_⟩
    obtain ⟨ls, rfl⟩ := signs_of ys fun y hy => by
      obtain ⟨c, _, rfl⟩ := List.mem_map.mp (pm.mem_iff.mp hy)
      exact ⟨c, rfl⟩
    have q2 := sign_map_inj pm
    refine q _ r ls (s1.trans (same_new nr)) (s1.free nr) (by rw [upd_same, signs_map]) (fun c => (q2.mem_iff).trans mem_met) (by rw [q2.length_eq]; rfl)
theorem kitF (b : Bool) : PySem.W.kitAny K (.type (tyD (if b then .tuple [] else .list []))) [.type "list", .type "tuple"] = some true := by
  have h : ∀ d : PyData, PySem.W.kitAny K (.type (tyD d)) [.type "list", .type "tuple"] = some (isListD d || isTupD d) := fun d => by
    refine kitAny_cons (kit_ty (kit_list d)) (fun z => ?_) (fun z => by rw [z]; rfl)
    rw [z, Bool.false_or]
    exact kitAny_cons (kit_ty (kit_tup d)) (fun z => by rw [z]; rfl) (fun z => z)
  cases b
  · exact h (.list [])
  · exact h (.tuple [])
theorem FAt.ty {H : Hp} {a : Addr} {f : List (List Nat)} {b : Bool} (h : FAt H a f b) : TyX K H (.ref a) (.type (tyD (if b then .tuple [] else .list []))) := by
  cases b
  · exact .base (.lst h)
  · exact .base (.tup h)
def spIsF : Sp := fun vs H Q _ => ∃ (a : Addr) (f : List (List Nat)) (b : Bool), vs = [.ref a] ∧ FAt H a f b ∧ OkF f ∧ ∀ H', Same H H' → Q (.bl true) H'
theorem ok_isF {k : Nat} (T : Txt K mg) : FnOk P w K mg base CX0 (k + 2) T.aIsFormula T.dIsFormula ["value"] spIsF := by
  have GIsPattern : FnOk P w K mg base CX0 (k + 1) T.aIsPattern T.dIsPattern ["value"] (spAsk patD) := ok_pat T
  have GNamesIn : FnOk P w K mg base CX0 (k + 1) T.aNamesIn T.dNamesIn ["formula"] spNames := ok_names T
  refine T.fIsFormula.ok scIsFormula (fun vs H Q E h => ?_) (fun cdv A outer s H vs Q E hr h => ?_)
  · obtain ⟨a, f, b, rfl, _⟩ := h
    rfl
  · obtain ⟨a, f, b, rfl, ha, ok, q⟩ := h
    refine ⟨_, (pss_cons (ps_if (PW.pt (pw_or (pt_not (pt_val (pe_callB call_isiT (by rfl) T.m_isinstance (by decide +kernel) (pa_cons (pv 0) (pa_cons (pe_tup (pa_cons (pe_bltn (v := .ty "list") (by rfl) T.m_list (by decide +kernel) rfl) (pa_cons (pe_bltn (v := .ty "tuple") (by rfl) T.m_tuple (by decide +kernel) rfl) pa_nil))) pa_nil))))) (pw_or1 (pt_cmpR op_gt (pe_callB call_len_seq (by rfl) T.m_len PySem.boot_len (pa_cons (pv 0) pa_nil)) (pe_glob (v := .int 20) rfl T.m_MOST_FRAGMENTS ⟨_, rfl⟩) (nomark _))))) (pss_one (ps_ret pe_bl)) pss_nil)
      (pss_cons (ps_if (pt_not (pt_val (pe_callB (cr_all rfl) (by rfl) T.m_all (by decide +kernel) (pa_cons (pe_lc (own := [("fragment", 1)]) (g := gName 1) (tt := tYes) rfl scIsFormula.nd (Mo.pi_seqB (K := K) rfl (pv 0)) (blkOk_by (N := ["value", "fragment"]) (sc := defScope sIsFormula) (by decide +kernel)) (fun _ _ _ _ _ => pg_name (i := 1) scIsFormula.nd rfl (Or.inl rfl)) (fun _ _ _ _ _ => pts_nil) (fun _ _ _ _ _ => (pe_and (pe_call GIsPattern hr (by rfl) T.gIsPattern T.fIsPattern.kp T.bIsPattern .nil pass0 (pa_cons (pv 1) pa_nil)) (pe_one (pe_cmpR op_ne (pv 1) pe_str (nomark _)))))) pa_nil)))) (pss_one (ps_ret pe_bl)) pss_nil)
      (pss_one (ps_ret (pe_cmpR op_le (pe_callB call_len_seq (by rfl) T.m_len PySem.boot_len (pa_cons (pe_call GNamesIn hr (by rfl) T.gNamesIn T.fNamesIn.kp T.bNamesIn .nil pass0 (pa_cons (pv 0) pa_nil)) pa_nil)) (pe_glob (v := .int 8) rfl T.m_MOST_VARIABLES ⟨_, rfl⟩) (nomark _)))))), ?_⟩
    have hl := ok.len
    have hfl := ok.flat
    have hfw := ok.few
    refine ⟨_, rfl, by show 2 ≤ sizeLine; decide, fun tp ntp => ?_⟩
    have s1 := same_new (o := .tup [V.ty "list", V.ty "tuple"]) ntp
    have ha1 : FAt (upd H tp (.tup [V.ty "list", V.ty "tuple"])) a f b := s1 _ _ ha
    refine ⟨_, tp, _, _, _, true, rfl, upd_same, .cons (.ty "list") (.cons (.ty "tuple") .nil), ha1.ty, kitF b, true, rfl, iteF ?_⟩
    generalize upd H tp (.tup [V.ty "list", V.ty "tuple"]) = H1 at *
    refine ⟨_, rfl, a, _, rfl, ha1.sq, _, _, rfl, rfl, false, congrArg V.bl (decide_eq_false (by rw [tss_len]; omega)), iteF ?_⟩
    refine ⟨_, rfl, a, tss f, b, rfl, ha1, fun D nD => lc_it (walk_sqB (xs := tss f)) (fun i H' => Same H1 H' ∧ H' D = some (.lst ((List.replicate i true).map V.bl))) ?_ ?_ ?_ ?_⟩
    · exact ⟨same_new nD, upd_same⟩
    · exact fun i H' _ h => h.1 _ _ ha1
    · rintro i x H2 H3 hi ⟨s2, hD⟩ ⟨rfl, hx⟩
      unfold tss at hx
      rw [List.getElem?_map] at hx
      obtain ⟨u, hu, rfl⟩ := Option.map_eq_some_iff.mp hx
      have hm := List.mem_of_getElem? hu
      have hlt := (List.getElem?_eq_some_iff.mp hu).1
      have up := ok.ok u hm
      refine ⟨rfl, _, rfl, fun _ => False, _, .str (tx u), rfl, .str _, ?_, fun H4 s4 => ?_⟩
      · simp only [PyData.bulk]
        rw [tx_size]
        have := up.len
        omega
      · refine ⟨_, rfl, ?_⟩
        rw [show patD (.str (tx u)) = true from up.pat]
        refine iteT ⟨_, rfl, rfl, ?_⟩
        rw [decide_eq_false (fun z => ok.ne u hm (tx_inj (V.str.inj (z.trans (congrArg V.str tx_nil)))))]
        refine ⟨_, s4 _ _ hD, fitsLt (by rw [List.length_map, List.length_replicate]; omega), Same.put (s2.trans s4) nD, ?_⟩
        rw [upd_same, List.replicate_succ', List.map_append]
        rfl
    · rintro H2 ⟨s2, hD⟩
      rw [tss_len] at hD
      refine ⟨D, List.replicate f.length true, rfl, SqL.of hD, ?_⟩
      rw [show (List.replicate f.length true).all id = true by simp]
      refine ⟨true, rfl, iteF ?_⟩
      refine ⟨_, rfl, a, f, b, rfl, s2 _ _ ha1, by omega, by omega, fun H3 p ns s3 _ hp _ hn => ?_⟩
      refine ⟨p, _, rfl, .inl (SqL.of hp), _, _, rfl, rfl, ?_⟩
      have e : decide (((met f.flatten).length : Int) ≤ 8) = true := decide_eq_true (by omega)
      rw [List.length_map, hn]
      dsimp only
      rw [e]
      exact q H3 ((s1.trans s2).trans s3)
def spChkF : Sp := fun vs H Q _ => ∃ (a : Addr) (f : List (List Nat)) (b : Bool), vs = [.ref a] ∧ FAt H a f b ∧ OkF f ∧ ∀ H', Same H H' → Q .non H'
theorem ok_initF {k : Nat} (T : Txt K mg) : FnOk P w K mg base CX0 (k + 1) T.iInvalidFormula T.dInvalidFormula ["self", "value"] (spInit T.cInvalidFormula "value") := by
  refine T.fInitInvalidFormula.ok scInitInvalidFormula (fun vs H Q E h => ?_) (fun cdv A outer s H vs Q E hr h => ?_)
  · obtain ⟨a, y, rfl, _⟩ := h
    rfl
  · obtain ⟨a, y, rfl, ha, q⟩ := h
    refine ⟨_, pss_one (ps_ost (pv 0) (pv 1)), ?_⟩
    exact ⟨_, rfl, _, rfl, a, T.cInvalidFormula, rfl, T.xInvalidFormula.oex, T.xInvalidFormula.no, .inl ⟨ha, fun dx nd ne => q dx nd ne⟩⟩
theorem ok_initL {k : Nat} (T : Txt K mg) : FnOk P w K mg base CX0 (k + 1) T.iTooLarge T.dTooLarge ["self", "limit"] (spInit T.cTooLarge "limit") := by
  refine T.fInitTooLarge.ok scInitTooLarge (fun vs H Q E h => ?_) (fun cdv A outer s H vs Q E hr h => ?_)
  · obtain ⟨a, y, rfl, _⟩ := h
    rfl
  · obtain ⟨a, y, rfl, ha, q⟩ := h
    refine ⟨_, pss_one (Mo.ps_fieldG (pv 0) (pv 1)), ?_⟩
    exact ⟨_, rfl, _, rfl, a, T.cTooLarge, _, _, _, _, rfl, T.xTooLarge.ov, T.xTooLarge.no, ha, fun dx nd ne => q dx nd ne⟩
theorem ok_chkF {k : Nat} (T : Txt K mg) : FnOk P w K mg base (L2.CX P w) (k + 4) T.aCheckFormula T.dCheckFormula ["value"] spChkF := by
  have GIsFormula : FnOk P w K mg base CX0 (k + 3) T.aIsFormula T.dIsFormula ["value"] spIsF := ok_isF T
  have GInitInvalidFormula : FnOk P w K mg base CX0 (k + 2) T.iInvalidFormula T.dInvalidFormula ["self", "value"] (spInit T.cInvalidFormula "value") := ok_initF T
  refine T.fCheckFormula.okX scCheckFormula (fun vs H Q E h => ?_) (fun cdv A outer s H vs Q E hr h => ?_)
  · obtain ⟨_, _, _, rfl, _⟩ := h
    rfl
  · obtain ⟨a, f, b, rfl, ha, ok, q⟩ := h
    refine ⟨_, (pss_one (ps_if (pt_not (pt_val (pe_call GIsFormula hr (by rfl) T.gIsFormula T.fIsFormula.kp T.bIsFormula .nil pass0 (pa_cons (pv 0) pa_nil)))) (pss_one (ps_raise rfl (takes_of rfl rfl rfl rfl) (pmk_oex T.xInvalidFormula.oex T.xInvalidFormula.iC T.xInvalidFormula.tI GInitInvalidFormula hr T.bInitInvalidFormula .nil pass0 (by rfl) T.eInvalidFormula (pa_cons (pv 0) pa_nil)))) pss_nil)), ?_⟩
    exact ⟨_, rfl, a, f, b, rfl, ha, ok, fun H1 s1 => ⟨true, rfl, iteF (q H1 s1)⟩⟩
/-- joined: the text, or the limit that it is over -/
def spJoin (C : Addr) : Sp := fun vs H Q E => ∃ (a : Addr) (f : List (List Nat)) (b : Bool), vs = [.ref a] ∧ FAt H a f b ∧ OkF f ∧
  (8 < (met f.flatten).length + gapsF f → ∀ dd H', H dd = none → Same H H' → H' dd = some (.xd [("limit", .int 8)]) → E (.ref C) (some dd) H') ∧
  (¬ 8 < (met f.flatten).length + gapsF f → 40 < f.flatten.length + gapsF f → ∀ dd H', H dd = none → Same H H' → H' dd = some (.xd [("limit", .int 40)]) → E (.ref C) (some dd) H') ∧
  (¬ 8 < (met f.flatten).length + gapsF f → ¬ 40 < f.flatten.length + gapsF f → ∀ H', Same H H' → Q (.str (tx (patT (freshF f) f f.length))) H')
theorem max_gap (n : Nat) : (if (0 : Int) > (n : Int) - 1 then (0 : Int) else (n : Int) - 1) = ((n - 1 : Nat) : Int) := by
  split <;> omega
theorem ok_join {k : Nat} (T : Txt K mg) : FnOk P w K mg base (L2.CX P w) (k + 5) T.aJoined T.dJoined ["formula"] (spJoin T.cTooLarge) := by
  have GCheckFormula : FnOk P w K mg base (L2.CX P w) (k + 4) T.aCheckFormula T.dCheckFormula ["value"] spChkF := ok_chkF T
  have GNamesIn : FnOk P w K mg base CX0 (k + 4) T.aNamesIn T.dNamesIn ["formula"] spNames := ok_names T
  have GInitTooLarge : FnOk P w K mg base CX0 (k + 3) T.iTooLarge T.dTooLarge ["self", "limit"] (spInit T.cTooLarge "limit") := ok_initL T
  refine T.fJoined.okX scJoined (fun vs H Q E h => ?_) (fun cdv A outer s H vs Q E hr h => ?_)
  · obtain ⟨_, _, _, rfl, _⟩ := h
    rfl
  · obtain ⟨a, f, b, rfl, ha, ok, q1, q2, q3⟩ := h
    refine ⟨_, (pss_cons (ps_expr (pe_call GCheckFormula hr (by rfl) T.gCheckFormula T.fCheckFormula.kp T.bCheckFormula .nil (passes_call (takes_of rfl rfl rfl rfl) (fun _ _ _ _ h => h)) (pa_cons (pv 0) pa_nil)))
      (pss_cons (ps_set (i := 1) scJoined.nd rfl (Or.inr rfl) (pe_call GNamesIn hr (by rfl) T.gNamesIn T.fNamesIn.kp T.bNamesIn .nil pass0 (pa_cons (pv 0) pa_nil)))
      (pss_cons (ps_set (i := 2) scJoined.nd rfl (Or.inl rfl) (pe_callB (call_max2 rfl) (by rfl) T.m_max (by decide +kernel) (pa_cons (pe_op op_sub (pe_callB call_len_seq (by rfl) T.m_len PySem.boot_len (pa_cons (pv 0) pa_nil)) pe_int) (pa_cons pe_int pa_nil))))
      (pss_cons (ps_if (pt_cmpR op_gt (pe_op op_add (pe_callB call_len_seq (by rfl) T.m_len PySem.boot_len (pa_cons (pv 1) pa_nil)) (pv 2)) (pe_glob (v := .int 8) rfl T.m_MOST_VARIABLES ⟨_, rfl⟩) (nomark _)) (pss_one (ps_raise rfl (takes_of rfl rfl rfl rfl) (Mo.pmkG T.xTooLarge.ov T.xTooLarge.iC T.xTooLarge.tI GInitTooLarge hr T.bInitTooLarge pass0 (by rfl) T.eTooLarge (pa_cons (pe_glob (v := .int 8) rfl T.m_MOST_VARIABLES ⟨_, rfl⟩) pa_nil)))) pss_nil)
      (pss_cons (ps_if (pt_cmpR op_gt (pe_op op_add (pe_callB call_len_str (by rfl) T.m_len PySem.boot_len (pa_cons (pe_join pe_str (pv 0)) pa_nil)) (pv 2)) (pe_glob (v := .int 40) rfl T.m_LONGEST_PATTERN ⟨_, rfl⟩) (nomark _)) (pss_one (ps_raise rfl (takes_of rfl rfl rfl rfl) (Mo.pmkG T.xTooLarge.ov T.xTooLarge.iC T.xTooLarge.tI GInitTooLarge hr T.bInitTooLarge pass0 (by rfl) T.eTooLarge (pa_cons (pe_glob (v := .int 40) rfl T.m_LONGEST_PATTERN ⟨_, rfl⟩) pa_nil)))) pss_nil)
      (pss_cons (ps_set (i := 3) scJoined.nd rfl (Or.inl rfl) (pe_op op_cat (pe_slice sl_list (pe_lc (own := [("name", 4)]) (g := gName 4) rfl scJoined.nd (pi_str (pe_glob (v := .str "abcdefghijklmnopqrstuvwxyz") rfl T.m_VARIABLES ⟨_, rfl⟩)) (blkOk_by (N := ["formula", "names", "gaps", "between", "name", "fragment"]) (sc := defScope sJoined) (by decide +kernel)) (fun _ _ _ _ _ => pg_name (i := 4) scJoined.nd rfl (Or.inl rfl)) (fun _ _ _ _ _ => pts_one (pt_cmpR (Mo.op_notIn_seqK (K := K) rfl) (pv 4) (pv 1) rfl)) (fun _ _ _ _ _ => (pv 4))) po_none (po_some (pv 2))) (pe_lst (pa_cons pe_str pa_nil))))
      (pss_one (ps_ret (pe_join pe_str (pe_lc (own := [("fragment", 5), ("name", 4)]) (g := gTup K 2 (gCons (gName 5) (gCons (gName 4) gNil))) (tt := tYes) rfl scJoined.nd (Mo.pi_zipB (K := K) rfl (by rfl) T.m_zip (pa_cons (pv 0) (pa_cons (pv 3) pa_nil))) (blkOk_by (N := ["formula", "names", "gaps", "between", "name", "fragment"]) (sc := defScope sJoined) (by decide +kernel)) (fun _ _ _ _ _ => Mo.pg_tupK (K := K) rfl rfl (pgs_cons (pg_name (i := 5) scJoined.nd rfl (Or.inl rfl)) (pgs_cons (pg_name (i := 4) scJoined.nd rfl (Or.inl rfl)) pgs_nil))) (fun _ _ _ _ _ => pts_nil) (fun _ _ _ _ _ => (pe_op op_add_str (pv 5) (pv 4))))))))))))), ?_⟩
    have hl := ok.len
    have hfl := ok.flat
    have hfw := ok.few
    refine ⟨_, rfl, a, f, b, rfl, ha, ok, fun H1 s1 => ?_⟩
    have ha1 : FAt H1 a f b := s1 _ _ ha
    refine ⟨_, rfl, a, f, b, rfl, ha1, by omega, by omega, fun H2 n ns s2 nn hn hm hnl => ?_⟩
    have ha2 : FAt H2 a f b := s2 _ _ ha1
    have s12 := s1.trans s2
    refine ⟨_, rfl, a, _, rfl, ha2.sq, _, _, rfl, rfl, _, _, rfl, ?_⟩
    rw [tss_len, max_gap]
    refine ⟨_, rfl, n, _, rfl, .inl (SqL.of hn), _, rfl, _, _, rfl, rfl, _, _, rfl, rfl, decide (8 < (met f.flatten).length + gapsF f), congrArg V.bl (decide_eq_decide.mpr (by rw [List.length_map, hnl]; unfold gapsF; omega)), ?_⟩
    by_cases c1 : 8 < (met f.flatten).length + gapsF f
    · rw [decide_eq_true c1]
      exact iteT (err_read fun dd H' nd s3 hdx => q1 c1 dd H' (s12.free nd) (s12.trans s3) hdx)
    rw [decide_eq_false c1]
    refine iteF ?_
    refine ⟨⟨_, rfl⟩, _, rfl, _, a, _, rfl, rfl, ha2.sqx, texts_room (by omega), ?_⟩
    rw [join_texts]
    refine ⟨_, rfl, by rw [tx_len]; exact fits5 (by omega), _, rfl, _, _, rfl, rfl, _, _, rfl, rfl, decide (40 < f.flatten.length + gapsF f), congrArg V.bl (decide_eq_decide.mpr (by rw [tx_len]; unfold gapsF; omega)), ?_⟩
    by_cases c2 : 40 < f.flatten.length + gapsF f
    · rw [decide_eq_true c2]
      exact iteT (err_read fun dd H' nd s3 hdx => q2 c1 c2 dd H' (s12.free nd) (s12.trans s3) hdx)
    rw [decide_eq_false c2]
    refine iteF ?_
    have fl := fresh_len (f := f) (by omega)
    -- between
    refine ⟨_, rfl, fun D nD => lc_it walk_str (fun i H' => Same H2 H' ∧ H' D = some (.lst (((lett.take i).filter fun c => !decide (c ∈ f.flatten)).map sg))) ?_ ?_ ?_ ?_⟩
    · exact ⟨same_new nD, upd_same⟩
    · exact fun _ _ _ _ => trivial
    · rintro i x H3 H4 hi ⟨s3, hD⟩ ⟨rfl, c, hc, rfl⟩
      have hc2 : lett[i]? = some c := by
        rw [lett_tx, tx_get] at hc
        exact hc
      have et : ((lett.take (i + 1)).filter fun c => !decide (c ∈ f.flatten)) = ((lett.take i).filter fun c => !decide (c ∈ f.flatten)) ++ ([c].filter fun c => !decide (c ∈ f.flatten)) := by
        rw [List.take_add_one, hc2, List.filter_append]
        rfl
      have hlf := List.length_filter_le (fun c => !decide (c ∈ f.flatten)) (lett.take i)
      have hl2 : (lett.take i).length ≤ 26 := List.length_take_le' ..
      refine ⟨rfl, _, rfl, _, rfl, n, _, rfl, .inl (SqL.of (s3 _ _ hn)), rfl, flat_sg ns, !decide (c ∈ f.flatten), congrArg V.bl ?_, ?_⟩
      · show (!inV (sg c) (ns.map sg)) = _
        rw [inV_sg, decide_eq_decide.mpr (hm c)]
      · by_cases g : c ∈ f.flatten
        · rw [decide_eq_true g]
          refine iteF ⟨s3, ?_⟩
          rw [et, List.filter_cons_of_neg (by simp [g]), List.filter_nil, List.append_nil]
          exact hD
        · rw [decide_eq_false g]
          refine iteT ⟨_, rfl, _, hD, fitsLt (by rw [List.length_map]; omega), Same.put s3 nD, ?_⟩
          rw [upd_same, et, List.filter_cons_of_pos (by simp [g]), List.filter_nil, List.map_append]
          rfl
    · rintro H3 ⟨s3, hD⟩
      rw [lett_tx, tx_size, List.take_length] at hD
      have hD2 : H3 D = some (.lst ((freeF f).map sg)) := hD
      refine ⟨_, rfl, _, rfl, D, _, rfl, SqL.of hD2, fun p np => ?_⟩
      have ec : cutV ((freeF f).map sg) none (some ((f.length - 1 : Nat) : Int)) = (freshF f).map sg := by
        unfold cutV freshF
        rw [HT.sIx_none, HT.sIx_nat, List.drop_zero, Nat.sub_zero, List.length_map, ← List.map_take]
        unfold gapsF
        congr 1
        by_cases e : f.length - 1 ≤ (freeF f).length
        · rw [Nat.min_eq_left e]
        · rw [Nat.min_eq_right (by omega), List.take_length, List.take_of_length_le (by omega)]
      rw [ec]
      have s4 := same_new (o := .lst ((freshF f).map sg)) np
      have hp : upd H3 p (.lst ((freshF f).map sg)) p = some (.lst ((freshF f).map sg)) := upd_same
      generalize upd H3 p (.lst ((freshF f).map sg)) = H4 at *
      refine ⟨by show 1 ≤ sizeLine; decide, fun e ne => ?_⟩
      have s5 := same_new (o := .lst [V.str (Str.ofString "")]) ne
      refine ⟨p, e, _, _, rfl, rfl, s5 _ _ hp, upd_same, fits5 (by rw [List.length_map, fl]; unfold gapsF; show _ + 1 ≤ _; omega), fun r nr => ?_⟩
      rw [bet_eq]
      obtain ⟨bt, hbt⟩ : ∃ bt, bt = (List.range ((freshF f).length + 1)).map (behind (freshF f)) := ⟨_, rfl⟩
      rw [← hbt]
      have btl : bt.length = gapsF f + 1 := by rw [hbt, List.length_map, List.length_range, fl]
      have s6 := (s3.trans s4).trans (s5.trans (same_new (o := .lst (tss bt)) nr))
      have hr6 : upd (upd H4 e (.lst [V.str (Str.ofString "")])) r (.lst (tss bt)) r = some (.lst (tss bt)) := upd_same
      generalize upd (upd H4 e (.lst [V.str (Str.ofString "")])) r (.lst (tss bt)) = H5 at *
      have ha5 : FAt H5 a f b := s6 _ _ ha2
      have hmin : f.length = min (tss f).length (tss bt).length := by
        rw [tss_len, tss_len, btl]
        unfold gapsF
        omega
      refine ⟨⟨_, rfl⟩, _, rfl, _, rfl, a, r, tss f, tss bt, b, rfl, ha5, hr6, fun D2 nD2 => lc_it (walk_zipB (xs := tss f) (ys := tss bt) hmin) (fun i H' => Same H5 H' ∧ H' D2 = some (.lst (tss ((List.range i).map fun k => (f[k]?).getD [] ++ behind (freshF f) k)))) ?_ ?_ ?_ ?_⟩
      · exact ⟨same_new nD2, upd_same⟩
      · exact fun i H' _ h => ⟨h.1 _ _ ha5, h.1 _ _ hr6⟩
      · rintro i x H6 H7 hi ⟨s7, hD⟩ ⟨T0, y1, y2, rfl, nT, rfl, hx, hy⟩
        unfold tss at hx hy
        dsimp only at hx hy
        rw [List.getElem?_map] at hx hy
        obtain ⟨u, hu, rfl⟩ := Option.map_eq_some_iff.mp hx
        obtain ⟨v, hv, rfl⟩ := Option.map_eq_some_iff.mp hy
        have ev : v = behind (freshF f) i := by
          rw [hbt, List.getElem?_map, List.getElem?_range (by rw [fl]; unfold gapsF; omega)] at hv
          exact (Option.some.inj hv).symm
        subst ev
        have up := (ok.ok u (List.mem_of_getElem? hu)).len
        have bl : (behind (freshF f) i).length ≤ 1 := by
          unfold behind
          cases (freshF f)[i]? <;> simp
        have s8 := same_new (o := .tup [V.str (tx u), V.str (tx (behind (freshF f) i))]) nT
        refine ⟨T0, _, rfl, SqT.of upd_same, rfl, _, _, rfl, _, _, rfl, rfl, rfl, _, rfl, _, rfl, _, _, rfl, rfl, fits5 (by rw [tx_len, tx_len]; omega), ?_⟩
        rw [tx_app]
        refine ⟨_, s8 _ _ hD, fitsLt (by rw [tss_len, List.length_map, List.length_range]; omega), Same.put (s7.trans s8) nD2, ?_⟩
        rw [upd_same, List.range_succ, List.map_append, ← tss_app, List.map_cons, List.map_nil, hu]
        rfl
      · rintro H6 ⟨s7, hD⟩
        rw [tss_strs] at hD
        have hj : ((List.range f.length).map fun k => (f[k]?).getD [] ++ behind (freshF f) k).flatten = patT (freshF f) f f.length := join_all fl
        have hpl := pat_len_all fl
        refine ⟨_, D2, _, rfl, rfl, .inl (SqL.of hD), texts_room (by rw [hj]; omega), ?_⟩
        rw [join_texts, hj]
        exact q3 c1 c2 H6 ((s12.trans s6).trans s7)
end
end Mo

namespace Mo
open PySem PySem.Spec PyProof.Rows L2
/-! ### normal forms, over lists of codes -/
theorem idx_ne {a c : Nat} (r : List Nat) (h : a ≠ c) : (a :: r).idxOf c = r.idxOf c + 1 := by
  rw [List.idxOf_cons]
  have e : (a == c) = false := by simpa using h
  rw [e]
  rfl
theorem nodup_idx : ∀ (ns : List Nat) (i c : Nat), ns.Nodup → ns[i]? = some c → ns.idxOf c = i
  | [], i, c, _, h => by simp at h
  | a :: r, 0, c, _, h => by
    have e : a = c := by simpa using h
    subst e
    exact List.idxOf_cons_self
  | a :: r, i + 1, c, hn, h => by
    have h2 : r[i]? = some c := by simpa using h
    have hn2 := List.nodup_cons.mp hn
    have ne : a ≠ c := fun e => hn2.1 (e ▸ List.mem_of_getElem? h2)
    rw [idx_ne _ ne, nodup_idx r i c hn2.2 h2]
theorem idx_at {ns : List Nat} {c : Nat} (h : c ∈ ns) : ns[ns.idxOf c]? = some c := by
  have hl := List.idxOf_lt_length_of_mem h
  rw [List.getElem?_eq_getElem hl, List.getElem_idxOf hl]
/-- names.index(sign) -/
theorem index_one {ns : List Nat} (hn : ns.Nodup) {c : Nat} (hc : c ∈ ns) : ∃ rest, Builtin.Str.occurrences (tx ns) ⟨#[c]⟩ 0 (tx ns).length 1 = ns.idxOf c :: rest := by
  have h1 := StrLaws.found_one (tx ns) c
  rw [decide_eq_true (show c ∈ (tx ns).cps.toList from hc)] at h1
  cases e : Builtin.Str.occurrences (tx ns) ⟨#[c]⟩ 0 (tx ns).length 1 with
  | nil => rw [e] at h1; cases h1
  | cons i rest =>
    have h2 := StrLaws.occ_spec (tx ns) ⟨#[c]⟩ 0 (tx ns).length 1 i (by rw [e]; exact List.mem_cons_self)
    have h3 := (StrLaws.subAt_one (tx ns) c i).mp h2
    rw [nodup_idx ns i c hn h3]
    exact ⟨rest, rfl⟩
/-- the code of the sign's place in the order of first occurrence -/
def nfc (cs : List Nat) (c : Nat) : Nat := 97 + (met cs).idxOf c
def nf (cs : List Nat) : List Nat := cs.map (nfc cs)
theorem met_map_key (f : Nat → Nat) : ∀ (cs acc : List Nat), (∀ x y, x ∈ acc ++ cs → y ∈ acc ++ cs → f x = f y → x = y) → (cs.map f).foldl metStep (acc.map f) = (cs.foldl metStep acc).map f
  | [], acc, _ => rfl
  | c :: cs, acc, h => by
    rw [List.map_cons, List.foldl_cons, List.foldl_cons]
    have e : metStep (acc.map f) (f c) = (metStep acc c).map f := by
      unfold metStep
      by_cases q : c ∈ acc
      · rw [if_pos q, if_pos (List.mem_map.mpr ⟨c, q, rfl⟩)]
      · have q2 : ¬ f c ∈ acc.map f := fun z => by
          obtain ⟨x, hx, e⟩ := List.mem_map.mp z
          exact q (h x c (by simp [hx]) (by simp) e ▸ hx)
        rw [if_neg q, if_neg q2, List.map_append]
        rfl
    rw [e]
    refine met_map_key f cs (metStep acc c) fun x y hx hy => h x y ?_ ?_
    · rcases List.mem_append.mp hx with z | z
      · rcases mem_metStep.mp z with z | z
        · simp [z]
        · simp [z]
      · simp [z]
    · rcases List.mem_append.mp hy with z | z
      · rcases mem_metStep.mp z with z | z
        · simp [z]
        · simp [z]
      · simp [z]
theorem met_map {f : Nat → Nat} {cs : List Nat} (h : ∀ x y, x ∈ cs → y ∈ cs → f x = f y → x = y) : met (cs.map f) = (met cs).map f := by
  have q := met_map_key f cs [] (by simpa using h)
  exact q
theorem idx_map {f : Nat → Nat} : ∀ (ns : List Nat) (c : Nat), (∀ x, x ∈ ns → f x = f c → x = c) → (ns.map f).idxOf (f c) = ns.idxOf c
  | [], c, _ => rfl
  | a :: r, c, h => by
    rw [List.map_cons]
    by_cases e : a = c
    · subst e
      rw [List.idxOf_cons_self, List.idxOf_cons_self]
    · have e2 : f a ≠ f c := fun z => e (h a List.mem_cons_self z)
      rw [idx_ne _ e, idx_ne _ e2, idx_map r c fun x hx => h x (List.mem_cons_of_mem _ hx)]
theorem nf_map {f : Nat → Nat} {cs : List Nat} (h : ∀ x y, x ∈ cs → y ∈ cs → f x = f y → x = y) : nf (cs.map f) = nf cs := by
  unfold nf
  rw [List.map_map]
  refine List.map_congr_left fun c hc => ?_
  show nfc (cs.map f) (f c) = nfc cs c
  unfold nfc
  rw [met_map h, idx_map _ _ fun x hx e => h x c (mem_met.mp hx) hc e]
theorem nfc_inj {cs : List Nat} {x y : Nat} (hx : x ∈ cs) (hy : y ∈ cs) (e : nfc cs x = nfc cs y) : x = y := by
  unfold nfc at e
  have h1 := idx_at (mem_met.mpr hx)
  have h2 := idx_at (mem_met.mpr hy)
  rw [show (met cs).idxOf x = (met cs).idxOf y by omega] at h1
  rw [h1] at h2
  exact Option.some.inj h2
theorem nf_nf (cs : List Nat) : nf (nf cs) = nf cs := nf_map fun _ _ hx hy e => nfc_inj hx hy e
theorem nfc_lt {cs : List Nat} {c : Nat} (h : c ∈ cs) : (met cs).idxOf c < (met cs).length := List.idxOf_lt_length_of_mem (mem_met.mpr h)
/-- a pattern, as its codes -/
structure Pat (cs : List Nat) : Prop where
  len : cs.length ≤ 40
  low : Low cs
  few : (met cs).length ≤ 8
theorem Pat.nil : Pat [] := ⟨by decide, fun c h => by simp at h, by decide⟩
theorem Pat.map {f : Nat → Nat} {cs : List Nat} (p : Pat cs) (h : ∀ x y, x ∈ cs → y ∈ cs → f x = f y → x = y) (hl : ∀ c ∈ cs, 97 ≤ f c ∧ f c ≤ 122) : Pat (cs.map f) :=
  ⟨by rw [List.length_map]; exact p.len, fun x hx => by obtain ⟨c, hc, rfl⟩ := List.mem_map.mp hx; exact hl c hc, by rw [met_map h, List.length_map]; exact p.few⟩
theorem Pat.nf {cs : List Nat} (p : Pat cs) : Pat (nf cs) := p.map (fun _ _ hx hy e => nfc_inj hx hy e) fun c hc => by
  have h1 := nfc_lt hc
  have h2 := p.few
  unfold nfc
  omega
theorem repr_room {cs : List Nat} (h : Low cs) (hl : cs.length ≤ 1000) : (reprText (tx cs)).length ≤ sizeLine := by
  have h1 := StrLaws.reprText_len (tx cs) (fun c hc => by
    have := h c hc
    have h3 : (122 : Nat) < 16 ^ 8 := by decide
    omega)
  rw [tx_len] at h1
  exact fits5 (by omega)
theorem map_take_snoc {α β : Type} {f : α → β} {cs : List α} {i : Nat} {c : α} (h : cs[i]? = some c) : (cs.take (i + 1)).map f = (cs.take i).map f ++ [f c] := by
  rw [List.take_add_one, h, List.map_append]
  rfl
theorem met_take_snoc {cs : List Nat} {i c : Nat} (h : cs[i]? = some c) : met (cs.take (i + 1)) = metStep (met (cs.take i)) c := by
  rw [List.take_add_one, h]
  exact met_snoc _ _
end Mo

namespace Mo
open PySem PySem.Spec PyProof.Rows L2
section
variable {P : Program} {w : World} {K : PySem.W.Frag} {mg : Str → Option Value} {base : Heap}
def spDist : Sp := fun vs H Q _ => ∃ cs : List Nat, vs = [.str (tx cs)] ∧ cs.length ≤ 1000 ∧ Q (.str (tx (met cs))) H
theorem ok_dist {k : Nat} (T : Txt K mg) : FnOk P w K mg base CX0 (k + 1) T.aLDistinct T.dLDistinct ["_law_string"] spDist := by
  refine T.fLDistinct.ok scLDistinct (fun vs H Q E h => ?_) (fun cdv A outer s H vs Q E hr h => ?_)
  · obtain ⟨cs, rfl, _⟩ := h
    rfl
  · obtain ⟨cs, rfl, hlen, q⟩ := h
    refine ⟨_, (pss_cons (ps_set (i := 1) scLDistinct.nd rfl (Or.inl rfl) pe_str)
      (pss_cons (ps_for PassesOwn.never rfl (pi_str (pv 0)) (pg_name (i := 2) scLDistinct.nd rfl (Or.inl rfl)) (pss_one (ps_if (pt_cmpR op_notIn_sign (pv 2) (pv 1) rfl) (pss_one (ps_set (i := 1) scLDistinct.nd rfl (Or.inl rfl) (pe_op op_add_str (pv 1) (pv 2)))) pss_nil)))
      (pss_one (ps_ret (pv 1))))), ?_⟩
    refine ⟨_, rfl, tx cs, rfl, for_it walk_str (fun i σ H' => ∃ o, σ = [some (.str (tx cs)), some (.str (tx (met (cs.take i)))), o] ∧ H' = H) ?_ ?_ ?_ ?_⟩
    · exact ⟨none, by rw [List.take_zero, show met [] = [] from rfl, ← tx_nil]; rfl, rfl⟩
    · exact fun _ _ _ _ _ => trivial
    · rintro i x σ H2 H3 hi ⟨o, rfl, rfl⟩ ⟨rfl, c, hc, rfl⟩
      rw [tx_get] at hc
      have hlt : i < cs.length := (List.getElem?_eq_some_iff.mp hc).1
      have hm := met_length_le (cs.take i)
      rw [List.length_take] at hm
      refine ⟨_, rfl, _, rfl, c, _, rfl, rfl, decide (c ∉ met (cs.take i)), ?_, ?_⟩
      · exact congrArg V.bl (by rw [tx_list]; simp)
      · by_cases nc : c ∈ met (cs.take i)
        · rw [decide_eq_false (fun z => z nc)]
          exact iteF ⟨_, by rw [met_take_snoc hc, metStep, if_pos nc]; rfl, rfl⟩
        · rw [decide_eq_true nc]
          refine iteT ⟨_, rfl, _, rfl, tx (met (cs.take i)), ⟨#[c]⟩, rfl, rfl, fits5 (by rw [tx_len]; show _ + 1 ≤ _; omega), ?_⟩
          rw [tx_app1]
          exact ⟨_, by rw [met_take_snoc hc, metStep, if_neg nc]; rfl, rfl⟩
    · rintro σ H2 ⟨o, rfl, rfl⟩
      rw [List.take_of_length_le (by rw [tx_size]; exact Nat.le_refl _)]
      exact ⟨_, rfl, q⟩
theorem gap_max (n : Nat) : (if (n : Int) - 1 > (0 : Int) then (n : Int) - 1 else (0 : Int)) = ((n - 1 : Nat) : Int) := by
  split <;> omega
theorem cut_fresh (f : List (List Nat)) : cutV ((freeF f).map sg) none (some ((f.length - 1 : Nat) : Int)) = (freshF f).map sg := by
  unfold cutV freshF
  rw [HT.sIx_none, HT.sIx_nat, List.drop_zero, Nat.sub_zero, List.length_map, ← List.map_take]
  unfold gapsF
  congr 1
  by_cases e : f.length - 1 ≤ (freeF f).length
  · rw [Nat.min_eq_left e]
  · rw [Nat.min_eq_right (by omega), List.take_length, List.take_of_length_le (by omega)]
def spDue : Sp := fun vs H Q _ => ∃ (a : Addr) (f : List (List Nat)), vs = [.ref a] ∧ H a = some (.lst (tss f)) ∧ OkF f ∧ ∀ H', Same H H' → Q (resV f) H'
theorem ok_due {k : Nat} (T : Txt K mg) : FnOk P w K mg base CX0 (k + 2) T.aLDue T.dLDue ["_law_formula"] spDue := by
  have GLDistinct : FnOk P w K mg base CX0 (k + 1) T.aLDistinct T.dLDistinct ["_law_string"] spDist := ok_dist T
  refine T.fLDue.ok scLDue (fun vs H Q E h => ?_) (fun cdv A outer s H vs Q E hr h => ?_)
  · obtain ⟨a, f, rfl, _⟩ := h
    rfl
  · obtain ⟨a, f, rfl, ha, ok, q⟩ := h
    refine ⟨_, (pss_cons (ps_set (i := 1) scLDue.nd rfl (Or.inr rfl) (pe_call GLDistinct hr (by rfl) T.gLDistinct T.fLDistinct.kp T.bLDistinct .nil pass0 (pa_cons (pe_join pe_str (pv 0)) pa_nil)))
      (pss_cons (ps_setLc (i := 2) (own := [("_law_sign", 3)]) (g := gName 3) rfl scLDue.nd rfl rfl (sw_true rfl rfl rfl (by decide +kernel)) (pi_str pe_str) (blkOk_by (N := ["_law_formula", "_law_used", "_law_unused", "_law_sign", "_law_fresh", "_law_pattern", "_law_k", "_law_part"]) (sc := defScope sLDue) (by decide +kernel)) (fun _ _ _ _ _ => pg_name (i := 3) scLDue.nd rfl (Or.inl rfl)) (fun _ _ _ _ _ => pts_one (pt_cmpR op_notIn_sign (pv 3) (pv 1) rfl)) (fun _ _ _ _ _ => (pv 3)))
      (pss_cons (ps_set (i := 4) scLDue.nd rfl (Or.inl rfl) (pe_slice sl_list (pv 2) po_none (po_some (pe_callB (call_max2 rfl) (by rfl) T.m_max (by decide +kernel) (pa_cons pe_int (pa_cons (pe_op op_sub (pe_callB call_len_seq (by rfl) T.m_len PySem.boot_len (pa_cons (pv 0) pa_nil)) pe_int) pa_nil))))))
      (pss_cons (ps_if (pt_cmpR op_gt (pe_op op_add (pe_callB call_len_str (by rfl) T.m_len PySem.boot_len (pa_cons (pv 1) pa_nil)) (pe_callB (call_max2 rfl) (by rfl) T.m_max (by decide +kernel) (pa_cons pe_int (pa_cons (pe_op op_sub (pe_callB call_len_seq (by rfl) T.m_len PySem.boot_len (pa_cons (pv 0) pa_nil)) pe_int) pa_nil)))) pe_int (nomark _)) (pss_one (ps_ret pe_int)) pss_nil)
      (pss_cons (ps_set (i := 5) scLDue.nd rfl (Or.inl rfl) pe_str)
      (pss_cons (ps_for PassesOwn.never rfl (pi_enum (by rfl) T.m_enumerate (pa_cons (pv 0) pa_nil)) (pg_tup rfl (pgs_cons (pg_name (i := 6) scLDue.nd rfl (Or.inl rfl)) (pgs_cons (pg_name (i := 7) scLDue.nd rfl (Or.inl rfl)) pgs_nil))) (pss_one (ps_set (i := 5) scLDue.nd rfl (Or.inl rfl) (pe_op op_add_str (pe_op op_add_str (pv 5) (pe_ifExp (pt_cmpR op_gt (pv 6) pe_int (nomark _)) (pe_ix ix_list (pv 4) (pe_op op_sub (pv 6) pe_int) (fun _ _ => rfl)) pe_str)) (pv 7)))))
      (pss_one (ps_ret (pe_ifExp (pt_cmpR op_gt (pe_callB call_len_str (by rfl) T.m_len PySem.boot_len (pa_cons (pv 5) pa_nil)) pe_int (nomark _)) pe_int (pv 5)))))))))), ?_⟩
    have hl := ok.len
    have hfl := ok.flat
    have hfw := ok.few
    have hax : SqL K H a ((f.map tx).map V.str) := by
      rw [← tss_strs]
      exact SqL.of ha
    refine ⟨⟨_, rfl⟩, _, rfl, _, a, _, rfl, rfl, .inl hax, texts_room (by omega), ?_⟩
    rw [join_texts]
    refine ⟨f.flatten, rfl, by omega, ?_⟩
    refine ⟨_, rfl, fun D nD => lc_it walk_str (fun i H' => Same H H' ∧ H' D = some (.lst (((lett.take i).filter fun c => !decide (c ∈ f.flatten)).map sg))) ?_ ?_ ?_ ?_⟩
    · exact ⟨same_new nD, upd_same⟩
    · exact fun _ _ _ _ => trivial
    · rintro i x H3 H4 hi ⟨s3, hD⟩ ⟨rfl, c, hc, rfl⟩
      have hc2 : lett[i]? = some c := by
        rw [lett_tx, tx_get] at hc
        exact hc
      have et : ((lett.take (i + 1)).filter fun c => !decide (c ∈ f.flatten)) = ((lett.take i).filter fun c => !decide (c ∈ f.flatten)) ++ ([c].filter fun c => !decide (c ∈ f.flatten)) := by
        rw [List.take_add_one, hc2, List.filter_append]
        rfl
      have hlf := List.length_filter_le (fun c => !decide (c ∈ f.flatten)) (lett.take i)
      have hl2 : (lett.take i).length ≤ 26 := List.length_take_le' ..
      refine ⟨rfl, _, rfl, _, rfl, c, _, rfl, rfl, !decide (c ∈ f.flatten), congrArg V.bl (by rw [tx_list]; simp [mem_met]), ?_⟩
      by_cases g : c ∈ f.flatten
      · rw [decide_eq_true g]
        refine iteF ⟨s3, ?_⟩
        rw [et, List.filter_cons_of_neg (by simp [g]), List.filter_nil, List.append_nil]
        exact hD
      · rw [decide_eq_false g]
        refine iteT ⟨_, rfl, _, hD, fitsLt (by rw [List.length_map]; omega), Same.put s3 nD, ?_⟩
        rw [upd_same, et, List.filter_cons_of_pos (by simp [g]), List.filter_nil, List.map_append]
        rfl
    · rintro H3 ⟨s3, hD⟩
      rw [lett_tx, tx_size, List.take_length] at hD
      have hD2 : H3 D = some (.lst ((freeF f).map sg)) := hD
      have ha3 := s3 _ _ ha
      refine ⟨_, rfl, _, rfl, a, _, rfl, .inl (SqL.of ha3), _, _, rfl, rfl, _, _, rfl, _, rfl, D, _, rfl, SqL.of hD2, fun p np => ?_⟩
      rw [tss_len, gap_max, cut_fresh]
      have s4 := s3.trans (same_new (o := .lst ((freshF f).map sg)) np)
      have hp : upd H3 p (.lst ((freshF f).map sg)) p = some (.lst ((freshF f).map sg)) := upd_same
      generalize upd H3 p (.lst ((freshF f).map sg)) = H4 at *
      have ha4 := s4 _ _ ha
      have hml := met_length_le f.flatten
      refine ⟨_, rfl, _, rfl, by rw [tx_len]; exact fits5 (by omega), _, rfl, a, _, rfl, .inl (SqL.of ha4), _, _, rfl, rfl, _, _, rfl, ?_⟩
      rw [tss_len, gap_max, tx_len]
      refine ⟨_, _, rfl, rfl, _, _, rfl, rfl, decide (8 < (met f.flatten).length + gapsF f), congrArg V.bl (decide_eq_decide.mpr (by unfold gapsF; omega)), ?_⟩
      by_cases c1 : 8 < (met f.flatten).length + gapsF f
      · rw [decide_eq_true c1]
        refine iteT ?_
        have q0 := q H4 s4
        unfold resV at q0
        rw [if_pos c1] at q0
        exact q0
      rw [decide_eq_false c1]
      refine iteF ?_
      have fl := fresh_len (f := f) (by omega)
      clear s3 hD hD2 ha3 nD np
      have plen : ∀ i, i ≤ f.length → (patT (freshF f) f i).length ≤ 900 := fun i hi => by
        rw [pat_len fl i hi]
        have h1 : (f.take i).flatten.length ≤ f.flatten.length := by
          have e := congrArg (fun l : List (List Nat) => l.flatten.length) (List.take_append_drop i f)
          simp only [List.flatten_append, List.length_append] at e
          omega
        omega
      refine ⟨_, rfl, a, _, rfl, SqL.of ha4, for_it (walk_enum (xs := tss f)) (fun i σ H' => ∃ (o3 o6 o7 : Option V), σ = [some (.ref a), some (.str (tx (met f.flatten))), some (.ref D), o3, some (.ref p), some (.str (tx (patT (freshF f) f i))), o6, o7] ∧ Same H4 H') ?_ ?_ ?_ ?_⟩
      · exact ⟨_, _, _, rfl, Same.refl _⟩
      · rintro i σ H' _ ⟨_, _, _, _, h⟩
        exact SqL.of (h _ _ ha4)
      · rintro i x σ H5 H6 hi ⟨o3, o6, o7, rfl, s5⟩ ⟨T0, y1, y2, rfl, nT, rfl, hk, hx⟩
        rw [tss_len] at hi
        unfold tss at hx
        dsimp only at hx hk
        rw [List.getElem?_map] at hx
        obtain ⟨u, hu, rfl⟩ := Option.map_eq_some_iff.mp hx
        cases hk
        have up := (ok.ok u (List.mem_of_getElem? hu)).len
        have hpl := plen i (by omega)
        have s6 := s5.trans (same_new (o := .tup [V.int (i : Nat), V.str (tx u)]) nT)
        have nxt : patT (freshF f) f (i + 1) = patT (freshF f) f i ++ ahead (freshF f) i ++ u := by
          rw [patT_succ, hu, List.append_assoc]
          rfl
        refine ⟨T0, _, rfl, SqT.of upd_same, rfl, _, _, rfl, _, _, rfl, rfl, ?_⟩
        refine ⟨_, rfl, _, rfl, _, _, rfl, rfl, decide (0 < i), congrArg V.bl (decide_eq_decide.mpr (by omega)), ?_⟩
        by_cases z : 0 < i
        · rw [decide_eq_true z]
          have hj : i - 1 < (freshF f).length := by
            rw [fl]
            unfold gapsF
            omega
          have ea : ahead (freshF f) i = [(freshF f)[i - 1]] := by
            unfold ahead behind
            rw [if_pos z, List.getElem?_eq_getElem hj]
            rfl
          refine iteT ⟨_, rfl, _, rfl, _, _, rfl, rfl, p, _, ((i - 1 : Nat) : Int), sg ((freshF f)[i - 1]), rfl, congrArg V.int (by omega), SqL.of (s6 _ _ hp), ?_, ?_⟩
          · refine atI_nat ?_
            rw [List.getElem?_map, List.getElem?_eq_getElem hj]
            rfl
          · refine ⟨tx (patT (freshF f) f i), ⟨#[(freshF f)[i - 1]]⟩, rfl, rfl, fits5 (by rw [tx_len]; show _ + 1 ≤ _; omega), _, rfl, ?_⟩
            rw [tx_app1]
            refine ⟨_, _, rfl, rfl, fits5 (by rw [tx_len, tx_len, List.length_append, List.length_singleton]; omega), ?_⟩
            rw [tx_app, ← ea, ← nxt]
            exact ⟨_, _, _, rfl, s6⟩
        · rw [decide_eq_false z]
          have ea : ahead (freshF f) i = [] := if_neg z
          refine iteF ⟨tx (patT (freshF f) f i), tx [], rfl, congrArg V.str tx_nil, fits5 (by rw [tx_len, tx_len]; show _ + 0 ≤ _; omega), _, rfl, ?_⟩
          rw [tx_app]
          refine ⟨_, _, rfl, rfl, fits5 (by rw [tx_len, tx_len, List.length_append, List.length_nil]; omega), ?_⟩
          rw [tx_app, ← ea, ← nxt]
          exact ⟨_, _, _, rfl, s6⟩
      · rintro σ H5 ⟨o3, o6, o7, rfl, s5⟩
        rw [tss_len] at *
        have hpl := pat_len_all fl
        refine ⟨_, rfl, _, rfl, by rw [tx_len]; exact fits5 (by omega), _, _, rfl, rfl, decide (40 < f.flatten.length + gapsF f), congrArg V.bl (decide_eq_decide.mpr (by rw [tx_len]; omega)), ?_⟩
        have q0 := q H5 (s4.trans s5)
        unfold resV at q0
        rw [if_neg c1] at q0
        by_cases c2 : 40 < f.flatten.length + gapsF f
        · rw [decide_eq_true c2]
          rw [if_pos c2] at q0
          exact iteT q0
        · rw [decide_eq_false c2]
          rw [if_neg c2] at q0
          exact iteF ⟨_, rfl, q0⟩
def spAct : Sp := fun vs H Q _ => ∃ (a : Addr) (f : List (List Nat)) (b : Bool), vs = [.ref a] ∧ FAt H a f b ∧ OkF f ∧ ∀ H', Same H H' → Q (resV f) H'
theorem ok_act {k : Nat} (T : Txt K mg) : FnOk P w K mg base CX0 (k + 6) T.aLActual T.dLActual ["_law_formula"] spAct := by
  have GJoined : FnOk P w K mg base (L2.CX P w) (k + 5) T.aJoined T.dJoined ["formula"] (spJoin T.cTooLarge) := ok_join T
  refine T.fLActual.ok scLActual (fun vs H Q E h => ?_) (fun cdv A outer s H vs Q E hr h => ?_)
  · obtain ⟨a, f, b, rfl, _⟩ := h
    rfl
  · obtain ⟨a, f, b, rfl, ha, ok, q⟩ := h
    refine ⟨_, (pss_cons (ps_asg (pe_tup (pa_cons pe_non (pa_cons pe_non pa_nil))) (pg_tup (by rfl) (pgs_cons (pg_name (i := 1) scLActual.nd rfl (Or.inl rfl)) (pgs_cons (pg_name (i := 2) scLActual.nd rfl (Or.inl rfl)) pgs_nil))))
      (pss_cons (Mo.ps_try_keep (i := 3) (j := 1) rfl rfl scLActual.nd rfl rfl rfl rfl ⟨rfl, by decide, Or.inl T.eTooLarge⟩ takes0 (fun W pn xe tk _ => (pss_one (ps_set (i := 2) scLActual.nd rfl (Or.inl rfl) (pe_callS GJoined hr rfl T.gJoined T.fJoined.kp T.bJoined (fun σ => passAt tk σ) (pa_cons (pv 0) pa_nil))))) (fun a oe pn => pss_one (ps_set (i := 1) scLActual.nd rfl (Or.inl rfl) (pv 3))))
      (pss_cons (ps_if (pt_cmpR op_isN (pv 1) pe_non (nomark _)) (pss_one (ps_ret (pv 2))) pss_nil)
      (pss_one (ps_ret (pe_ifExp (pt_val (pe_callB Mo.cr_isX (by rfl) T.m_isinstance (by decide +kernel) (pa_cons (pv 1) (pa_cons (pe_bltn (v := .ty "OverflowError") (by rfl) T.m_OverflowError (by decide +kernel) rfl) pa_nil)))) (Mo.pe_xv (pv 1)) pe_str)))))), ?_⟩
    refine ⟨by show 2 ≤ sizeLine; decide, fun tp ntp => ?_⟩
    have s0 := same_new (o := .tup [V.non, V.non]) ntp
    have ha0 : FAt (upd H tp (.tup [V.non, V.non])) a f b := s0 _ _ ha
    refine ⟨tp, _, rfl, SqT.of upd_same, rfl, _, _, rfl, _, _, rfl, rfl, ?_⟩
    generalize upd H tp (.tup [V.non, V.non]) = H0 at *
    refine ⟨_, rfl, a, f, b, rfl, ha0, ok, fun c1 dd H1 nd s1 hdx => ⟨true, T.xTooLarge.te, fun _ e ne => ?_, fun z => nomatch z⟩, fun c1 c2 dd H1 nd s1 hdx => ⟨true, T.xTooLarge.te, fun _ e ne => ?_, fun z => nomatch z⟩, fun c1 c2 H1 s1 => ?_⟩
    · have nde : dd ≠ e := ne_of_none hdx ne
      have s2 := same_new (o := exV e (.ref T.cTooLarge) (some dd)) ne
      have er : ErrAt (upd H1 e (exV e (.ref T.cTooLarge) (some dd))) e T.cTooLarge dd [("limit", .int 8)] := ⟨upd_same, s2 _ _ hdx⟩
      refine ⟨_, rfl, rfl, false, congrArg V.bl (decide_eq_false (fun z => by cases z)), iteF ?_⟩
      refine ⟨_, rfl, e, T.cTooLarge, dd, _, .ty "OverflowError", .type "OverflowError", true, rfl, er, T.xTooLarge.exc, .ty _, T.oTooLargeOverflowError, true, rfl, iteT ?_⟩
      refine ⟨_, rfl, e, T.cTooLarge, dd, _, .int 8, rfl, er, T.xTooLarge.xf, T.xTooLarge.no, by simp [List.lookup], ?_⟩
      have q0 := q _ ((s0.trans s1).trans s2)
      unfold resV at q0
      rw [if_pos c1] at q0
      exact q0
    · have nde : dd ≠ e := ne_of_none hdx ne
      have s2 := same_new (o := exV e (.ref T.cTooLarge) (some dd)) ne
      have er : ErrAt (upd H1 e (exV e (.ref T.cTooLarge) (some dd))) e T.cTooLarge dd [("limit", .int 40)] := ⟨upd_same, s2 _ _ hdx⟩
      refine ⟨_, rfl, rfl, false, congrArg V.bl (decide_eq_false (fun z => by cases z)), iteF ?_⟩
      refine ⟨_, rfl, e, T.cTooLarge, dd, _, .ty "OverflowError", .type "OverflowError", true, rfl, er, T.xTooLarge.exc, .ty _, T.oTooLargeOverflowError, true, rfl, iteT ?_⟩
      refine ⟨_, rfl, e, T.cTooLarge, dd, _, .int 40, rfl, er, T.xTooLarge.xf, T.xTooLarge.no, by simp [List.lookup], ?_⟩
      have q0 := q _ ((s0.trans s1).trans s2)
      unfold resV at q0
      rw [if_neg c1, if_pos c2] at q0
      exact q0
    · refine ⟨_, rfl, rfl, true, congrArg V.bl (decide_eq_true rfl), iteT ⟨_, rfl, ?_⟩⟩
      have q0 := q H1 (s0.trans s1)
      unfold resV at q0
      rw [if_neg c1, if_neg c2] at q0
      exact q0
end
end Mo

namespace Mo
open PySem PySem.Spec PyProof.Rows L2
theorem fit_int {i : Int} (h : i.natAbs < 10 ^ 20) : Fit 20 1 0 (.int i) := fitI h (by decide)
theorem fit_st {cs : List Nat} (h : ∀ c ∈ cs, c < 128) (hl : cs.length ≤ 1000) : Fit 1 1000 0 (.str (tx cs)) := ⟨by simp only [okD]; exact h, by simp only [PyData.bulk]; rw [tx_size]; exact hl, by simp only [PyData.depth]; exact Nat.zero_le _⟩
theorem fitA_nil : FitAll 20 1 1 [] := ⟨by simp [okAll], by simp [PyData.bulkAll], by simp [PyData.depthAll]⟩
theorem fitA_cons {W V : Nat} {d : PyData} {ds : List PyData} (h : Fit 20 W 1 d) (g : FitAll 20 V 1 ds) : FitAll 20 (W + 1 + V) 1 (d :: ds) := FitAll.app (a := [d]) h.one g
theorem low128 {u : List Nat} (h : ∀ c ∈ u, c ∈ lett) : ∀ c ∈ u, c < 128 := fun c hc => by
  have := lett_low (h c hc)
  omega
theorem tss_dx {H : Hp} : ∀ l : List (List Nat), DxAll (fun _ => False) H (tss l) (l.map fun u => PyData.str (tx u))
  | [] => .nil
  | u :: l => .cons (.str _) (tss_dx l)
theorem tss_fit : ∀ {l : List (List Nat)}, (∀ q ∈ l, OkP q) → FitAll 20 (1 + 1001 * l.length) 1 (l.map fun u => PyData.str (tx u))
  | [], _ => fitA_nil
  | u :: l, h => by
    have ih := tss_fit (l := l) fun q hq => h q (List.mem_cons_of_mem _ hq)
    have h1 := h u List.mem_cons_self
    have := h1.len
    exact (fitA_cons ((fit_st (low128 h1.low) (by omega)).mono (by decide) (Nat.le_refl _) (by decide)) ih).mono (Nat.le_refl _) (by rw [List.length_cons]; omega) (Nat.le_refl _)
/-- the data of a formula, a list or a tuple -/
def gD (f : List (List Nat)) : Bool → PyData
  | true => .tuple (f.map fun u => PyData.str (tx u))
  | false => .list (f.map fun u => PyData.str (tx u))
theorem gD_dx {H : Hp} {g : Addr} {f : List (List Nat)} {b : Bool} (h : FAt H g f b) : Dx (fun _ => False) H (.ref g) (gD f b) := by
  cases b
  · exact .lst h (fun z => z) (tss_dx _)
  · exact .tup h (fun z => z) (tss_dx _)
theorem gD_fit {f : List (List Nat)} (ok : OkF f) (b : Bool) : Fit 20 30000 2 (gD f b) := by
  have h := (tss_fit ok.ok).mono (Nat.le_refl 20) (show 1 + 1001 * f.length ≤ 30000 by have := ok.len; omega) (Nat.le_refl 1)
  cases b
  · exact FitAll.lst h
  · exact FitAll.tup h
/-- the data of an answer -/
def resD (f : List (List Nat)) : PyData := if 8 < (met f.flatten).length + gapsF f then .int 8 else if 40 < f.flatten.length + gapsF f then .int 40 else .str (tx (patT (freshF f) f f.length))
theorem res_dx {H : Hp} (f : List (List Nat)) : Dx (fun _ => False) H (resV f) (resD f) := by
  unfold resV resD
  split
  · exact .int 8
  · split
    · exact .int 40
    · exact .str _
theorem pat_low {f : List (List Nat)} (ok : OkF f) (i : Nat) : ∀ c ∈ patT (freshF f) f i, c ∈ lett := fun c hc => by
  unfold patT at hc
  obtain ⟨l, hl, hc⟩ := List.mem_flatten.mp hc
  obtain ⟨k, _, rfl⟩ := List.mem_map.mp hl
  rcases List.mem_append.mp hc with z | z
  · unfold ahead behind at z
    split at z
    · have hm : c ∈ freshF f := by
        cases e : (freshF f)[k - 1]? with
        | none => rw [e] at z; cases z
        | some x =>
          rw [e] at z
          rw [List.mem_singleton.mp z]
          exact List.mem_of_getElem? e
      exact (List.mem_filter.mp (List.mem_of_mem_take hm)).1
    · cases z
  · cases e : f[k]? with
    | none => rw [e] at z; cases z
    | some u =>
      rw [e] at z
      exact (ok.ok u (List.mem_of_getElem? e)).low c z
theorem res_fit {f : List (List Nat)} (ok : OkF f) : Fit 20 1000 1 (resD f) := by
  unfold resD
  split
  · exact (fit_int (by decide)).mono (by decide) (by decide) (by decide)
  · split
    · exact (fit_int (by decide)).mono (by decide) (by decide) (by decide)
    · rename_i h1 h2
      refine (fit_st (low128 (pat_low ok _)) ?_).mono (by decide) (by decide) (by decide)
      rw [pat_len_all (fresh_len (by omega))]
      omega
/-- formulas stand in lists -/
structure FmsAt (H : Hp) (ps : List Addr) (fs : List (List (List Nat))) : Prop where
  len : ps.length = fs.length
  el : ∀ (k : Nat) (p : Addr) (f : List (List Nat)), ps[k]? = some p → fs[k]? = some f → H p = some (.lst (tss f))
theorem FmsAt.by {H H' : Hp} {ps : List Addr} {fs : List (List (List Nat))} (h : FmsAt H ps fs) (s : ∀ p ∈ ps, ∀ xs, H p = some (.lst xs) → H' p = some (.lst xs)) : FmsAt H' ps fs :=
  ⟨h.len, fun k p f a b => s p (List.mem_of_getElem? a) _ (h.el k p f a b)⟩
theorem FmsAt.same {H H' : Hp} {ps : List Addr} {fs : List (List (List Nat))} (h : FmsAt H ps fs) (s : Same H H') : FmsAt H' ps fs := h.by fun p _ xs e => s p _ e
theorem FmsAt.but {H H' : Hp} {d : Addr} {kvs : List (Key × V)} {ps : List Addr} {fs : List (List (List Nat))} (h : FmsAt H ps fs) (hd : H d = some (.dK kvs)) (s : But d H H') : FmsAt H' ps fs := h.by fun p _ xs e => s p _ (ne_of e hd (fun z => nomatch z)) e
theorem FmsAt.add {H : Hp} {ps : List Addr} {fs : List (List (List Nat))} {p : Addr} {f : List (List Nat)} (h : FmsAt H ps fs) (hp : H p = some (.lst (tss f))) : FmsAt H (ps ++ [p]) (fs ++ [f]) := by
  refine ⟨by rw [List.length_append, List.length_append, h.len]; rfl, fun k q g a b => ?_⟩
  have hl := h.len
  by_cases e : k < ps.length
  · rw [List.getElem?_append_left e] at a
    rw [List.getElem?_append_left (by omega)] at b
    exact h.el k q g a b
  · rw [List.getElem?_append_right (by omega)] at a
    rw [List.getElem?_append_right (by omega)] at b
    have e0 : k - ps.length = 0 := by
      rcases Nat.eq_zero_or_pos (k - ps.length) with z | z
      · exact z
      · rw [List.getElem?_eq_none (by show 1 ≤ _; omega)] at a
        cases a
    rw [e0] at a
    rw [show k - fs.length = 0 by omega] at b
    cases a
    cases b
    exact hp
theorem FmsAt.new {H : Hp} {ps : List Addr} {fs : List (List (List Nat))} {p : Addr} {f : List (List Nat)} (h : FmsAt H ps fs) (np : H p = none) : FmsAt (upd H p (.lst (tss f))) (ps ++ [p]) (fs ++ [f]) := (h.same (same_new np)).add upd_same
theorem FmsAt.fresh {H : Hp} {ps : List Addr} {fs : List (List (List Nat))} (h : FmsAt H ps fs) {L : Addr} (nL : H L = none) : ∀ p ∈ ps, p ≠ L := fun p hp => by
  obtain ⟨k, hk⟩ := List.getElem?_of_mem hp
  have hlt := (List.getElem?_eq_some_iff.mp hk).1
  have hl := h.len
  exact ne_of_none (h.el k p _ hk (List.getElem?_eq_getElem (by omega))) nL
structure Sta (Hs : Hp) (d c : Addr) (H : Hp) (ps : List Addr) (fs : List (List (List Nat))) : Prop where
  sm : Same Hs H
  src : Src H d c 0
  fm : FmsAt H ps fs
theorem Sta.skip {Hs H : Hp} {d c p : Addr} {ps : List Addr} {fs : List (List (List Nat))} {o : HO} (h : Sta Hs d c H ps fs) (np : H p = none) : Sta Hs d c (upd H p o) ps fs :=
  ⟨h.sm.trans (same_new np), h.src.same (same_new np), h.fm.same (same_new np)⟩
theorem Sta.new {Hs H : Hp} {d c p : Addr} {ps : List Addr} {fs : List (List (List Nat))} {xs : List V} (h : Sta Hs d c H ps fs) (np : H p = none) (f : List (List Nat)) (e : xs = tss f) : Sta Hs d c (upd H p (.lst xs)) (ps ++ [p]) (fs ++ [f]) := by
  subst e
  exact ⟨h.sm.trans (same_new np), h.src.same (same_new np), h.fm.new np⟩
/-- what stands in the law's loops -/
structure Stb (d c L : Addr) (H : Hp) (t : Nat) (ps : List Addr) (fs : List (List (List Nat))) : Prop where
  src : Src H d c t
  hL : H L = some (.lst (ps.map V.ref))
  fm : FmsAt H ps fs
  fr : ∀ p ∈ ps, p ≠ L
  ok : ∀ f ∈ fs, OkF f
theorem Stb.same {d c L : Addr} {H H' : Hp} {t : Nat} {ps : List Addr} {fs : List (List (List Nat))} (h : Stb d c L H t ps fs) (s : Same H H') : Stb d c L H' t ps fs := ⟨h.src.same s, s _ _ h.hL, h.fm.same s, h.fr, h.ok⟩
theorem Src.dk {H : Hp} {d c : Addr} {t : Nat} (h : Src H d c t) : ∃ kvs, H d = some (.dK kvs) := by
  obtain ⟨ns, r, h1, _⟩ := h
  exact ⟨_, h1⟩
theorem Stb.but {d c L : Addr} {H H' : Hp} {t t' : Nat} {ps : List Addr} {fs : List (List (List Nat))} (h : Stb d c L H t ps fs) (nLd : L ≠ d) (s : But d H H') (n : Src H' d c t') : Stb d c L H' t' ps fs := by
  obtain ⟨kv, hkv⟩ := h.src.dk
  exact ⟨n, s _ _ nLd h.hL, h.fm.but hkv s, h.fr, h.ok⟩
theorem Stb.push {d c L l : Addr} {H H' : Hp} {t t' : Nat} {ps : List Addr} {fs : List (List (List Nat))} {f : List (List Nat)} (h : Stb d c L H t ps fs) (nLd : L ≠ d) (nLc : L ≠ c) (s : But d H H') (n : Src H' d c t') (hl : H l = none) (hl' : H' l = some (.lst (tss f))) (okf : OkF f) :
    Stb d c L (upd H' L (.lst (ps.map V.ref ++ [V.ref l]))) t' (ps ++ [l]) (fs ++ [f]) := by
  have h2 := h.but nLd s n
  have nl : l ≠ L := (ne_of_none h.hL hl).symm
  refine ⟨n.upd nLd nLc, by rw [upd_same, List.map_append]; rfl, (h2.fm.add hl').by fun p hp xs e => ?_, fun p hp => ?_, fun g hg => ?_⟩
  · rcases List.mem_append.mp hp with z | z
    · rw [upd_ne (h.fr p z)]
      exact e
    · rw [List.mem_singleton.mp z] at e ⊢
      rw [upd_ne nl]
      exact e
  · rcases List.mem_append.mp hp with z | z
    · exact h.fr p z
    · rw [List.mem_singleton.mp z]
      exact nl
  · rcases List.mem_append.mp hg with z | z
    · exact h.ok g z
    · rw [List.mem_singleton.mp z]
      exact okf
theorem st_a : Str.ofString "a" = tx [97] := by decide +kernel
theorem st_b : Str.ofString "b" = tx [98] := by decide +kernel
theorem st_c : Str.ofString "c" = tx [99] := by decide +kernel
def firstF : List (List (List Nat)) := [[], [[97]], [[97, 98], [98, 97]], List.replicate 8 [97], List.replicate 9 [97], [List.replicate 40 97], [List.replicate 20 97, List.replicate 20 98], [List.replicate 19 97, List.replicate 20 99]]
theorem first_ok : ∀ f ∈ firstF, OkF f := fun f hf => by
  have key : ∀ f ∈ firstF, (f.all fun u => decide (u ≠ []) && patL u) = true ∧ f.length ≤ 20 ∧ (met f.flatten).length ≤ 8 := by decide +kernel
  obtain ⟨h1, h2, h3⟩ := key f hf
  have h4 := List.all_eq_true.mp h1
  refine ⟨fun u hu => ?_, fun u hu => ?_, h2, h3⟩
  · exact of_decide_eq_true (Bool.and_eq_true_iff.mp (h4 u hu)).1
  · exact OkP.of (Bool.and_eq_true_iff.mp (h4 u hu)).2
section
variable {P : Program} {w : World} {K : PySem.W.Frag} {mg : Str → Option Value} {base : Heap}
def spLaw (K : PySem.W.Frag) : Sp := fun vs H Q _ => ∃ (a : Addr) (ns : List Int), vs = [.ref a] ∧ SqL K H a (ns.map V.int) ∧ ns.length ≤ 63 ∧ ∀ H', Q (.bl true) H'
theorem ok_law {k : Nat} (T : Txt K mg) (hbm : ∃ mm, base.Ns sysModules mm) : FnG P w K mg base CX0 (k + 8) T.aLaw T.dLaw ["_law_script"] (spLaw K) := by
  have GLPen : FnOk P w K mg base CX0 (k + 7) T.aLPen T.dLPen ["_law_script"] (spPen K) := ok_pen T
  have GLDraw : FnOk P w K mg base CX0 (k + 7) T.aLDraw T.dLDraw ["_law_pen_here", "_law_count"] spSDraw := ok_draw T
  have GLPick : FnOk P w K mg base CX0 (k + 7) T.aLPick T.dLPick ["_law_pen_here", "_law_options"] (spPickA K) := ok_pick T
  have GLDrawnFormula : FnOk P w K mg base CX0 (k + 7) T.aLDrawnFormula T.dLDrawnFormula ["_law_pen_here", "_law_parts", "_law_size", "_law_count"] spForm := ok_form T
  have GLLong : FnOk P w K mg base CX0 (k + 7) T.aLLong T.dLLong ["_law_pen_here"] spLong := ok_long T
  have GLDue : FnOk P w K mg base CX0 (k + 7) T.aLDue T.dLDue ["_law_formula"] spDue := ok_due T
  have GLActual : FnOk P w K mg base CX0 (k + 7) T.aLActual T.dLActual ["_law_formula"] spAct := ok_act T
  refine okG T.fLaw scLaw (fun vs H Q E h => ?_) (fun cdv A outer s H vs Q E hr hgd h => ?_)
  · obtain ⟨a, ns, rfl, _⟩ := h
    rfl
  · obtain ⟨a, ns, rfl, hs, hn, q⟩ := h
    refine ⟨_, (pss_cons (ps_set (i := 1) scLaw.nd rfl (Or.inl rfl) (pe_call GLPen hr (by rfl) T.gLPen T.fLPen.kp T.bLPen .nil pass0 (pa_cons (pv 0) pa_nil)))
      (pss_cons (ps_set (i := 2) scLaw.nd rfl (Or.inl rfl) (pe_lst (pa_cons (pe_lst pa_nil) (pa_cons (pe_lst (pa_cons pe_str pa_nil)) (pa_cons (pe_lst (pa_cons pe_str (pa_cons pe_str pa_nil))) (pa_cons (pe_op op_rep (pe_lst (pa_cons pe_str pa_nil)) pe_int) (pa_cons (pe_op op_rep (pe_lst (pa_cons pe_str pa_nil)) pe_int) (pa_cons (pe_lst (pa_cons (pe_op Mo.op_mulS pe_str pe_int) pa_nil)) (pa_cons (pe_lst (pa_cons (pe_op Mo.op_mulS pe_str pe_int) (pa_cons (pe_op Mo.op_mulS pe_str pe_int) pa_nil))) (pa_cons (pe_lst (pa_cons (pe_op Mo.op_mulS pe_str pe_int) (pa_cons (pe_op Mo.op_mulS pe_str pe_int) pa_nil))) pa_nil))))))))))
      (pss_cons (ps_for PassesOwn.never rfl (pi_range1 (by rfl) T.m_range (pa_cons (pe_op op_add pe_int (pe_callB (call_min2 rfl) (by rfl) T.m_min (by decide +kernel) (pa_cons pe_int (pa_cons (pe_callB call_len_seq (by rfl) T.m_len PySem.boot_len (pa_cons (pv 0) pa_nil)) pa_nil)))) pa_nil)) (pg_name (i := 3) scLaw.nd rfl (Or.inl rfl)) (pss_cons (ps_expr (pe_bm PySem.F.plainAttrs_list PySem.F.slot_list_append PySem.F.type_list_append mt_append (pv 2) (pa_cons (pe_call GLDrawnFormula hr (by rfl) T.gLDrawnFormula T.fLDrawnFormula.kp T.bLDrawnFormula .nil pass0 (pa_cons (pv 1) (pa_cons pe_int (pa_cons pe_int (pa_cons pe_int pa_nil))))) pa_nil)))
      (pss_cons (ps_expr (pe_bm PySem.F.plainAttrs_list PySem.F.slot_list_append PySem.F.type_list_append mt_append (pv 2) (pa_cons (pe_call GLDrawnFormula hr (by rfl) T.gLDrawnFormula T.fLDrawnFormula.kp T.bLDrawnFormula .nil pass0 (pa_cons (pv 1) (pa_cons pe_int (pa_cons pe_int (pa_cons pe_int pa_nil))))) pa_nil)))
      (pss_one (ps_expr (pe_bm PySem.F.plainAttrs_list PySem.F.slot_list_append PySem.F.type_list_append mt_append (pv 2) (pa_cons (pe_call GLLong hr (by rfl) T.gLLong T.fLLong.kp T.bLLong .nil pass0 (pa_cons (pv 1) pa_nil)) pa_nil)))))))
      (pss_cons (ps_for PassesOwn.never rfl (pi_list (pv 2)) (pg_name (i := 4) scLaw.nd rfl (Or.inl rfl)) (pss_cons (ps_set (i := 5) scLaw.nd rfl (Or.inl rfl) (pe_call GLPick hr (by rfl) T.gLPick T.fLPick.kp T.bLPick .nil pass0 (pa_cons (pv 1) (pa_cons (pe_lst (pa_cons (pe_callTy call_list_of (by rfl) T.m_list (by decide +kernel) (pa_cons (pv 4) pa_nil)) (pa_cons (pe_callTy call_tuple_of (by rfl) T.m_tuple (by decide +kernel) (pa_cons (pv 4) pa_nil)) pa_nil))) pa_nil))))
      (pss_cons (ps_set (i := 6) scLaw.nd rfl (Or.inl rfl) (pe_callB (Mo.cr_reprX hbm hgd hr.units) (by rfl) T.m_repr (by decide +kernel) (pa_cons (pv 5) pa_nil)))
      (pss_one (ps_if (PW.pt (pw_or (pt_cmpR op_ne (pe_callB (Mo.cr_reprX hbm hgd hr.units) (by rfl) T.m_repr (by decide +kernel) (pa_cons (pe_call GLActual hr (by rfl) T.gLActual T.fLActual.kp T.bLActual .nil pass0 (pa_cons (pv 5) pa_nil)) pa_nil)) (pe_callB (Mo.cr_reprX hbm hgd hr.units) (by rfl) T.m_repr (by decide +kernel) (pa_cons (pe_call GLDue hr (by rfl) T.gLDue T.fLDue.kp T.bLDue .nil pass0 (pa_cons (pv 4) pa_nil)) pa_nil)) (nomark _)) (pw_or1 (pt_cmpR op_ne (pe_callB (Mo.cr_reprX hbm hgd hr.units) (by rfl) T.m_repr (by decide +kernel) (pa_cons (pv 5) pa_nil)) (pv 6) (nomark _))))) (pss_one (ps_ret pe_bl)) pss_nil)))))
      (pss_one (ps_ret pe_bl)))))), ?_⟩
    refine ⟨_, rfl, a, ns, rfl, hs, hn, fun H0 d c s0 nd src0 => ?_⟩
    have hs0 := s0.seq hs
    have g0 : Sta H0 d c H0 [] [] := ⟨Same.refl _, src0, rfl, fun k p f a => nomatch a⟩
    refine ⟨Nat.zero_le _, fun p0 n0 => ?_⟩
    have g1 := g0.new (xs := []) n0 [] rfl
    generalize upd H0 p0 (.lst []) = H1 at *
    refine ⟨by show 1 ≤ sizeLine; decide, fun p1 n1 => ?_⟩
    have g2 := g1.new (xs := [V.str (Str.ofString "a")]) n1 [[97]] (by decide +kernel)
    generalize upd H1 p1 (.lst [V.str (Str.ofString "a")]) = H2 at *
    refine ⟨by show 2 ≤ sizeLine; decide, fun p2 n2 => ?_⟩
    have g3 := g2.new (xs := [V.str (Str.ofString "ab"), V.str (Str.ofString "ba")]) n2 [[97, 98], [98, 97]] (by decide +kernel)
    generalize upd H2 p2 (.lst [V.str (Str.ofString "ab"), V.str (Str.ofString "ba")]) = H3 at *
    refine ⟨by show 1 ≤ sizeLine; decide, fun q3 m3 => ?_⟩
    have g3' := g3.skip (o := .lst [V.str (Str.ofString "a")]) m3
    have hq3 : upd H3 q3 (.lst [V.str (Str.ofString "a")]) q3 = some (.lst [V.str (Str.ofString "a")]) := upd_same
    generalize upd H3 q3 (.lst [V.str (Str.ofString "a")]) = H3' at *
    refine ⟨q3, 8, _, rfl, rfl, hq3, by decide, by decide, by show 1 * 8 ≤ sizeLine; decide, fun p3 n3 => ?_⟩
    have g4 := g3'.new (xs := (List.replicate (8 : Int).toNat [V.str (Str.ofString "a")]).flatten) n3 (List.replicate 8 [97]) (by decide +kernel)
    generalize upd H3' p3 (.lst ((List.replicate (8 : Int).toNat [V.str (Str.ofString "a")]).flatten)) = H4 at *
    refine ⟨by show 1 ≤ sizeLine; decide, fun q4 m4 => ?_⟩
    have g4' := g4.skip (o := .lst [V.str (Str.ofString "a")]) m4
    have hq4 : upd H4 q4 (.lst [V.str (Str.ofString "a")]) q4 = some (.lst [V.str (Str.ofString "a")]) := upd_same
    generalize upd H4 q4 (.lst [V.str (Str.ofString "a")]) = H4' at *
    refine ⟨q4, 9, _, rfl, rfl, hq4, by decide, by decide, by show 1 * 9 ≤ sizeLine; decide, fun p4 n4 => ?_⟩
    have g5 := g4'.new (xs := (List.replicate (9 : Int).toNat [V.str (Str.ofString "a")]).flatten) n4 (List.replicate 9 [97]) (by decide +kernel)
    generalize upd H4' p4 (.lst ((List.replicate (9 : Int).toNat [V.str (Str.ofString "a")]).flatten)) = H5 at *
    refine ⟨[97], 40, congrArg V.str st_a, rfl, by decide, by decide, by show 1 ≤ sizeLine; decide, fun p5 n5 => ?_⟩
    have g6 := g5.new (xs := [V.str (tx (mulS [97] 40))]) n5 [List.replicate 40 97] (by decide +kernel)
    generalize upd H5 p5 (.lst [V.str (tx (mulS [97] 40))]) = H6 at *
    refine ⟨[97], 20, congrArg V.str st_a, rfl, by decide, by decide, [98], 20, congrArg V.str st_b, rfl, by decide, by decide, by show 2 ≤ sizeLine; decide, fun p6 n6 => ?_⟩
    have g7 := g6.new (xs := [V.str (tx (mulS [97] 20)), V.str (tx (mulS [98] 20))]) n6 [List.replicate 20 97, List.replicate 20 98] (by decide +kernel)
    generalize upd H6 p6 (.lst [V.str (tx (mulS [97] 20)), V.str (tx (mulS [98] 20))]) = H7 at *
    refine ⟨[97], 19, congrArg V.str st_a, rfl, by decide, by decide, [99], 20, congrArg V.str st_c, rfl, by decide, by decide, by show 2 ≤ sizeLine; decide, fun p7 n7 => ?_⟩
    have g8 := g7.new (xs := [V.str (tx (mulS [97] 19)), V.str (tx (mulS [99] 20))]) n7 [List.replicate 19 97, List.replicate 20 99] (by decide +kernel)
    generalize upd H7 p7 (.lst [V.str (tx (mulS [97] 19)), V.str (tx (mulS [99] 20))]) = H8 at *
    refine ⟨by show 8 ≤ sizeLine; decide, fun L nL => ?_⟩
    have g9 := g8.skip (o := .lst [V.ref p0, V.ref p1, V.ref p2, V.ref p3, V.ref p4, V.ref p5, V.ref p6, V.ref p7]) nL
    have nLd := (g8.src.new nL).1
    have nLc := (g8.src.new nL).2
    obtain ⟨ps0, hps0⟩ : ∃ ps0, ps0 = [] ++ [p0] ++ [p1] ++ [p2] ++ [p3] ++ [p4] ++ [p5] ++ [p6] ++ [p7] := ⟨_, rfl⟩
    have g9' : Sta H0 d c (upd H8 L (.lst [V.ref p0, V.ref p1, V.ref p2, V.ref p3, V.ref p4, V.ref p5, V.ref p6, V.ref p7])) ps0 firstF := by
      rw [hps0]
      exact g9
    have fr0 : ∀ p ∈ ps0, p ≠ L := by
      rw [hps0]
      exact g8.fm.fresh nL
    have pl0 : ps0.length = 8 := by
      rw [hps0]
      rfl
    have hL0 : upd H8 L (.lst [V.ref p0, V.ref p1, V.ref p2, V.ref p3, V.ref p4, V.ref p5, V.ref p6, V.ref p7]) L = some (.lst (ps0.map V.ref)) := by
      rw [upd_same, hps0]
      rfl
    clear g0 g1 g2 g3 g3' g4 g4' g5 g6 g7 g8 g9 hps0 hq3 hq4
    generalize upd H8 L (.lst [V.ref p0, V.ref p1, V.ref p2, V.ref p3, V.ref p4, V.ref p5, V.ref p6, V.ref p7]) = H9 at *
    clear n0 n1 n2 n3 n4 n5 n6 n7 m3 m4 nL
    refine ⟨_, rfl, a, _, rfl, .inl (g9'.sm.seq hs0), 12, _, rfl, 6, _, rfl, rfl, _, rfl, ?_, ?_, for_range (lo := 0) (fun i σ H' => ∃ (t : Nat) (ps : List Addr) (fs : List (List (List Nat))) (o3 o4 o5 o6 : Option V), σ = [some (.ref a), some (.ref d), some (.ref L), o3, o4, o5, o6] ∧ Stb d c L H' t ps fs ∧ t ≤ 1200 * i ∧ ps.length = 8 + 3 * i) ?_ ?_ ?_⟩
    · split <;> omega
    · split <;> omega
    · exact ⟨0, ps0, firstF, _, _, _, _, rfl, ⟨g9'.src, hL0, g9'.fm, fr0, first_ok⟩, Nat.le_refl _, pl0⟩
    · rintro i σ H1 hi ⟨t, ps, fs, o3, o4, o5, o6, rfl, st1, ht, hpl⟩
      have hi2 : i < 18 := by
        revert hi
        split <;> omega
      clear hi
      have ml : ∀ qs : List Addr, (qs.map V.ref).length = qs.length := fun qs => List.length_map ..
      refine ⟨_, rfl, .inl ⟨rfl, _, SqL.of st1.hL⟩, _, rfl, d, c, 6, 6, 5, t, rfl, st1.src, by decide, by decide, by decide, by decide, by decide, by decide, by omega, fun H2 l1 f1 t2 but2 src2 ht2 hl1 nl1 hl1' ok1 => ?_⟩
      have hL2 := but2 _ _ nLd st1.hL
      have st2 := st1.push nLd nLc but2 src2 hl1 hl1' ok1
      refine ⟨L, _, _, rfl, rfl, hL2, fitsLt (by rw [ml]; omega), ?_⟩
      generalize upd H2 L (.lst (ps.map V.ref ++ [V.ref l1])) = H3 at *
      refine ⟨_, rfl, .inl ⟨rfl, _, SqL.of st2.hL⟩, _, rfl, d, c, 21, 3, 8, t2, rfl, st2.src, by decide, by decide, by decide, by decide, by decide, by decide, by omega, fun H4 l2 f2 t4 but4 src4 ht4 hl2 nl2 hl2' ok2 => ?_⟩
      have hL4 := but4 _ _ nLd st2.hL
      have st4 := st2.push nLd nLc but4 src4 hl2 hl2' ok2
      refine ⟨L, _, _, rfl, rfl, hL4, fitsLt (by rw [ml, List.length_append, List.length_singleton]; omega), ?_⟩
      generalize upd H4 L (.lst ((ps ++ [l1]).map V.ref ++ [V.ref l2])) = H5 at *
      refine ⟨_, rfl, .inl ⟨rfl, _, SqL.of st4.hL⟩, _, rfl, d, c, t4, rfl, st4.src, by omega, fun H6 l3 f3 t6 but6 src6 ht6 hl3 nl3 hl3' ok3 => ?_⟩
      have hL6 := but6 _ _ nLd st4.hL
      have st6 := st4.push nLd nLc but6 src6 hl3 hl3' ok3
      refine ⟨L, _, _, rfl, rfl, hL6, fitsLt (by rw [ml, List.length_append, List.length_append, List.length_singleton, List.length_singleton]; omega), ?_⟩
      exact ⟨t6, _, _, _, _, _, _, rfl, st6, by omega, by rw [List.length_append, List.length_append, List.length_append, hpl]; show 8 + 3 * i + 1 + 1 + 1 = _; omega⟩
    · rintro σ H1 ⟨t, ps, fs, o3, o4, o5, o6, rfl, st1, ht, hpl⟩
      have ht2 : t ≤ 30000 := by
        revert ht
        split <;> omega
      have hpl2 : ps.length ≤ 100 := by
        revert hpl
        split <;> omega
      clear ht hpl fr0 pl0 g9' hL0
      refine ⟨_, rfl, L, rfl, ⟨_, SqL.of st1.hL⟩, for_it (walk_list (xs := ps.map V.ref)) (fun i σ H' => ∃ (t' : Nat) (o4 o5 o6 : Option V), σ = [some (.ref a), some (.ref d), some (.ref L), o3, o4, o5, o6] ∧ Stb d c L H' t' ps fs ∧ t' ≤ t + i) ?_ ?_ ?_ ?_⟩
      · exact ⟨t, _, _, _, rfl, st1, Nat.le_refl _⟩
      · rintro i σ H' _ ⟨_, _, _, _, _, h, _⟩
        exact SqL.of h.hL
      · rintro i x σ H2 H2' hi ⟨t2, o4, o5, o6, rfl, st2, ht3⟩ ⟨rfl, hx⟩
        rw [List.length_map] at hi
        rw [List.getElem?_map] at hx
        obtain ⟨p, hp, rfl⟩ := Option.map_eq_some_iff.mp hx
        have flen := st2.fm.len
        have hf : fs[i]? = some fs[i] := List.getElem?_eq_getElem (by omega)
        generalize fs[i] = f at hf
        have ok := st2.ok f (List.mem_of_getElem? hf)
        have hp2 := st2.fm.el i p f hp hf
        have nd1 := (st2.src).ne
        refine ⟨_, rfl, _, rfl, p, _, rfl, .inl (SqL.of hp2), fun g1 ng1 => ?_⟩
        have s3 := same_new (o := .lst (tss f)) ng1
        have hg1 : upd H2' g1 (.lst (tss f)) g1 = some (.lst (tss f)) := upd_same
        have ng1d := (st2.src.new ng1).1
        have st3 := st2.same s3
        have hp3 := s3 _ _ hp2
        generalize upd H2' g1 (.lst (tss f)) = H3 at *
        refine ⟨_, rfl, p, _, rfl, .inl ⟨SqL.of hp3, fun g2 ng2 => ?_⟩⟩
        have s4 := same_new (o := .tup (tss f)) ng2
        have hg2 : upd H3 g2 (.tup (tss f)) g2 = some (.tup (tss f)) := upd_same
        have ng2d := (st3.src.new ng2).1
        have st4 := st3.same s4
        have hg1' := s4 _ _ hg1
        have hp4 := s4 _ _ hp3
        generalize upd H3 g2 (.tup (tss f)) = H4 at *
        refine ⟨by show 2 ≤ sizeLine; decide, fun lp nlp => ?_⟩
        have s5 := same_new (o := .lst [V.ref g1, V.ref g2]) nlp
        have hlp : upd H4 lp (.lst [V.ref g1, V.ref g2]) lp = some (.lst [V.ref g1, V.ref g2]) := upd_same
        have nlpd := (st4.src.new nlp).1
        have st5 := st4.same s5
        have hg1'' := s5 _ _ hg1'
        have hg2' := s5 _ _ hg2
        have hp5 := s5 _ _ hp4
        generalize upd H4 lp (.lst [V.ref g1, V.ref g2]) = H5 at *
        refine ⟨d, c, t2, st5.src, by omega, .inl ⟨lp, _, rfl, SqL.of hlp, nlpd, by show 0 < 2; decide, by show 2 < _; decide, fun H6 v t6 but6 src6 ht6 hv => ?_⟩⟩
        have st6 := st5.but nLd but6 src6
        obtain ⟨g, b, rfl, hg⟩ : ∃ (g : Addr) (b : Bool), v = .ref g ∧ FAt H6 g f b := by
          simp only [List.mem_cons, List.not_mem_nil, or_false] at hv
          rcases hv with e | e
          · exact ⟨g1, false, e, but6 _ _ ng1d hg1''⟩
          · exact ⟨g2, true, e, but6 _ _ ng2d hg2'⟩
        have hp6 := st6.fm.el i p f hp hf
        obtain ⟨r1, r2, r3⟩ := (gD_fit ok b).repr (by decide) (by decide) (by decide) (by decide)
        obtain ⟨q1, q2, q3⟩ := (res_fit ok).repr (by decide) (by decide) (by decide) (by decide)
        refine ⟨_, rfl, fun _ => False, _, _, rfl, gD_dx hg, r1, r2, r3, ?_⟩
        refine ⟨_, rfl, g, f, b, rfl, hg, ok, fun H7 s7 => ?_⟩
        refine ⟨fun _ => False, _, resD f, rfl, res_dx f, q1, q2, q3, ?_⟩
        refine ⟨_, rfl, p, f, rfl, s7 _ _ hp6, ok, fun H8 s8 => ?_⟩
        refine ⟨fun _ => False, _, resD f, rfl, res_dx f, q1, q2, q3, rfl, false, same_ne _, iteF ?_⟩
        have hg8 : FAt H8 g f b := s8 _ _ (s7 _ _ hg)
        refine ⟨_, rfl, fun _ => False, _, _, rfl, gD_dx hg8, r1, r2, r3, ?_⟩
        refine ⟨_, rfl, rfl, false, same_ne _, iteF ?_⟩
        exact ⟨t6, _, _, _, rfl, (st6.same s7).same s8, by omega⟩
      · rintro σ H2 ⟨t2, o4, o5, o6, rfl, _⟩
        exact q H2
end
end Mo

namespace Mo
open PySem PySem.Spec PyProof.Rows L2
theorem txt_mk {K : PySem.W.Frag} {h : Heap} {mg : Str → Option Value} {fa : Addr} (X : K.In h) (G : h.Ns mainGlobals mg) (hfa : mg "law" = some (.ref fa))
    {cInvalidFormula : Addr} (eInvalidFormula : PySem.W.nsIn K mainGlobals "InvalidFormula" = some (some (.ref cInvalidFormula)))
    {cTooLarge : Addr} (eTooLarge : PySem.W.nsIn K mainGlobals "TooLarge" = some (some (.ref cTooLarge)))
    {nmInvalidFormula qInvalidFormula : Str} {NInvalidFormula : Addr} {bsInvalidFormula : List Value} {snInvalidFormula : List Str} {subInvalidFormula : List Value} {abInvalidFormula : Bool} {colInvalidFormula : Option Bool} {ddInvalidFormula : Option Addr} {u0InvalidFormula u1InvalidFormula u2InvalidFormula u3InvalidFormula u5InvalidFormula : Option Value}
    (xLInvalidFormula : K.lookup cInvalidFormula = some (excClassObj nmInvalidFormula qInvalidFormula cInvalidFormula NInvalidFormula bsInvalidFormula [.type "ValueError", .type "Exception", .type "BaseException", .type "object"] true snInvalidFormula subInvalidFormula abInvalidFormula colInvalidFormula ddInvalidFormula u0InvalidFormula u1InvalidFormula u2InvalidFormula u3InvalidFormula u5InvalidFormula "ValueError.__new__"))
    (saInvalidFormula : PySem.W.findIn K (.ref cInvalidFormula) "__setattr__" = some (some (.builtin "object.__setattr__")))
    (gaInvalidFormula : PySem.W.findIn K (.ref cInvalidFormula) "__getattribute__" = some (some (.builtin "BaseException.__getattribute__")))
    (ggInvalidFormula : PySem.W.findIn K (.ref cInvalidFormula) "__getattr__" = some none)
    (nbInvalidFormula : PySem.W.findIn K (.ref cInvalidFormula) "value" = some none)
    (exInvalidFormula : PySem.W.subIn K (.ref cInvalidFormula) (.type "BaseException") = some true)
    (tyInvalidFormula : PySem.W.typeIn K (.ref cInvalidFormula) = some (.type "type"))
    (hdInvalidFormula : PySem.W.hasDictIn K cInvalidFormula = true)
    (kCInvalidFormula : PySem.W.keepIn K (.ref cInvalidFormula) = true)
    (sCInvalidFormula : PySem.W.subIn K (.ref cInvalidFormula) (.ref cInvalidFormula) = some true)
    (caInvalidFormula : PySem.W.findIn K (.ref cInvalidFormula) "__class__" = some (some (.builtin "object.__class__")))
    (cnInvalidFormula : PySem.W.specialIn K (.builtin "object.__class__") "__get__" = some (some (.builtin "getset_descriptor.__get__")))
    (ctInvalidFormula : PySem.W.takesIn K (.builtin "object.__class__") = some true)
    (cmInvalidFormula : PySem.W.mroIn K cInvalidFormula (.type "object") = some true)
    {iInvalidFormula : Addr} (iCInvalidFormula : PySem.W.findIn K (.ref cInvalidFormula) "__init__" = some (some (.ref iInvalidFormula))) (tIInvalidFormula : PySem.W.typeIn K (.ref iInvalidFormula) = some (.type "function"))
    {iodInvalidFormula ianInvalidFormula : Option Addr} {islInvalidFormula : Array (Option Value)} {iocInvalidFormula ikVInvalidFormula idcInvalidFormula ipmInvalidFormula icdInvalidFormula ictInvalidFormula : Value} (iLInvalidFormula : K.lookup iInvalidFormula = some ⟨iocInvalidFormula, iodInvalidFormula, .func (PySem.W.fnOf "__init__" "InvalidFormula.__init__" (defArgs sInitInvalidFormula) (defBody sInitInvalidFormula) (defScope sInitInvalidFormula) .none ikVInvalidFormula idcInvalidFormula ipmInvalidFormula ianInvalidFormula icdInvalidFormula ictInvalidFormula), islInvalidFormula⟩) (iDInvalidFormula : PySem.W.codeIn K icdInvalidFormula "InvalidFormula.__init__" = true) (iKInvalidFormula : PySem.W.keepIn K (.ref iInvalidFormula) = true)
    {nmTooLarge qTooLarge : Str} {NTooLarge : Addr} {bsTooLarge : List Value} {snTooLarge : List Str} {subTooLarge : List Value} {abTooLarge : Bool} {colTooLarge : Option Bool} {ddTooLarge : Option Addr} {u0TooLarge u1TooLarge u2TooLarge u3TooLarge u5TooLarge : Option Value}
    (xLTooLarge : K.lookup cTooLarge = some (excClassObj nmTooLarge qTooLarge cTooLarge NTooLarge bsTooLarge [.type "OverflowError", .type "ArithmeticError", .type "Exception", .type "BaseException", .type "object"] true snTooLarge subTooLarge abTooLarge colTooLarge ddTooLarge u0TooLarge u1TooLarge u2TooLarge u3TooLarge u5TooLarge "OverflowError.__new__"))
    (saTooLarge : PySem.W.findIn K (.ref cTooLarge) "__setattr__" = some (some (.builtin "object.__setattr__")))
    (gaTooLarge : PySem.W.findIn K (.ref cTooLarge) "__getattribute__" = some (some (.builtin "BaseException.__getattribute__")))
    (ggTooLarge : PySem.W.findIn K (.ref cTooLarge) "__getattr__" = some none)
    (nbTooLarge : PySem.W.findIn K (.ref cTooLarge) "limit" = some none)
    (exTooLarge : PySem.W.subIn K (.ref cTooLarge) (.type "BaseException") = some true)
    (tyTooLarge : PySem.W.typeIn K (.ref cTooLarge) = some (.type "type"))
    (hdTooLarge : PySem.W.hasDictIn K cTooLarge = true)
    (kCTooLarge : PySem.W.keepIn K (.ref cTooLarge) = true)
    (sCTooLarge : PySem.W.subIn K (.ref cTooLarge) (.ref cTooLarge) = some true)
    (caTooLarge : PySem.W.findIn K (.ref cTooLarge) "__class__" = some (some (.builtin "object.__class__")))
    (cnTooLarge : PySem.W.specialIn K (.builtin "object.__class__") "__get__" = some (some (.builtin "getset_descriptor.__get__")))
    (ctTooLarge : PySem.W.takesIn K (.builtin "object.__class__") = some true)
    (cmTooLarge : PySem.W.mroIn K cTooLarge (.type "object") = some true)
    {iTooLarge : Addr} (iCTooLarge : PySem.W.findIn K (.ref cTooLarge) "__init__" = some (some (.ref iTooLarge))) (tITooLarge : PySem.W.typeIn K (.ref iTooLarge) = some (.type "function"))
    {iodTooLarge ianTooLarge : Option Addr} {islTooLarge : Array (Option Value)} {iocTooLarge ikVTooLarge idcTooLarge ipmTooLarge icdTooLarge ictTooLarge : Value} (iLTooLarge : K.lookup iTooLarge = some ⟨iocTooLarge, iodTooLarge, .func (PySem.W.fnOf "__init__" "TooLarge.__init__" (defArgs sInitTooLarge) (defBody sInitTooLarge) (defScope sInitTooLarge) .none ikVTooLarge idcTooLarge ipmTooLarge ianTooLarge icdTooLarge ictTooLarge), islTooLarge⟩) (iDTooLarge : PySem.W.codeIn K icdTooLarge "TooLarge.__init__" = true) (iKTooLarge : PySem.W.keepIn K (.ref iTooLarge) = true)
    (suTooLargeOverflowError : PySem.W.subIn K (.ref cTooLarge) (.type "OverflowError") = some true)
    {od0 an0 : Option Addr} {sl0 : Array (Option Value)} {oc0 kV0 dc0 pm0 cd0 ct0 : Value} {f0 : Addr}
    (a0 : PySem.W.nsIn K mainGlobals "is_pattern" = some (some (.ref f0))) (l0 : K.lookup f0 = some ⟨oc0, od0, .func (PySem.W.fnOf "is_pattern" "is_pattern" (defArgs sIsPattern) (defBody sIsPattern) (defScope sIsPattern) .none kV0 dc0 pm0 an0 cd0 ct0), sl0⟩) (c0 : PySem.W.codeIn K cd0 "is_pattern" = true) (k0 : PySem.W.keepIn K (.ref f0) = true)
    {od1 an1 : Option Addr} {sl1 : Array (Option Value)} {oc1 kV1 dc1 pm1 cd1 ct1 : Value} {f1 : Addr}
    (a1 : PySem.W.nsIn K mainGlobals "is_formula" = some (some (.ref f1))) (l1 : K.lookup f1 = some ⟨oc1, od1, .func (PySem.W.fnOf "is_formula" "is_formula" (defArgs sIsFormula) (defBody sIsFormula) (defScope sIsFormula) .none kV1 dc1 pm1 an1 cd1 ct1), sl1⟩) (c1 : PySem.W.codeIn K cd1 "is_formula" = true) (k1 : PySem.W.keepIn K (.ref f1) = true)
    {od2 an2 : Option Addr} {sl2 : Array (Option Value)} {oc2 kV2 dc2 pm2 cd2 ct2 : Value} {f2 : Addr}
    (a2 : PySem.W.nsIn K mainGlobals "check_formula" = some (some (.ref f2))) (l2 : K.lookup f2 = some ⟨oc2, od2, .func (PySem.W.fnOf "check_formula" "check_formula" (defArgs sCheckFormula) (defBody sCheckFormula) (defScope sCheckFormula) .none kV2 dc2 pm2 an2 cd2 ct2), sl2⟩) (c2 : PySem.W.codeIn K cd2 "check_formula" = true) (k2 : PySem.W.keepIn K (.ref f2) = true)
    {od3 an3 : Option Addr} {sl3 : Array (Option Value)} {oc3 kV3 dc3 pm3 cd3 ct3 : Value} {f3 : Addr}
    (a3 : PySem.W.nsIn K mainGlobals "names_in" = some (some (.ref f3))) (l3 : K.lookup f3 = some ⟨oc3, od3, .func (PySem.W.fnOf "names_in" "names_in" (defArgs sNamesIn) (defBody sNamesIn) (defScope sNamesIn) .none kV3 dc3 pm3 an3 cd3 ct3), sl3⟩) (c3 : PySem.W.codeIn K cd3 "names_in" = true) (k3 : PySem.W.keepIn K (.ref f3) = true)
    {od4 an4 : Option Addr} {sl4 : Array (Option Value)} {oc4 kV4 dc4 pm4 cd4 ct4 : Value} {f4 : Addr}
    (a4 : PySem.W.nsIn K mainGlobals "joined" = some (some (.ref f4))) (l4 : K.lookup f4 = some ⟨oc4, od4, .func (PySem.W.fnOf "joined" "joined" (defArgs sJoined) (defBody sJoined) (defScope sJoined) .none kV4 dc4 pm4 an4 cd4 ct4), sl4⟩) (c4 : PySem.W.codeIn K cd4 "joined" = true) (k4 : PySem.W.keepIn K (.ref f4) = true)
    {od5 an5 : Option Addr} {sl5 : Array (Option Value)} {oc5 kV5 dc5 pm5 cd5 ct5 : Value} {f5 : Addr}
    (a5 : PySem.W.nsIn K mainGlobals "_law_pen" = some (some (.ref f5))) (l5 : K.lookup f5 = some ⟨oc5, od5, .func (PySem.W.fnOf "_law_pen" "_law_pen" (defArgs sLPen) (defBody sLPen) (defScope sLPen) .none kV5 dc5 pm5 an5 cd5 ct5), sl5⟩) (c5 : PySem.W.codeIn K cd5 "_law_pen" = true) (k5 : PySem.W.keepIn K (.ref f5) = true)
    {od6 an6 : Option Addr} {sl6 : Array (Option Value)} {oc6 kV6 dc6 pm6 cd6 ct6 : Value} {f6 : Addr}
    (a6 : PySem.W.nsIn K mainGlobals "_law_draw" = some (some (.ref f6))) (l6 : K.lookup f6 = some ⟨oc6, od6, .func (PySem.W.fnOf "_law_draw" "_law_draw" (defArgs sLDraw) (defBody sLDraw) (defScope sLDraw) .none kV6 dc6 pm6 an6 cd6 ct6), sl6⟩) (c6 : PySem.W.codeIn K cd6 "_law_draw" = true) (k6 : PySem.W.keepIn K (.ref f6) = true)
    {od7 an7 : Option Addr} {sl7 : Array (Option Value)} {oc7 kV7 dc7 pm7 cd7 ct7 : Value} {f7 : Addr}
    (a7 : PySem.W.nsIn K mainGlobals "_law_pick" = some (some (.ref f7))) (l7 : K.lookup f7 = some ⟨oc7, od7, .func (PySem.W.fnOf "_law_pick" "_law_pick" (defArgs sLPick) (defBody sLPick) (defScope sLPick) .none kV7 dc7 pm7 an7 cd7 ct7), sl7⟩) (c7 : PySem.W.codeIn K cd7 "_law_pick" = true) (k7 : PySem.W.keepIn K (.ref f7) = true)
    {od8 an8 : Option Addr} {sl8 : Array (Option Value)} {oc8 kV8 dc8 pm8 cd8 ct8 : Value} {f8 : Addr}
    (a8 : PySem.W.nsIn K mainGlobals "_law_drawn_letters" = some (some (.ref f8))) (l8 : K.lookup f8 = some ⟨oc8, od8, .func (PySem.W.fnOf "_law_drawn_letters" "_law_drawn_letters" (defArgs sLDrawnLetters) (defBody sLDrawnLetters) (defScope sLDrawnLetters) .none kV8 dc8 pm8 an8 cd8 ct8), sl8⟩) (c8 : PySem.W.codeIn K cd8 "_law_drawn_letters" = true) (k8 : PySem.W.keepIn K (.ref f8) = true)
    {od9 an9 : Option Addr} {sl9 : Array (Option Value)} {oc9 kV9 dc9 pm9 cd9 ct9 : Value} {f9 : Addr}
    (a9 : PySem.W.nsIn K mainGlobals "_law_distinct" = some (some (.ref f9))) (l9 : K.lookup f9 = some ⟨oc9, od9, .func (PySem.W.fnOf "_law_distinct" "_law_distinct" (defArgs sLDistinct) (defBody sLDistinct) (defScope sLDistinct) .none kV9 dc9 pm9 an9 cd9 ct9), sl9⟩) (c9 : PySem.W.codeIn K cd9 "_law_distinct" = true) (k9 : PySem.W.keepIn K (.ref f9) = true)
    {od10 an10 : Option Addr} {sl10 : Array (Option Value)} {oc10 kV10 dc10 pm10 cd10 ct10 : Value} {f10 : Addr}
    (a10 : PySem.W.nsIn K mainGlobals "_law_drawn_formula" = some (some (.ref f10))) (l10 : K.lookup f10 = some ⟨oc10, od10, .func (PySem.W.fnOf "_law_drawn_formula" "_law_drawn_formula" (defArgs sLDrawnFormula) (defBody sLDrawnFormula) (defScope sLDrawnFormula) .none kV10 dc10 pm10 an10 cd10 ct10), sl10⟩) (c10 : PySem.W.codeIn K cd10 "_law_drawn_formula" = true) (k10 : PySem.W.keepIn K (.ref f10) = true)
    {od11 an11 : Option Addr} {sl11 : Array (Option Value)} {oc11 kV11 dc11 pm11 cd11 ct11 : Value} {f11 : Addr}
    (a11 : PySem.W.nsIn K mainGlobals "_law_due" = some (some (.ref f11))) (l11 : K.lookup f11 = some ⟨oc11, od11, .func (PySem.W.fnOf "_law_due" "_law_due" (defArgs sLDue) (defBody sLDue) (defScope sLDue) .none kV11 dc11 pm11 an11 cd11 ct11), sl11⟩) (c11 : PySem.W.codeIn K cd11 "_law_due" = true) (k11 : PySem.W.keepIn K (.ref f11) = true)
    {od12 an12 : Option Addr} {sl12 : Array (Option Value)} {oc12 kV12 dc12 pm12 cd12 ct12 : Value} {f12 : Addr}
    (a12 : PySem.W.nsIn K mainGlobals "_law_actual" = some (some (.ref f12))) (l12 : K.lookup f12 = some ⟨oc12, od12, .func (PySem.W.fnOf "_law_actual" "_law_actual" (defArgs sLActual) (defBody sLActual) (defScope sLActual) .none kV12 dc12 pm12 an12 cd12 ct12), sl12⟩) (c12 : PySem.W.codeIn K cd12 "_law_actual" = true) (k12 : PySem.W.keepIn K (.ref f12) = true)
    {od13 an13 : Option Addr} {sl13 : Array (Option Value)} {oc13 kV13 dc13 pm13 cd13 ct13 : Value} {f13 : Addr}
    (a13 : PySem.W.nsIn K mainGlobals "_law_long" = some (some (.ref f13))) (l13 : K.lookup f13 = some ⟨oc13, od13, .func (PySem.W.fnOf "_law_long" "_law_long" (defArgs sLLong) (defBody sLLong) (defScope sLLong) .none kV13 dc13 pm13 an13 cd13 ct13), sl13⟩) (c13 : PySem.W.codeIn K cd13 "_law_long" = true) (k13 : PySem.W.keepIn K (.ref f13) = true)
    {od14 an14 : Option Addr} {sl14 : Array (Option Value)} {oc14 kV14 dc14 pm14 cd14 ct14 : Value} {f14 : Addr}
    (a14 : PySem.W.nsIn K mainGlobals "law" = some (some (.ref f14))) (l14 : K.lookup f14 = some ⟨oc14, od14, .func (PySem.W.fnOf "law" "law" (defArgs sLaw) (defBody sLaw) (defScope sLaw) .none kV14 dc14 pm14 an14 cd14 ct14), sl14⟩) (c14 : PySem.W.codeIn K cd14 "law" = true) (k14 : PySem.W.keepIn K (.ref f14) = true)
    {t_VARIABLES : Tok} (z_VARIABLES : PySem.W.nsIn K mainGlobals "VARIABLES" = some (some (.str "abcdefghijklmnopqrstuvwxyz" t_VARIABLES)))
    {t_LONGEST_PATTERN : Tok} (z_LONGEST_PATTERN : PySem.W.nsIn K mainGlobals "LONGEST_PATTERN" = some (some (.int 40 t_LONGEST_PATTERN)))
    {t_MOST_VARIABLES : Tok} (z_MOST_VARIABLES : PySem.W.nsIn K mainGlobals "MOST_VARIABLES" = some (some (.int 8 t_MOST_VARIABLES)))
    {t_MOST_FRAGMENTS : Tok} (z_MOST_FRAGMENTS : PySem.W.nsIn K mainGlobals "MOST_FRAGMENTS" = some (some (.int 20 t_MOST_FRAGMENTS)))
    (z_all : PySem.W.nsIn K mainGlobals "all" = some none)
    (z_len : PySem.W.nsIn K mainGlobals "len" = some none)
    (z_set : PySem.W.nsIn K mainGlobals "set" = some none)
    (z_isinstance : PySem.W.nsIn K mainGlobals "isinstance" = some none)
    (z_str : PySem.W.nsIn K mainGlobals "str" = some none)
    (z_tuple : PySem.W.nsIn K mainGlobals "tuple" = some none)
    (z_list : PySem.W.nsIn K mainGlobals "list" = some none)
    (z_sorted : PySem.W.nsIn K mainGlobals "sorted" = some none)
    (z_zip : PySem.W.nsIn K mainGlobals "zip" = some none)
    (z_max : PySem.W.nsIn K mainGlobals "max" = some none)
    (z_abs : PySem.W.nsIn K mainGlobals "abs" = some none)
    (z_range : PySem.W.nsIn K mainGlobals "range" = some none)
    (z_enumerate : PySem.W.nsIn K mainGlobals "enumerate" = some none)
    (z_OverflowError : PySem.W.nsIn K mainGlobals "OverflowError" = some none)
    (z_min : PySem.W.nsIn K mainGlobals "min" = some none)
    (z_repr : PySem.W.nsIn K mainGlobals "repr" = some none) :
    ∃ T : Txt K mg, T.aLaw = fa ∧ ∀ (s : Shared) (v : Value), BindsTo s T.dLaw ⟨[v], []⟩ [("_law_script", v)] := by
  have e := hfa.symm.trans (PySem.W.mg_of X G a14)
  cases e
  have F0 := fun_mk (st := sIsPattern) l0 c0 k0
  have F1 := fun_mk (st := sIsFormula) l1 c1 k1
  have F2 := fun_mk (st := sCheckFormula) l2 c2 k2
  have F3 := fun_mk (st := sNamesIn) l3 c3 k3
  have F4 := fun_mk (st := sJoined) l4 c4 k4
  have F5 := fun_mk (st := sLPen) l5 c5 k5
  have F6 := fun_mk (st := sLDraw) l6 c6 k6
  have F7 := fun_mk (st := sLPick) l7 c7 k7
  have F8 := fun_mk (st := sLDrawnLetters) l8 c8 k8
  have F9 := fun_mk (st := sLDistinct) l9 c9 k9
  have F10 := fun_mk (st := sLDrawnFormula) l10 c10 k10
  have F11 := fun_mk (st := sLDue) l11 c11 k11
  have F12 := fun_mk (st := sLActual) l12 c12 k12
  have F13 := fun_mk (st := sLLong) l13 c13 k13
  have F14 := fun_mk (st := sLaw) l14 c14 k14
  have FIInvalidFormula := fun_mk (st := sInitInvalidFormula) iLInvalidFormula iDInvalidFormula iKInvalidFormula
  have FITooLarge := fun_mk (st := sInitTooLarge) iLTooLarge iDTooLarge iKTooLarge
  exact ⟨⟨_, PySem.W.mg_of X G eInvalidFormula, _, PySem.W.mg_of X G eTooLarge, _, _, FIInvalidFormula, FIInvalidFormula.binds (ps := ["self", "value"]) fun _ _ _ _ _ _ us hl => match us, hl with | [_, _], _ => rfl, ⟨⟨⟨_, _, _, _, _, _, _, _, _, _, _, _, _, _, _, xLInvalidFormula, by decide +kernel⟩, saInvalidFormula, exInvalidFormula, tyInvalidFormula, kCInvalidFormula⟩, ⟨gaInvalidFormula, ggInvalidFormula, exInvalidFormula, hdInvalidFormula⟩, ⟨gaInvalidFormula, ggInvalidFormula, exInvalidFormula, hdInvalidFormula, caInvalidFormula, cnInvalidFormula, ctInvalidFormula, cmInvalidFormula⟩, nbInvalidFormula, PySem.W.exm_ref exInvalidFormula hdInvalidFormula tyInvalidFormula sCInvalidFormula, iCInvalidFormula, tIInvalidFormula⟩, _, _, FITooLarge, FITooLarge.binds (ps := ["self", "limit"]) fun _ _ _ _ _ _ us hl => match us, hl with | [_, _], _ => rfl, ⟨⟨⟨_, _, _, _, _, _, _, _, _, _, _, _, _, _, _, xLTooLarge, by decide +kernel⟩, PySem.F.excBase_OverflowError, by decide +kernel, fun self => by kernel_rfl, saTooLarge, exTooLarge, tyTooLarge, kCTooLarge⟩, ⟨gaTooLarge, ggTooLarge, exTooLarge, hdTooLarge⟩, ⟨gaTooLarge, ggTooLarge, exTooLarge, hdTooLarge, caTooLarge, cnTooLarge, ctTooLarge, cmTooLarge⟩, nbTooLarge, PySem.W.exm_ref exTooLarge hdTooLarge tyTooLarge sCTooLarge, iCTooLarge, tITooLarge⟩, kit1_type suTooLargeOverflowError (by decide +kernel), _, _, F0, F0.binds (ps := ["value"]) fun _ _ _ _ _ _ us hl => match us, hl with | [_], _ => rfl, PySem.W.mg_of X G a0, _, _, F1, F1.binds (ps := ["value"]) fun _ _ _ _ _ _ us hl => match us, hl with | [_], _ => rfl, PySem.W.mg_of X G a1, _, _, F2, F2.binds (ps := ["value"]) fun _ _ _ _ _ _ us hl => match us, hl with | [_], _ => rfl, PySem.W.mg_of X G a2, _, _, F3, F3.binds (ps := ["formula"]) fun _ _ _ _ _ _ us hl => match us, hl with | [_], _ => rfl, PySem.W.mg_of X G a3, _, _, F4, F4.binds (ps := ["formula"]) fun _ _ _ _ _ _ us hl => match us, hl with | [_], _ => rfl, PySem.W.mg_of X G a4, _, _, F5, F5.binds (ps := ["_law_script"]) fun _ _ _ _ _ _ us hl => match us, hl with | [_], _ => rfl, PySem.W.mg_of X G a5, _, _, F6, F6.binds (ps := ["_law_pen_here", "_law_count"]) fun _ _ _ _ _ _ us hl => match us, hl with | [_, _], _ => rfl, PySem.W.mg_of X G a6, _, _, F7, F7.binds (ps := ["_law_pen_here", "_law_options"]) fun _ _ _ _ _ _ us hl => match us, hl with | [_, _], _ => rfl, PySem.W.mg_of X G a7, _, _, F8, F8.binds (ps := ["_law_pen_here", "_law_count"]) fun _ _ _ _ _ _ us hl => match us, hl with | [_, _], _ => rfl, PySem.W.mg_of X G a8, _, _, F9, F9.binds (ps := ["_law_string"]) fun _ _ _ _ _ _ us hl => match us, hl with | [_], _ => rfl, PySem.W.mg_of X G a9, _, _, F10, F10.binds (ps := ["_law_pen_here", "_law_parts", "_law_size", "_law_count"]) fun _ _ _ _ _ _ us hl => match us, hl with | [_, _, _, _], _ => rfl, PySem.W.mg_of X G a10, _, _, F11, F11.binds (ps := ["_law_formula"]) fun _ _ _ _ _ _ us hl => match us, hl with | [_], _ => rfl, PySem.W.mg_of X G a11, _, _, F12, F12.binds (ps := ["_law_formula"]) fun _ _ _ _ _ _ us hl => match us, hl with | [_], _ => rfl, PySem.W.mg_of X G a12, _, _, F13, F13.binds (ps := ["_law_pen_here"]) fun _ _ _ _ _ _ us hl => match us, hl with | [_], _ => rfl, PySem.W.mg_of X G a13, _, _, F14, F14.binds (ps := ["_law_script"]) fun _ _ _ _ _ _ us hl => match us, hl with | [_], _ => rfl, PySem.W.mg_of X G a14, _, PySem.W.mg_of X G z_VARIABLES, _, PySem.W.mg_of X G z_LONGEST_PATTERN, _, PySem.W.mg_of X G z_MOST_VARIABLES, _, PySem.W.mg_of X G z_MOST_FRAGMENTS, PySem.W.mg_none_of X G z_all, PySem.W.mg_none_of X G z_len, PySem.W.mg_none_of X G z_set, PySem.W.mg_none_of X G z_isinstance, PySem.W.mg_none_of X G z_str, PySem.W.mg_none_of X G z_tuple, PySem.W.mg_none_of X G z_list, PySem.W.mg_none_of X G z_sorted, PySem.W.mg_none_of X G z_zip, PySem.W.mg_none_of X G z_max, PySem.W.mg_none_of X G z_abs, PySem.W.mg_none_of X G z_range, PySem.W.mg_none_of X G z_enumerate, PySem.W.mg_none_of X G z_OverflowError, PySem.W.mg_none_of X G z_min, PySem.W.mg_none_of X G z_repr⟩, rfl, fun s v => .of_eq rfl⟩
theorem all_mk {l : PySem.W.OpenLaw} {w : World} {K : PySem.W.Frag} {mg : Str → Option Value} {fa : Addr} (hT : ∃ T : Txt K mg, T.aLaw = fa ∧ ∀ (s : Shared) (v : Value), BindsTo s T.dLaw ⟨[v], []⟩ [("_law_script", v)]) :
    ∃ fd : FuncData, (∀ (s : Shared) (v : Value), BindsTo s fd ⟨[v], []⟩ [("_law_script", v)]) ∧ ∀ base : Heap, K.In base → base.Ns mainGlobals mg → (∃ mm, base.Ns sysModules mm) → FnG l.prog w K mg base CX0 8 fa fd ["_law_script"] (spLaw K) := by
  obtain ⟨T, rfl, hb⟩ := hT
  exact ⟨T.dLaw, hb, fun base _ _ hm => ok_law (k := 0) T hm⟩
end Mo
open PySem PySem.W PyProof.Rows
set_option maxHeartbeats 0 in
theorem PySem.Challenge.cw_mustoccur_k70_fragments_joined_holds : PySem.Challenge.rw_mustoccur_k70_fragments_joined.Holds := by
  w_on; o_law; k_head; (case hw => w_witness2)
  k_fill
  refine Mo.walkM (l := PySem.Challenge.rw_mustoccur_k70_fragments_joined) (n := 63) (k := 8) (x := "_law_script") (CX := fun _ => L2.CX0) (sp := fun w => Mo.spLaw _) rfl (by decide) rfl ⟨rfl, by decide, by decide⟩ (fun w h Y => PySem.W.kIn_of Y) (by decide +kernel) ?F (fun _ _ a ns hl _ hS => ⟨a, ns, rfl, hS, hl, fun _ => rfl⟩) (fun _ _ _ _ _ h => h)
  case F =>
    intro w mg fa h KX G hmg
    refine Mo.all_mk ?_
    refine' Mo.txt_mk KX G hmg ?eInvalidFormula ?eTooLarge ?xLInvalidFormula ?saInvalidFormula ?gaInvalidFormula ?ggInvalidFormula ?nbInvalidFormula ?exInvalidFormula ?tyInvalidFormula ?hdInvalidFormula ?kCInvalidFormula ?sCInvalidFormula ?caInvalidFormula ?cnInvalidFormula ?ctInvalidFormula ?cmInvalidFormula ?iCInvalidFormula ?tIInvalidFormula ?iLInvalidFormula ?iDInvalidFormula ?iKInvalidFormula ?xLTooLarge ?saTooLarge ?gaTooLarge ?ggTooLarge ?nbTooLarge ?exTooLarge ?tyTooLarge ?hdTooLarge ?kCTooLarge ?sCTooLarge ?caTooLarge ?cnTooLarge ?ctTooLarge ?cmTooLarge ?iCTooLarge ?tITooLarge ?iLTooLarge ?iDTooLarge ?iKTooLarge ?suTooLargeOverflowError ?a0 ?l0 ?c0 ?k0 ?a1 ?l1 ?c1 ?k1 ?a2 ?l2 ?c2 ?k2 ?a3 ?l3 ?c3 ?k3 ?a4 ?l4 ?c4 ?k4 ?a5 ?l5 ?c5 ?k5 ?a6 ?l6 ?c6 ?k6 ?a7 ?l7 ?c7 ?k7 ?a8 ?l8 ?c8 ?k8 ?a9 ?l9 ?c9 ?k9 ?a10 ?l10 ?c10 ?k10 ?a11 ?l11 ?c11 ?k11 ?a12 ?l12 ?c12 ?k12 ?a13 ?l13 ?c13 ?k13 ?a14 ?l14 ?c14 ?k14 ?z_VARIABLES ?z_LONGEST_PATTERN ?z_MOST_VARIABLES ?z_MOST_FRAGMENTS ?z_all ?z_len ?z_set ?z_isinstance ?z_str ?z_tuple ?z_list ?z_sorted ?z_zip ?z_max ?z_abs ?z_range ?z_enumerate ?z_OverflowError ?z_min ?z_repr
    (case eInvalidFormula => k_is); (case eTooLarge => k_is); (case xLInvalidFormula => k_is); (case saInvalidFormula => k_is); (case gaInvalidFormula => k_is); (case ggInvalidFormula => k_is); (case nbInvalidFormula => k_is); (case exInvalidFormula => k_is); (case tyInvalidFormula => k_is); (case hdInvalidFormula => k_is); (case kCInvalidFormula => k_is); (case sCInvalidFormula => k_is); (case caInvalidFormula => k_is); (case cnInvalidFormula => k_is); (case ctInvalidFormula => k_is); (case cmInvalidFormula => k_is); (case iCInvalidFormula => k_is); (case tIInvalidFormula => k_is); (case iLInvalidFormula => k_is); (case iDInvalidFormula => k_is); (case iKInvalidFormula => k_is); (case xLTooLarge => k_is); (case saTooLarge => k_is); (case gaTooLarge => k_is); (case ggTooLarge => k_is); (case nbTooLarge => k_is); (case exTooLarge => k_is); (case tyTooLarge => k_is); (case hdTooLarge => k_is); (case kCTooLarge => k_is); (case sCTooLarge => k_is); (case caTooLarge => k_is); (case cnTooLarge => k_is); (case ctTooLarge => k_is); (case cmTooLarge => k_is); (case iCTooLarge => k_is); (case tITooLarge => k_is); (case iLTooLarge => k_is); (case iDTooLarge => k_is); (case iKTooLarge => k_is); (case suTooLargeOverflowError => k_is); (case a0 => k_is); (case l0 => k_is); (case c0 => k_is); (case k0 => k_is); (case a1 => k_is); (case l1 => k_is); (case c1 => k_is); (case k1 => k_is); (case a2 => k_is); (case l2 => k_is); (case c2 => k_is); (case k2 => k_is); (case a3 => k_is); (case l3 => k_is); (case c3 => k_is); (case k3 => k_is); (case a4 => k_is); (case l4 => k_is); (case c4 => k_is); (case k4 => k_is); (case a5 => k_is); (case l5 => k_is); (case c5 => k_is); (case k5 => k_is); (case a6 => k_is); (case l6 => k_is); (case c6 => k_is); (case k6 => k_is); (case a7 => k_is); (case l7 => k_is); (case c7 => k_is); (case k7 => k_is); (case a8 => k_is); (case l8 => k_is); (case c8 => k_is); (case k8 => k_is); (case a9 => k_is); (case l9 => k_is); (case c9 => k_is); (case k9 => k_is); (case a10 => k_is); (case l10 => k_is); (case c10 => k_is); (case k10 => k_is); (case a11 => k_is); (case l11 => k_is); (case c11 => k_is); (case k11 => k_is); (case a12 => k_is); (case l12 => k_is); (case c12 => k_is); (case k12 => k_is); (case a13 => k_is); (case l13 => k_is); (case c13 => k_is); (case k13 => k_is); (case a14 => k_is); (case l14 => k_is); (case c14 => k_is); (case k14 => k_is); (case z_VARIABLES => k_is); (case z_LONGEST_PATTERN => k_is); (case z_MOST_VARIABLES => k_is); (case z_MOST_FRAGMENTS => k_is); (case z_all => k_is); (case z_len => k_is); (case z_set => k_is); (case z_isinstance => k_is); (case z_str => k_is); (case z_tuple => k_is); (case z_list => k_is); (case z_sorted => k_is); (case z_zip => k_is); (case z_max => k_is); (case z_abs => k_is); (case z_range => k_is); (case z_enumerate => k_is); (case z_OverflowError => k_is); (case z_min => k_is); (case z_repr => k_is)
