import PyProof.Rows.All
import Wide.All
import OpenK.AllK
import Wide.FinOn
import HandS.ForMost
import HandS.SetKeys
import HandS.Walk
import HandS.Style
import HandS.SetFor
import HandS.IsInst
import HandS.Wide
import PyProof.Draws
import PyProof.EnumMake
import HandS.Replace
import HandS.Exc
import HandS.WordsExc
import HandS.ExcInit
import HandS.ExcField
import HandS.ExcIs
import HandS.TryOnly
import HandS.CallSlots
import HandS.ExcOwn
import PyProof.ReprRoads
import HandS.Ends
import HandS.EndOwn
import HandS.TupAny
import HandS.TupMul
import PyProof.TupleOfStr
import PyProof.NeKinds
import PyProof.EqAt
import PyProof.ReprBulk
import PyProof.Rows.StrBin
import HandS.RaiseMore
import HandS.SetTxt0
import HandS.Set
import HandS.More
import HandS.Strs
import KE.GoesEnum
import HandS.Zip
import KE.GoesZip
import KE.GoesMore
import KE.KDictZip
import PyProof.CollectWalk
import PyProof.ListNew
import HandS.TupSets
import HandS.SortOrd
import HandS.Zip0
import HandS.SortInts
import PyProof.CollectStr
import HandS.Deep
import KE.DataFind
import HandS.Comp
import PyProof.Rows.ReprOcc
import PyProof.ReprLen
import KE.KIndexOf
import HandS.Defaults
import KE.KExcInit
import PyProof.ExcBaseAll.OverflowError
import HandS.TryMany
import HandS.DictEq
import HandS.DictComp
import PyProof.ListStr
import PyProof.WalksMore
import KE.KItemsList
import KE.KeyNested
import HandS.NoneIn
import HandS.Steps
import PyProof.IsRules
import HandS.Iter
import KE.KDictSum
import HandS.SortKw
import HandS.DictTup
import KE.KDictCopyH
import HandS.Evl
import KE.KEqSeq
import HandS.Call
import PyProof.Rows.IntBool
import PyProof.CallStr
import PyProof.Rows.StrOr
import PySem.Challenge.RW_mustoccur_k53_descents_step_by_step
set_option Elab.async false
set_option linter.all false
set_option maxRecDepth 100000
set_option maxHeartbeats 8000000
/-! Rules that the laws of this program want and the layer lacks: repr and reversal of a text, enumerate of a text, the set of a text's signs and its size. -/
namespace Mo
open PySem PySem.Spec PyProof.Rows L2
/-! ### signs met, in the order of first occurrence -/
def metStep (acc : List Nat) (c : Nat) : List Nat := if c ∈ acc then acc else acc ++ [c]
def met (cs : List Nat) : List Nat := cs.foldl metStep []
theorem met_snoc (cs : List Nat) (c : Nat) : met (cs ++ [c]) = metStep (met cs) c := by
  unfold met
  rw [List.foldl_append]
  rfl
theorem mem_metStep {acc : List Nat} {c d : Nat} : d ∈ metStep acc c ↔ d ∈ acc ∨ d = c := by
  unfold metStep
  by_cases h : c ∈ acc
  · rw [if_pos h]
    constructor
    · exact Or.inl
    · rintro (q | q)
      · exact q
      · rw [q]; exact h
  · rw [if_neg h, List.mem_append, List.mem_singleton]
theorem mem_fold : ∀ (cs acc : List Nat) (d : Nat), d ∈ cs.foldl metStep acc ↔ d ∈ acc ∨ d ∈ cs
  | [], acc, d => by simp
  | c :: cs, acc, d => by
    rw [List.foldl_cons, mem_fold cs (metStep acc c) d, mem_metStep, List.mem_cons, or_assoc]
theorem mem_met {cs : List Nat} {d : Nat} : d ∈ met cs ↔ d ∈ cs := by
  unfold met
  rw [mem_fold]
  simp
theorem metStep_length (acc : List Nat) (c : Nat) : (metStep acc c).length = if c ∈ acc then acc.length else acc.length + 1 := by
  unfold metStep
  split <;> simp
theorem metStep_nodup {acc : List Nat} (h : acc.Nodup) (c : Nat) : (metStep acc c).Nodup := by
  unfold metStep
  by_cases q : c ∈ acc
  · rw [if_pos q]; exact h
  · rw [if_neg q]
    exact List.nodup_append.mpr ⟨h, by simp, by rintro a ha b hb rfl; exact q (by rw [← List.mem_singleton.mp hb]; exact ha)⟩
theorem fold_nodup : ∀ (cs acc : List Nat), acc.Nodup → (cs.foldl metStep acc).Nodup
  | [], _, h => h
  | c :: cs, _, h => fold_nodup cs _ (metStep_nodup h c)
theorem met_nodup (cs : List Nat) : (met cs).Nodup := fold_nodup cs [] List.nodup_nil
theorem met_length_le : ∀ cs : List Nat, (met cs).length ≤ cs.length := fun cs => by
  have key : ∀ (cs acc : List Nat), (cs.foldl metStep acc).length ≤ acc.length + cs.length := by
    intro cs
    induction cs with
    | nil => intro acc; simp
    | cons c cs ih =>
      intro acc
      rw [List.foldl_cons]
      have h1 := ih (metStep acc c)
      have h2 := metStep_length acc c
      rw [List.length_cons]
      split at h2 <;> omega
  have h := key cs []
  simpa [met] using h
/-- the keys that are signs of cs -/
def inS (cs : List Nat) (k : Key) : Bool := cs.any fun c => decide (k = Sum.inr (⟨#[c]⟩ : Str))
theorem sign_inj {c d : Nat} (h : (⟨#[c]⟩ : Str) = ⟨#[d]⟩) : c = d := by
  injection h with h
  simpa using h
theorem inS_sign (cs : List Nat) (c : Nat) : inS cs (Sum.inr ⟨#[c]⟩) = decide (c ∈ cs) := by
  unfold inS
  by_cases h : c ∈ cs
  · rw [decide_eq_true h]
    exact List.any_eq_true.mpr ⟨c, h, decide_eq_true rfl⟩
  · rw [decide_eq_false h]
    cases q : cs.any fun d => decide ((Sum.inr ⟨#[c]⟩ : Key) = Sum.inr ⟨#[d]⟩) with
    | false => rfl
    | true =>
      obtain ⟨d, hd, e⟩ := List.any_eq_true.mp q
      exact absurd (by rw [sign_inj (Sum.inr.inj (of_decide_eq_true e))]; exact hd) h
section
variable {P : Program} {w : World} {A : Around} {E : Value → Shared → Prop} {s : Shared}
theorem signs_loop {I : Addr} {fp wr : List Addr} {G : Array GenState → Array GenState → Prop} {n : Nat} {Pv : Nat → Value → Prop} {St : Nat → Shared → Prop} {R : Result → Shared → Prop}
    (W : WalksS P w A.in1 I fp wr G n Pv St) (D : Addr) (hD : D ∉ fp) (cs : List Nat) (hn : n = cs.length) (hb : cs.length + 1 < scanBound)
    (hval : ∀ i v, Pv i v → ∃ c t, cs[i]? = some c ∧ v = .str ⟨#[c]⟩ t) :
    ∀ (k i : Nat) (s : Shared), n - i = k → i ≤ n → St i s → s.heap.SetOf (mixKind P w) D (inS (cs.take i)) (met (cs.take i)).length →
      (∀ s', Moved (D :: wr) G s s' → s'.heap.SetOf (mixKind P w) D (inS cs) (met cs).length → R (.ok (.ret .none)) s') →
      codeAny (model P w) A (.builtin "set.update.loop" ⟨[.ref D, .ref I], []⟩) R s := by
  have hDw : D ∉ wr := fun h => hD (W.sub _ h)
  have up : ∀ b ∈ wr, b ∈ D :: wr := fun b q => List.mem_cons_of_mem _ q
  intro k
  induction k with
  | zero =>
    intro i s hk hi hst hS hR
    obtain rfl : i = n := by omega
    refine codeAny_builtin PyProof.Rows.F.entry_set_update_loop (by
      rw [Around.under_plainId PyProof.Rows.F.plain_set_update_loop _]
      show wpAny _ A.in1 (pyNext (.ref I) >>= _) _ _ s
      refine wpAny_bind (W.done s _ _ hst fun s' hm => wpAny_pure (hR s' (hm.mono up) ?_))
      rw [List.take_of_length_le (by omega)] at hS
      obtain ⟨o, es, ep, t, ho, rest⟩ := hS
      exact ⟨o, es, ep, t, hm.heap D _ hDw ho, rest⟩)
  | succ k ih =>
    intro i s hk hi hst hS hR
    have hlt : i < n := by omega
    refine codeAny_builtin PyProof.Rows.F.entry_set_update_loop (by
      rw [Around.under_plainId PyProof.Rows.F.plain_set_update_loop _]
      show wpAny _ A.in1 (pyNext (.ref I) >>= _) _ _ s
      refine wpAny_bind (W.item i s _ _ hlt hst fun v s' hP hst' hm => ?_)
      obtain ⟨c, t, hc, rfl⟩ := hval i v hP
      have hS' : s'.heap.SetOf (mixKind P w) D (inS (cs.take i)) (met (cs.take i)).length := by
        obtain ⟨o, es, ep, tb, ho, rest⟩ := hS
        exact ⟨o, es, ep, tb, hm.heap D _ hDw ho, rest⟩
      show wpAny _ A.in1 (holding [Value.str ⟨#[c]⟩ t] (setAdd D (.str ⟨#[c]⟩ t)) >>= _) _ _ s'
      refine wpAny_bind (wpAny_holding (by
        unfold setAdd
        refine wpAny_holding (wpAny_bind ((mixKind P w).pyHash (k := Sum.inr ⟨#[c]⟩) (mixKind_str _ _ _ _) ?_))
        have room : (met (cs.take i)).length + 1 < scanBound := by
          have h1 := met_length_le (cs.take i)
          rw [List.length_take] at h1
          omega
        refine wpAny_setAddHashed_of (knd := mixKind P w) (s := { s' with toks := s'.toks + 1 }) (mixKind_str _ _ _ _) rfl hS' room fun h' hsb hS2 => ?_
        have e3 : cs.take (i + 1) = cs.take i ++ [c] := by
          rw [List.take_add_one, hc]
          rfl
        have hS3 : h'.SetOf (mixKind P w) D (inS (cs.take (i + 1))) (met (cs.take (i + 1))).length := by
          have f1 : (fun k' => inS (cs.take i) k' || decide (k' = Sum.inr (⟨#[c]⟩ : Str))) = inS (cs.take (i + 1)) := by
            funext k'
            rw [e3]
            unfold inS
            rw [List.any_append]
            simp
          have f2 : (if inS (cs.take i) (Sum.inr ⟨#[c]⟩) = true then (met (cs.take i)).length else (met (cs.take i)).length + 1) = (met (cs.take (i + 1))).length := by
            rw [e3, met_snoc, metStep_length, inS_sign]
            by_cases q : c ∈ cs.take i
            · rw [if_pos (decide_eq_true q), if_pos (mem_met.mpr q)]
            · rw [if_neg (by rw [decide_eq_false q]; exact Bool.false_ne_true), if_neg (fun z => q (mem_met.mp z))]
          rw [← f1, ← f2]
          exact hS2
        refine wpAny_pure ⟨plainId_quiet PyProof.Rows.F.plain_set_update_loop _, ih (i + 1) _ (by omega) hlt (W.frame _ s' _ _ hst' (Nat.le_succ _) fun b q o e => ?_) hS3 fun s2 hm2 hS4 => ?_⟩
        · rw [hsb.2 b (fun z : b = D => hD (by rw [← z]; exact q))]
          exact e
        · refine hR s2 (Moved.trans W.gtrans ((hm.mono up).then_heap (Nat.le_succ _) fun b o q e => ?_) hm2) hS4
          rw [hsb.2 b (fun z : b = D => q (by rw [z]; exact List.mem_cons_self))]
          exact e)))

set_option maxHeartbeats 8000000 in
/-- set(a text) -/
theorem call_set_signs {z : Str} {t : Tok} {Q : Value → Shared → Prop} (hh : A.handled = none) (hb : z.cps.size + 1 < scanBound)
    (h : ∀ (h' : Heap) (tk : Nat), h'.SetOf (mixKind P w) s.heap.objs.size (inS z.cps.toList) (met z.cps.toList).length → (∀ b o, s.heap.get? b = some o → h'.get? b = some o) → Q (.ref s.heap.objs.size) { s with heap := h', toks := tk }) :
    wpAny (model P w) A (call (.type "set") [.str z t]) Q E s := by
  obtain ⟨c, tl, hmro⟩ := PySem.F.called_set.mro
  have hmade := PySem.F.called_set.made; have hsub := PySem.F.called_set.sub
  refine wpAny_call (codeAny_of_tree (by
    show wpAny _ _ (callAny (.type "set") _) _ _ _
    refine wpAny_pure ⟨Code.quiet_builtin _ (by decide +kernel), codeAny_builtin PySem.F.entry_type_call ?_⟩
    rw [Around.under_plain (weight_type_call_type "set" [.str z t] []) rfl]
    have h1 := PySem.F.called_set.notType; have h2 := PySem.F.called_set.canCreate
    have hct := PySem.F.typeCall_set_1 (.str z t)
    repeat (any_goals (first | assumption | wp_step))
    refine codeAny_mono (code_set_new_1 (.str z t) (E := E) (Q₁ := fun obj s₁ => ∃ led : Bool, obj = .ref s.heap.objs.size ∧ s₁ = { s with heap := s.heap.push { cls := .type "set", dict := none, data := .set #[] 0 (.fresh 0 0 led) } }) fun led => ⟨led, rfl, rfl⟩) fun r s₁ hr => ?_
    cases r with
    | error e => exact hr
    | ok fl =>
      cases fl with
      | ret obj =>
        obtain ⟨led, rfl, rfl⟩ := hr
        generalize hNew : ({ cls := .type "set", dict := none, data := .set #[] 0 (.fresh 0 0 led) } : Obj) = nw
        have hfr : ∀ (h : Heap) (a : Addr), h.get? a = some nw → h.SetOf (mixKind P w) a (inS []) (met []).length := by
          intro h a e
          rw [← hNew] at e
          exact ⟨_, #[], 0, _, e, ⟨rfl, rfl, rfl⟩, rfl, (fun e he => by simp at he), (fun k => by simp [inS]), (by decide), (by rfl), rfl⟩
        have hcls : nw.cls = .type "set" := by rw [← hNew]
        have hnf : nw.isFreed = false := by rw [← hNew]; rfl
        have hS : (s.heap.push nw).get? s.heap.objs.size = some nw := Heap.get?_push_size _ hnf
        have hT : Shared.TypeIs { s with heap := s.heap.push nw } (.ref s.heap.objs.size) "set" := ⟨_, hS, hcls⟩
        have hli := PySem.F.called_set.init.lookup; have hbi := PySem.F.called_set.init.bind (.ref s.heap.objs.size)
        repeat (any_goals (first | assumption | wp_step))
        refine codeAny_mono (codeAny_call_builtin (R := wants (fun r s₂ => r = .none ∧ ∃ h' tk, s₂ = { s with heap := h', toks := tk } ∧ h'.SetOf (mixKind P w) s.heap.objs.size (inS z.cps.toList) (met z.cps.toList).length ∧
          (∀ b o, s.heap.get? b = some o → h'.get? b = some o)) E) PySem.F.called_set.init.plain PySem.F.entry_set_init (check_set_init_1 hT ?_)) fun r₂ s₂ hr₂ => ?_
        · subst hNew
          have n1 : isSubtype (.type "str") (.type "set") = pure false := by rw [isSubtype_type]; kernel_rfl
          have n2 : isSubtype (.type "str") (.type "frozenset") = pure false := by rw [isSubtype_type]; kernel_rfl
          have n3 : (Value.type "str" == Value.type "dict") = false := by decide
          unfold Builtin.«set.__init__» noKeywords Builtin.Frozenset.updateFrom
          generalize hPI : pyIter = PI
          wp_walk
          subst hPI
          have hh3 : A.in1.in1.in1.handled = none := by simp [hh]
          generalize hNew : ({ cls := .type "set", data := .set #[] 0 (.fresh 0 0 led) } : Obj) = nw at *
          have hz1 : (s.heap.push nw).objs.size = s.heap.objs.size + 1 := Heap.size_push ..
          have fin : ∀ (ty : String) (wk : Walks P w A.in1.in1.in1 (s.heap.push nw).objs.size [(s.heap.push nw).objs.size] [(s.heap.push nw).objs.size] z.cps.size (SignAt z) (fun i h => h.IsStrIter (s.heap.push nw).objs.size ty z t i))
              (Rk : Result → Shared → Prop), (∀ h' tk, h'.SetOf (mixKind P w) s.heap.objs.size (inS z.cps.toList) (met z.cps.toList).length → (∀ b o, s.heap.get? b = some o → h'.get? b = some o) → Rk (.ok (.ret .none)) { s with heap := h', toks := tk }) →
              codeAny (model P w) A.in1.in1 (.builtin "set.update.loop" ⟨[.ref s.heap.objs.size, .ref (s.heap.push nw).objs.size], []⟩) Rk
                { s with heap := (s.heap.push nw).push { cls := .type ty, data := .fields #[.str z t, .int 0 0] } } := by
            intro ty wk Rk hR
            refine signs_loop (wk.toS) s.heap.objs.size (by rw [hz1]; simp) z.cps.toList (by simp) (by simpa using hb) (fun i v hv => ?_) (z.cps.size - 0) 0 _ (by omega) (Nat.zero_le _) ⟨_, Heap.get?_push_size _ rfl, rfl, rfl⟩ ?_ ?_
            · obtain ⟨c, u, hc, rfl⟩ := hv
              exact ⟨c, u, by rw [Array.getElem?_toList]; exact hc, rfl⟩
            · exact hfr _ _ (Heap.get?_push_of_some _ hS)
            · intro s' hm hS'
              obtain ⟨h', g', d', tk', os'⟩ := s'
              obtain rfl : g' = s.gens := hm.gens
              obtain rfl : d' = s.drawn := hm.drawn
              obtain rfl : os' = s.os := hm.os
              refine hR h' tk' hS' fun b o e => ?_
              have hb0 : b < s.heap.objs.size := Heap.lt_size e
              have n1 : b ∉ s.heap.objs.size :: [(s.heap.push nw).objs.size] := by
                rw [hz1]
                intro q
                rcases List.mem_cons.mp q with q | q
                · exact Nat.ne_of_lt hb0 q
                · exact Nat.ne_of_lt (Nat.lt_succ_of_lt hb0) (List.mem_singleton.mp q)
              exact hm.heap b o n1 (Heap.get?_push_of_some _ (Heap.get?_push_of_some _ e))
          cases ha : z.cps.all (· < 128)
          · refine wpAny_pyIter_wide ha (wpAny_bind (wpAny_runValue (fin _ (Walks.strWide hh3 _ z t) _ fun h' tk hS2 hk2 => wpAny_pure ?_)))
            exact wpAny_pure ⟨rfl, h', tk, rfl, hS2, hk2⟩
          · refine wpAny_pyIter_ascii ha (wpAny_bind (wpAny_runValue (fin _ (Walks.strAscii hh3 _ z t) _ fun h' tk hS2 hk2 => wpAny_pure ?_)))
            exact wpAny_pure ⟨rfl, h', tk, rfl, hS2, hk2⟩
        · cases r₂ with
          | error e => exact hr₂
          | ok fl₂ =>
            cases fl₂ with
            | ret r =>
              obtain ⟨rfl, h', tk, rfl, hS', hk'⟩ := hr₂
              repeat (any_goals (first | assumption | wp_step))
              exact h _ _ hS' hk'
            | _ => exact hr₂.elim
      | _ => exact hr.elim))
end
end Mo

namespace Mo
open PySem PySem.Spec PyProof.Rows L2
/-! ### the rules over the layer -/
section
variable {X : Cx}
def rSetS (P : Program) (w : World) : List V → Hp → VK → Prop := fun xs H Q => ∃ z : Str, xs = [.str z] ∧ z.cps.size ≤ 4000 ∧ ∀ p, H p = none → Q (.ref p) (upd H p (SetK P w p (inS z.cps.toList) (met z.cps.toList).length))
/-- set(z), z a text -/
theorem cr_setS (hc : X.calm = true) : CallR X (.type "set") (rSetS X.prog X.w) := by
  intro pins s σ H xs us Q I r h
  obtain ⟨z, rfl, hz, q⟩ := h
  obtain ⟨u, rfl, t, rfl⟩ := vals1 r
  refine call_set_signs (I.ok.hd hc) (by unfold scanBound; omega) fun h' tk hS hk => ?_
  exact ⟨.ref _, _, I.laid (t' := tk) hk (Nat.le_refl _) (setK_new hS), rfl, q _ (I.hok.fresh (Nat.le_refl _))⟩
def rLenK (P : Program) (w : World) : List V → Hp → VK → Prop := fun xs H Q => ∃ a S n, xs = [V.ref a] ∧ H a = some (SetK P w a S n) ∧ (n : Int) < 2 ^ 62 ∧ Q (.int (n : Nat)) H
/-- len(a set) -/
theorem cr_lenK : CallR X (.builtin "len") (rLenK X.prog X.w) := by
  intro pins s σ H xs us Q I r h
  obtain ⟨a, S, n, rfl, ha, hn, q⟩ := h
  obtain ⟨u, rfl, ru⟩ := vals1 r
  cases ru
  obtain ⟨o, es, ep, t, ho, hex, hd, _, _, _, hf, hes⟩ := setK_get I ha
  refine call_len_set ho hex hd hf (by rw [hes]; omega) ⟨.int (n : Nat), H, I.tok _, ⟨_, by rw [hes]⟩, q⟩
/-! rules within a comprehension's block: the written part named, so that the reading is the same in every block -/
def rLenSq (K : PySem.W.Frag) : List V → Hp → VK → Prop := fun xs H Q => ∃ p ys, xs = [.ref p] ∧ (SqL K H p ys ∨ SqT K H p ys) ∧ Q (.int ys.length) H
theorem call_len_seqK {K : PySem.W.Frag} (h : X.K = K) : CallR X (.builtin "len") (rLenSq K) := by
  subst h
  exact call_len_seq
theorem ix_listK {K : PySem.W.Frag} (h : X.K = K) : IxR X (rIxL K) := by
  subst h
  exact ix_list
theorem op_in_seqK {K : PySem.W.Frag} (h : X.K = K) : OpR X (compareOp .In) (rIn K false) := by
  subst h
  exact op_in_seq
theorem pg_tupK {K : PySem.W.Frag} {es : List Expr} {t : TGs} {k n : Nat} {pos : Pos} (h : X.K = K) (hc : X.calm = true) (hs : PGs X es t)
    (hn : (assignEach es X.env).length = n := by rfl) (hst : (assignEach es X.env).findIdx? (·.1) = none := by rfl) : PG X (.Tuple es k pos) (gTup K n t) := by
  subst h
  exact pg_tup hc hs hn hst
/-- z[::-1], z a text -/
def revS (z : Str) : Str := ⟨z.cps.toList.reverse.toArray⟩
def tRevS (te : TE) : TE := fun σ H Q => te σ H fun x H1 => ∃ z, x = .str z ∧ z.length ≤ sizeLine ∧ Q (.str (revS z)) H1
/-! ### enumerate(z), z a text -/
def IteS (z : Str) : It := ⟨fun i _ => i < z.cps.size, fun i H v H' => ∃ T c, v = .ref T ∧ H T = none ∧ z.cps[i]? = some c ∧ H' = upd H T (.tup [.int (i : Nat), .str ⟨#[c]⟩]), fun i _ => z.cps.size ≤ i⟩
theorem strIter_kind (z : Str) : strIterType z = "str_ascii_iterator" ∨ strIterType z = "str_iterator" := by
  unfold strIterType
  split
  · exact .inl rfl
  · exact .inr rfl
theorem draws_str {P : Program} {w : World} {A : Around} (hh : A.handled = none) (it : Addr) (z : Str) (t : Tok) :
    Draws P w A it [it] z.cps.size (fun i v => ∃ c u, z.cps[i]? = some c ∧ v = .str ⟨#[c]⟩ u) (fun i h => h.IsStrIter it (strIterType z) z t i) := by
  rcases strIter_kind z with e | e
  · rw [e]; exact Draws.strAscii hh it z t
  · rw [e]; exact Draws.strWide hh it z t
theorem turn_enumS {P : Program} {w : World} {K : PySem.W.Frag} {elts : List Expr} {kk : Nat} {tpos : Pos} (z : Str) (t : Tok) (e it : Addr) :
    Turn P w K (.Tuple elts kk tpos) (IteS z) [e, it] e (fun i h => (∃ old, IsEnum h e it ((i : Nat) : Int) old) ∧ h.IsStrIter it (strIterType z) z t i ∧ e ≠ it ∧ i ≤ z.cps.size) where
  mem := by simp
  obj := fun i h st b hb => by
    obtain ⟨⟨old, he⟩, ⟨o, ho, hc, hd⟩, _⟩ := st
    rcases (by simpa using hb : b = e ∨ b = it) with q | q
    · rw [q]; exact ⟨_, he, fun v q => nomatch q⟩
    · rw [q]; exact ⟨o, ho, fun v q => by rw [hd] at q; cases q⟩
  keep := fun i h h' st k => let ⟨⟨old, he⟩, ⟨o, ho, r⟩, hne⟩ := st; ⟨⟨old, k e (by simp) _ he⟩, ⟨o, k it (by simp) o ho, r⟩, hne⟩
  item := by
    intro X hP hw hK hc i pins s σ H E I hf st hg
    subst hP hw hK
    obtain ⟨⟨old, he⟩, hit, hne, hle⟩ := st
    have hi : i < z.cps.size := hg
    have hel : e < s.heap.objs.size := Heap.lt_size he
    have hil : it < s.heap.objs.size := by obtain ⟨_, q, _⟩ := hit; exact Heap.lt_size q
    have hh : X.A.in1.handled = none := by simpa using I.ok.hd hc
    refine wpAny_pyNext_enum_itemD (draws_str hh it z t) he hit hi hne (by simpa using hne) fun x h' tk hP ho hit' hT hsz hk => ?_
    obtain ⟨c, u, hcx, rfl⟩ := hP
    refine ⟨_, rfl, wpAny_letOwnedTupleGo_enum (s := { s with heap := h', toks := tk + 1 }) ho fun h2 he' sb => ?_⟩
    have hT2 := (sb.2 _ (Nat.ne_of_gt hel)).trans hT
    have new : ObjOk X.prog X.w (upd H s.heap.objs.size (.tup [.int (i : Nat), .str ⟨#[c]⟩])) h2 s.heap.objs.size (.tup [.int (i : Nat), .str ⟨#[c]⟩]) :=
      ⟨by show 2 ≤ sizeLine; decide, [.int i tk, .str ⟨#[c]⟩ u], .cons ⟨_, rfl⟩ (.cons ⟨_, rfl⟩ .nil), ⟨_, hT2, rfl, _, rfl⟩⟩
    have I1 : Inv X pins σ (upd H s.heap.objs.size (.tup [.int (i : Nat), .str ⟨#[c]⟩])) { s with heap := h2, toks := tk + 1 } :=
      I.turnedNew (ch := [e, it]) (fun b ob hb q => (sb.2 b (fun z => hb (by simp [z]))).trans (hk b ob (fun z => hb (by simp [z])) (fun z => hb (by simp [z])) q)) hf (Nat.le_refl _) new
    obtain ⟨oi, hoi, r⟩ := hit'
    refine ⟨.ref s.heap.objs.size, _, I1, rfl, ⟨_, c, rfl, I.hok.fresh (Nat.le_refl _), hcx, rfl⟩, ⟨⟨.str ⟨#[c]⟩ u, ?_⟩, ⟨oi, (sb.2 it (Ne.symm hne)).trans hoi, r⟩, hne, hi⟩, fun b hb => ?_⟩
    · have e1 : ((i + 1 : Nat) : Int) = (i : Int) + 1 := by omega
      rw [e1]; exact he'
    · have hb' : b < s.heap.objs.size := by
        rcases (by simpa using hb : b = e ∨ b = it) with q | q
        · rw [q]; exact hel
        · rw [q]; exact hil
      rw [upd_ne (Nat.ne_of_lt hb')]
      exact (hf b hb).1
  done := by
    intro X hP hw hK hc i pins s σ H E I hf st hg
    subst hP hw hK
    obtain ⟨⟨old, he⟩, hit, hne, hle⟩ := st
    have hi : i = z.cps.size := Nat.le_antisymm hle hg
    subst hi
    obtain ⟨f0, f1, f2, f3, f4, f5⟩ := hf it (by simp)
    have hh : X.A.in1.handled = none := by simpa using I.ok.hd hc
    exact wpAny_pyNext_enum_endD (draws_str hh it z t) he hit fun h' eb => ⟨rfl, I.turned (t' := s.toks) (fun b o hb q => eb b o hb q) f0 f1 f3 f4 f5⟩
  self := fun A i s Q E st h => let ⟨⟨_, he⟩, _⟩ := st; wpAny_pyIter_enum he h
def iEnumS (ta : TA) : TI := fun σ H R => ta σ H fun vs H1 => ∃ z : Str, vs = [.str z] ∧ R (IteS z) H1
theorem pi_enumS {e : Expr} {ta : TA} {p pos tpos : Pos} {elts : List Expr} {kk : Nat} (hg : Gl X "enumerate") (hm : X.mg "enumerate" = none) (ha : PA X [e] ta) (hs : starEach [e] X.env = [(false, eval e X.env)] := by rfl) :
    PI X (.Tuple elts kk tpos) (.Call (.Name "enumerate" p) [e] [] pos) (iEnumS ta) := by
  refine ⟨fun pins s σ H R I h => ?_⟩
  refine Call_ (ld_blt I hg hm boot_enumerate (PyProof.Rows.callWith_type1 (thn (ha.run pos pins s σ H _ I h) fun us s1 ⟨vs, H1, I1, r1, q1⟩ => ?_) hs rfl))
  obtain ⟨z, rfl, q⟩ := q1
  obtain ⟨u, rfl, t, rfl⟩ := vals1 r1
  refine call_enumerate_str fun h' he hit hsz hk => wpAny_pyIter_enum he ?_
  have I2 : Inv X pins σ H1 { s1 with heap := h' } := I1.kept (t' := s1.toks) hk
  refine ⟨s1.heap.objs.size + 1, [s1.heap.objs.size + 1, s1.heap.objs.size], _, _, H1, rfl, I2, turn_enumS z t (s1.heap.objs.size + 1) s1.heap.objs.size, ⟨⟨.none, he⟩, hit, Nat.succ_ne_self _, Nat.zero_le _⟩, fun b hb => ?_, q⟩
  have hle : s1.heap.objs.size ≤ b := by
    rcases (by simpa using hb : b = s1.heap.objs.size + 1 ∨ b = s1.heap.objs.size) with q | q
    · rw [q]; exact Nat.le_add_right _ _
    · rw [q]; exact Nat.le_refl _
  exact I1.fpOk hle (I1.hok.fresh hle)
theorem walk_enumS {z : Str} : Walk (IteS z) z.cps.size (fun _ => True) (YPair (fun i => some (.int (i : Nat))) (fun i => z.cps[i]?.map fun c => .str ⟨#[c]⟩)) :=
  ⟨fun _ _ hi _ => hi, fun _ _ => Nat.le_refl _, fun i H v H' _ _ ⟨T, c, h1, h2, h3, h4⟩ => ⟨T, .int (i : Nat), .str ⟨#[c]⟩, h1, h2, h4, rfl, by show Option.map _ z.cps[i]? = _; rw [h3]; rfl⟩⟩
end
end Mo

namespace Mo
open PySem PySem.Spec PyProof.Rows L2
/-! ### texts as lists of codes -/
def tx (cs : List Nat) : Str := ⟨cs.toArray⟩
abbrev sg (c : Nat) : V := .str ⟨#[c]⟩
theorem tx_list (cs : List Nat) : (tx cs).cps.toList = cs := rfl
theorem tx_len (cs : List Nat) : (tx cs).length = cs.length := by show cs.toArray.size = _; simp
theorem tx_size (cs : List Nat) : (tx cs).cps.size = cs.length := by show cs.toArray.size = _; simp
theorem tx_inj {a b : List Nat} (h : tx a = tx b) : a = b := by
  have q := congrArg (fun z : Str => z.cps.toList) h
  exact q
theorem tx_app (a b : List Nat) : tx a ++ tx b = tx (a ++ b) := by
  show (⟨a.toArray ++ b.toArray⟩ : Str) = ⟨(a ++ b).toArray⟩
  simp
theorem tx_app1 (a : List Nat) (c : Nat) : tx a ++ (⟨#[c]⟩ : Str) = tx (a ++ [c]) := tx_app a [c]
theorem tx_get {cs : List Nat} {i : Nat} : (tx cs).cps[i]? = cs[i]? := by
  show cs.toArray[i]? = cs[i]?
  simp
theorem fits5 {n : Nat} (h : n ≤ 100000) : n ≤ sizeLine := Nat.le_trans h (by decide)
theorem fitsLt {n : Nat} (h : n ≤ 100000) : n < sizeLine := Nat.lt_of_le_of_lt h (by decide)
/-- small letters alone -/
def Low (cs : List Nat) : Prop := ∀ c ∈ cs, 97 ≤ c ∧ c ≤ 122
theorem tx_nil : Str.ofString "" = tx [] := by decide +kernel
theorem join_signs : ∀ cs : List Nat, Txt.join (Str.ofString "") (cs.map fun c => (⟨#[c]⟩ : Str)) = tx cs := by
  have key : ∀ cs : List Nat, Str.join (tx []) (cs.map fun c => (⟨#[c]⟩ : Str)) = tx cs := by
    intro cs
    induction cs with
    | nil => rfl
    | cons c r ih =>
      cases r with
      | nil => rfl
      | cons e r =>
        show (⟨#[c]⟩ : Str) ++ tx [] ++ Str.join (tx []) ((e :: r).map fun c => (⟨#[c]⟩ : Str)) = tx (c :: e :: r)
        rw [ih]
        show tx [c] ++ tx [] ++ tx (e :: r) = _
        rw [tx_app, tx_app]
        rfl
  intro cs
  show Builtin.Str.glued _ _ = _
  rw [StrLaws.glued_eq_join, tx_nil]
  exact key cs
/-! ### the pen -/
def penD (c : Addr) (t r : Int) : List (Key × V) := [(.inr "cells", .ref c), (.inr "turn", .int t), (.inr "rest", .int r)]
/-- the pen at d, its cells at c, t draws done -/
def Pen (H : Hp) (d c : Addr) (t : Nat) : Prop := ∃ (ns : List Int) (r : Int), H d = some (.dK (penD c t r)) ∧ H c = some (.lst (ns.map V.int)) ∧ ns.length ≤ 63 ∧ 0 ≤ r
theorem Pen.ne {H : Hp} {d c : Addr} {t : Nat} (h : Pen H d c t) : d ≠ c := by
  obtain ⟨ns, r, h1, h2, _⟩ := h
  exact ne_of h1 h2 (by intro z; cases z)
/-- all but d is as it was -/
def But (d : Addr) (H H' : Hp) : Prop := ∀ b o, b ≠ d → H b = some o → H' b = some o
theorem But.refl (d : Addr) (H : Hp) : But d H H := fun _ _ _ h => h
theorem But.trans {d : Addr} {H H1 H2 : Hp} (a : But d H H1) (b : But d H1 H2) : But d H H2 := fun c o n h => b c o n (a c o n h)
theorem But.same {d : Addr} {H H1 : Hp} (a : Same H H1) : But d H H1 := fun c o _ h => a c o h
theorem But.none {d : Addr} {H H1 : Hp} (a : But d H H1) {p : Addr} (h : H1 p = none) (n : p ≠ d) : H p = none := by
  cases q : H p with
  | none => rfl
  | some o =>
    rw [a p o n q] at h
    cases h
theorem Pen.new {H : Hp} {d c : Addr} {t : Nat} (h : Pen H d c t) {p : Addr} (hp : H p = none) : p ≠ d ∧ p ≠ c := by
  obtain ⟨ns, r, h1, h2, _⟩ := h
  exact ⟨(ne_of_none h1 hp).symm, (ne_of_none h2 hp).symm⟩
theorem Pen.upd {H : Hp} {d c : Addr} {t : Nat} (h : Pen H d c t) {p : Addr} {o : HO} (h1 : p ≠ d) (h2 : p ≠ c) : Pen (upd H p o) d c t := by
  obtain ⟨ns, r, e1, e2, e3⟩ := h
  exact ⟨ns, r, by rw [upd_ne h1.symm]; exact e1, by rw [upd_ne h2.symm]; exact e2, e3⟩
theorem Pen.same {H H' : Hp} {d c : Addr} {t : Nat} (h : Pen H d c t) (s : Same H H') : Pen H' d c t := by
  obtain ⟨ns, r, e1, e2, e3⟩ := h
  exact ⟨ns, r, s _ _ e1, s _ _ e2, e3⟩
theorem same_new {H : Hp} {p : Addr} {o : HO} (h : H p = none) : Same H (L2.upd H p o) := fun b x e => by
  rw [upd_ne (ne_of_none e h)]
  exact e
theorem But.set {d : Addr} {H : Hp} {o : HO} : But d H (L2.upd H d o) := fun b x n e => by
  rw [upd_ne n]
  exact e
theorem But.put {d : Addr} {H H' : Hp} {o : HO} (b : But d H H') {D : Addr} (n : H D = Option.none) : But d H (L2.upd H' D o) := fun x y nx e => by
  rw [upd_ne (ne_of_none e n)]
  exact b x y nx e
theorem Same.put {H H' : Hp} {o : HO} (b : Same H H') {D : Addr} (n : H D = Option.none) : Same H (L2.upd H' D o) := fun x y e => by
  rw [upd_ne (ne_of_none e n)]
  exact b x y e
def spDraw : Sp := fun vs H Q _ => ∃ (d c : Addr) (n : Int) (t : Nat), vs = [.ref d, .int n] ∧ Pen H d c t ∧ 0 < n ∧ n < 1073741824 ∧ t < 1073741824 ∧
  ∀ H' k t', But d H H' → Pen H' d c t' → t' ≤ t + 1 → 0 ≤ k → k < n → Q (.int k) H'
def spPick (K : PySem.W.Frag) : Sp := fun vs H Q _ => ∃ (d c l : Addr) (xs : List V) (t : Nat), vs = [.ref d, .ref l] ∧ Pen H d c t ∧ SqL K H l xs ∧ l ≠ d ∧ 0 < xs.length ∧ xs.length < 1073741824 ∧ t < 1073741824 ∧
  ∀ H' v t', But d H H' → Pen H' d c t' → t' ≤ t + 1 → v ∈ xs → Q v H'
end Mo

namespace Mo
open PySem PySem.Spec PyProof.Rows L2
/-! ### an error that is kept behind its except suite -/
/-- at a: an error of the class cls, its own dict d -/
def exV (a : Addr) (cls : Value) (d : Option Addr) : HO := .ext fun h => ∃ oe vs, h.get? a = some oe ∧ Zc cls d oe ∧ oe.data = .fields vs
section
variable {X : Cx} {pins : List (Addr × Obj)} {σ : L2.St} {H : Hp} {s : Shared}
end
/-- what 'except x as n: kept = n' wishes of an error of the body: n in slot i, kept in slot j; behind it the error is tracked -/
def wKeep (K : PySem.W.Frag) (c : Value) (i j : Nat) (Wout : WX) (D : Ends) : WX := fun cls d σ H =>
  ∃ b, PySem.W.exmOne K cls c = some b ∧ (b = true → ∀ a, H a = none → D.nx (((σ.set i (some (.ref a))).set j (some (.ref a))).set i none) (upd H a (exV a cls d))) ∧ (b = false → Wout cls d σ H)
section
variable {X : Cx} {x n kx : Str} {c : Value} {i j : Nat} {body : List Stmt} {np np2 kp ap pos pos' : Pos} {tb : WX → TS} {Wout : WX}
end
end Mo

/-! ### isinstance and the fields of an error that has its own dict -/
namespace Mo
open PySem PySem.W PySem.Spec PySem.Calls PyProof.Rows
section
variable {prog : Program} {w : World} {A : Around} {E : Value → Shared → Prop} {s : Shared} {K : Frag} {x D : Addr} {ox oy : Obj}
theorem err_class {Q : Option Value → Shared → Prop} (C : L2.ExcC K D) (X : K.In s.heap) (I : PySem.W.InstAt s.heap x ox D (some oy)) (h : Q (some (.ref D)) { s with toks := s.toks + 1 }) : wpAny (model prog w) A (getAttr? (.ref x) "__class__") Q E s := by
  have hf : findObj K D (some oy) "__class__" = some (.bind (.builtin "getset_descriptor.__get__") (.builtin "object.__class__")) := findObj_data (by obtain ⟨cd, hc, _⟩ := any_some C.hd; rw [hc]; rfl) C.ha C.hn C.ht
  obtain ⟨hp, g, d, t, os⟩ := s
  have a0 := I.type (M := model prog w)
  have a1 := looks_findIn (M := model prog w) X C.hg
  have a2 := looks_findIn (M := model prog w) X C.hk
  have a3 := looks_find (M := model prog w) X I hf
  have sub : Looks (model prog w) hp (isInstance (.ref x) (.type "BaseException")) true := a0.andThen (looks_subIn X C.hs)
  have y2 : (Value.builtin "BaseException.__getattribute__" == Value.builtin "object.__getattribute__") = false := by decide +kernel
  have y1 : (onTheHeap (Value.ref D) && Value.builtin "BaseException.__getattribute__" == Value.builtin "object.__getattribute__") = false := by rw [y2]; rfl
  have y0 : (false && onTheHeap (Value.builtin "BaseException.__getattribute__")) = false := rfl
  unfold getAttr? getAttrBy? getAttrBy
  refine wpAny_bind (wpAny_mkText (wpAny_bind (wpAny_attempt (wpAny_holding (wpAny_bind (a0.at (wpAny_bind (a1.at ?_))))))))
  show wpAny _ _ (if (onTheHeap (Value.ref D) && Value.builtin "BaseException.__getattribute__" == Value.builtin "object.__getattribute__") = true then _ else _) _ _ _
  rw [y1, if_neg Bool.false_ne_true]
  unfold getAttrByItsOwn hookBefore
  refine wpAny_bind (by
    rw [if_pos (show onTheHeap (Value.ref D) = true from rfl)]
    refine a2.at (wpAny_bind (wpAny_attempt (wpAny_holding ?_)))
    unfold callGetattribute
    rw [y0, if_neg Bool.false_ne_true]
    unfold boundAndCalled
    rw [PySem.F.excAttr_ValueError.ga.bind (.ref x)]
    refine wpAny_bind (wpAny_pure (by
      show wpAny _ _ (call (.builtin "BaseException.__getattribute__") [.ref x, .str "__class__" t]) _ _ _
      refine wpAny_call (codeAny_call_builtin PySem.F.excAttr_ValueError.ga.plain PySem.F.entry_bexc_ga (@check_slot (model prog w) _ _ ⟨hp, g, d, t + 1, os⟩ "BaseException.__getattribute__" "BaseException" "__getattribute__" (.ref x) [.str "__class__" t] [] _ (by decide +kernel) (by decide +kernel) sub (PySem.F.args_bexc_ga (.ref x) (.str "__class__" t)) ?_))
      unfold Builtin.«object.__getattribute__»
      refine wpAny_bind (wpAny_of_eq (a := ((Value.ref x : Value), [Value.str "__class__" t])) (by first | rfl | (simp only [slotArgs]; rfl)) (wpAny_bind (wpAny_pure (wpAny_bind (a0.at (wpAny_bind (a3.at ?_)))))))
      show wpAny _ _ (holding [Value.builtin "object.__class__"] (call (.builtin "getset_descriptor.__get__") [.builtin "object.__class__", .ref x, .ref D]) >>= ret) _ _ _
      refine wpAny_bind (wpAny_holding (wpAny_call (class_get (s := ⟨hp, g, d, t + 1, os⟩) (ox := ox) (od := some oy) X I C.hm (wpAny_pure ?_))))
      show wpAny _ _ (handedOut (.ref D)) _ _ _
      rw [handedOut_of (v := .ref D) rfl]
      first | exact wpAny_pure (wpAny_pure h) | exact wpAny_pure h | exact wpAny_pure (wpAny_bind (wpAny_pure (wpAny_pure h))))))
theorem err_kit (C : L2.ExcC K D) : KitX K (.ref x) (.ref D) (fun h => ∃ ox oy, PySem.W.InstAt h x ox D (some oy)) where
  ty := fun _ _ _ ⟨_, _, I⟩ => I.type
  it := fun M h X _ => by
    obtain ⟨cd, hc, _⟩ := any_some C.hd
    unfold clsIn at hc
    split at hc
    · rename_i c' d' cd' sl' ho
      intro A' Q' E' s' k q
      unfold isType loadHead
      exact wpAny_bind (wpAny_loadPart (k _ _ (X _ _ ho)) (wpAny_pure q))
    · cases hc
  ne := fun h tp dd its n sl X htp => by
    obtain ⟨cd, hc, _⟩ := any_some C.hd
    refine Bool.eq_false_iff.mpr fun q => ?_
    obtain rfl : D = tp := Value.ref.inj (beq_iff_eq.mp q)
    unfold clsIn at hc
    split at hc
    · rename_i c' d' cd' sl' ho
      cases (X _ _ ho).symm.trans htp
    · cases hc
  ca := fun X ⟨_, _, I⟩ k => err_class C X I k
end
end Mo
namespace Mo
open PySem PySem.Spec PyProof.Rows L2
section
variable {X : Cx} {pins : List (Addr × Obj)} {σ : L2.St} {H : Hp} {s : Shared}
/-- an error at a, its class at C, its dict at dd with the fields fs -/
def ErrAt (H : Hp) (a C dd : Addr) (fs : List (Str × V)) : Prop := H a = some (exV a (.ref C) (some dd)) ∧ H dd = some (.xd fs)
/-- isinstance(err, c) -/
def rIsX (K : PySem.W.Frag) : List V → Hp → VK → Prop := fun xs H Q => ∃ (a C dd : Addr) (fs : List (Str × V)) (c : V) (u : Value) (b : Bool), xs = [.ref a, c] ∧ ErrAt H a C dd fs ∧ ExcC K C ∧ ClsV c u ∧ PySem.W.kitOne K (.ref C) u = some b ∧ Q (.bl b) H
/-- isinstance(err, (c1, c2, ..)) -/
def rIsXT (K : PySem.W.Frag) : List V → Hp → VK → Prop := fun xs H Q => ∃ (a C dd tp : Addr) (fs : List (Str × V)) (cs : List V) (us : List Value) (b : Bool), xs = [.ref a, .ref tp] ∧ ErrAt H a C dd fs ∧ ExcC K C ∧ H tp = some (.tup cs) ∧ Paired ClsV cs us ∧ PySem.W.kitAny K (.ref C) us = some b ∧ Q (.bl b) H
/-- err.f -/
def tXv (K : PySem.W.Frag) (f : Str) (te : TE) : TE := fun σ H Q => te σ H fun x H1 => ∃ (a C dd : Addr) (fs : List (Str × V)) (v : V), x = .ref a ∧ ErrAt H1 a C dd fs ∧ XfC K C ∧ PySem.W.findIn K (.ref C) f = some none ∧ fs.lookup f = some v ∧ Q v H1
end
end Mo

/-! ### defs called where no repr is under way: then repr of lists, tuples and dicts is known to the letter -/
namespace Mo
open PySem PySem.Spec PyProof.Rows L2
/-- as FnOk, for callers under no guard -/
structure FnG (P : Program) (w : World) (K : PySem.W.Frag) (mg : Str → Option Value) (base : Heap) (CX : CXT) (k : Nat) (f : Addr) (fd : FuncData) (ps : List Str) (sp : Sp) : Prop where
  len : ∀ vs H Q E, sp vs H Q E → vs.length = ps.length
  run : ∀ (A : Around) (outer : List Env) (s : Shared) (H : Hp) (args : Args) (us : List Value) (vs : List V) (Q : VK) (E : XK), Room k A → A.guards = some [] → Env0 P w K mg base A outer s H → BindsTo s fd args (ps.zip us) → Vals vs us → sp vs H Q E →
    codeAny (model P w) A (.call (.ref f) args) (CR CX outer P w H s Q E) s
section
variable {P : Program} {w : World} {K : PySem.W.Frag} {mg : Str → Option Value} {base : Heap} {CX : CXT} {k : Nat} {f : Addr} {fd : FuncData} {ps : List Str} {sp : Sp}
theorem FnG.of (F : FnOk P w K mg base CX k f fd ps sp) : FnG P w K mg base CX k f fd ps sp := ⟨F.len, fun A o s H a us vs Q E hr _ => F.run A o s H a us vs Q E hr⟩
/-- a def by its body, its guards told -/
theorem okG_of {x qual : Str} {st : Stmt} {N : List Str} (F : Fun K x qual st f fd) (S : FnScope N ps (defScope st)) (len : ∀ vs H Q E, sp vs H Q E → vs.length = ps.length)
    (hbody : ∀ (cdv : Value) (A : Around) (outer : List Env) (s : Shared) (H : Hp) (vs : List V) (Q : VK) (E : XK), Room k (A.deeper (envOfC qual (defScope st) s.heap.objs.size f cdv)) → A.guards = some [] → sp vs H Q E →
      ∃ t, PSs (cxOf CX P w K mg base N qual (defScope st) f cdv A outer s H E) (defBody st) t ∧ t { nx := fun _ H' => Q .non H', rt := Q } (start N vs) H) : FnG P w K mg base CX (k + 1) f fd ps sp := by
  obtain ⟨oc, od, kV, doc, pm, an, cdv, ct, osl, rfl, lk, hcd⟩ := F.ex
  refine ⟨len, fun A outer s H args us vs Q E hr hg e0 hb r hsp => ?_⟩
  have kept : ∀ b o, base.get? b = some o → s.heap.get? b = some o := fun b o e => (e0.bs b o e).1
  have KX : K.In s.heap := e0.mod.kin.keeps kept
  have kinds : ∀ y ∈ ps.zip us, (defScope st).names.lookup y.1 = some .local ∨ ((defScope st).names.lookup y.1 = some .cell ∧ ((cellsFrom (s.heap.objs.size + 1) (defScope st).names []).lookup y.1).isSome = true) := fun y hy =>
    (S.par y.1 (List.of_mem_zip (a := y.1) (b := y.2) hy).1).elim .inl fun q => .inr ⟨q, PySem.W.cellsFrom_some _ _ _ (.inl q)⟩
  refine codeAny_call_function hr.depth (KX _ _ lk) rfl S.co S.gen rfl (PySem.W.codeRec_of KX hcd) (hb _ _ _ _ (wpAny_newFunctionEnv_cells S.kind kinds fun env he s1 x => ?_))
  subst he
  refine ⟨(e0.mod.nolimit.keeps kept).keeps x.toInCall.keep, codeAny_func ?_⟩
  obtain ⟨t, ht, hq⟩ := hbody cdv A outer s H vs Q E (hr.deeper _) hg hsp
  have I : Inv (cxOf CX P w K mg base N qual (defScope st) f cdv A outer s H E) [] (start N vs) H s1 := inv_start S hr.hd e0 (len _ _ _ _ hsp) r x
  refine wpAny_mono (ht.run [] s1 (start N vs) H _ I hq) (fun fl s' hs => ?_) fun e s' hs => hs
  cases fl with
  | ret u => exact hs.elim fun v z => z.elim fun σ' z => z.elim fun H' z => ⟨v, H', z.1.os, z.1.bare, z.1.base, z.1.hok, z.2.1, z.2.2⟩
  | next => exact hs.elim fun σ' z => z.elim fun H' z => ⟨V.non, H', z.1.os, z.1.bare, z.1.base, z.1.hok, rfl, z.2⟩
  | brk => exact hs.elim fun _ z => z.elim fun _ z => z.2.elim
  | cont => exact hs.elim fun _ z => z.elim fun _ z => z.2.elim
/-- a def that raises nothing -/
theorem okG {x qual : Str} {st : Stmt} {N : List Str} (F : Fun K x qual st f fd) (S : FnScope N ps (defScope st)) (len : ∀ vs H Q E, sp vs H Q E → vs.length = ps.length)
    (hbody : ∀ (cdv : Value) (A : Around) (outer : List Env) (s : Shared) (H : Hp) (vs : List V) (Q : VK) (E : XK), Room k (A.deeper (envOfC qual (defScope st) s.heap.objs.size f cdv)) → A.guards = some [] → sp vs H Q E →
      ∃ t, PSs (cxOf CX0 P w K mg base N qual (defScope st) f cdv A outer s H E).nox (defBody st) t ∧ t { nx := fun _ H' => Q .non H', rt := Q } (start N vs) H) : FnG P w K mg base CX0 (k + 1) f fd ps sp :=
  okG_of F S len fun cdv A outer s H vs Q E hr hg hsp => (hbody cdv A outer s H vs Q E hr hg hsp).elim fun t z => ⟨t, z.1.nox, z.2⟩
end
section
variable {X : Cx} {CX : CXT} {x : Str} {f : Addr} {k : Nat} {fd : FuncData} {ps : List Str} {sp : Sp} {ds : List Value} {dvs : List V} {E : XK} {e : Expr} {es : List Expr} {t : TA} {p pos : Pos}
theorem run_G {pins : List (Addr × Obj)} {σ : L2.St} {H : Hp} {s : Shared} {Q : VK} {us : List Value} {vs : List V} (F : FnG X.prog X.w X.K X.mg X.base CX k f fd ps sp) (hr : Room k X.A) (hu : X.A.guards = some []) (hb : Binds X.K fd ps ds) (hd : Vals dvs ds) (hx : Passes CX X E)
    (I : Inv X pins σ H s) (r : Vals vs us) (h : sp (vs ++ dvs) H Q E) : wpAny (model X.prog X.w) X.A (call (.ref f) us) (EP X pins σ Q) X.xe s := by
  have rr : Vals (vs ++ dvs) (us ++ ds) := r.append hd
  refine wpAny_call (codeAny_mono (F.run X.A X.stack s H ⟨us, []⟩ (us ++ ds) (vs ++ dvs) Q E hr hu I.env0 (hb s us I.kIn (rr.length.symm.trans (F.len _ _ _ _ h))) rr h) fun r s' hq => ?_)
  cases r with
  | error e => exact hx pins σ H s e s' I hq
  | ok fl =>
    cases fl with
    | ret u => exact I.after hq
    | next => exact hq.elim
    | brk => exact hq.elim
    | cont => exact hq.elim
/-- f(e, ..), f by FnG -/
theorem pe_callG (F : FnG X.prog X.w X.K X.mg X.base CX k f fd ps sp) (hr : Room k X.A) (hu : X.A.guards = some []) (hg : Gl X x) (hm : X.mg x = some (.ref f)) (hk : PySem.W.keepIn X.K (.ref f) = true) (hb : Binds X.K fd ps ds) (hd : Vals dvs ds) (hx : Passes CX X E)
    (ha : PA X (e :: es) t) (hdb : (x == ("__debug__" : Str)) = false := by decide) (he : starEach (e :: es) X.env = (false, eval e X.env) :: starEach es X.env := by rfl) (hpl : (backTo pos (starEach es X.env)).any (·.1) = false := by rfl) :
    PE X (.Call (.Name x p) (e :: es) [] pos) (tCall sp dvs E t) :=
  ⟨fun pins s σ H Q I h => wpAny_Call_Name_kw (ld_glob I hg hm (PySem.W.callWith_K (h₀ := X.base) I.ok.mod.kin hk (thn (ha.run pos pins s σ H _ I h) fun us s1 ⟨vs, H1, I1, r, q⟩ => ⟨I1.kIn, run_G F hr hu hb hd hx I1 r q⟩) he hpl) hdb)⟩
end
/-! ### repr of data -/
/-- data with the empty dict -/
def Dat (K : PySem.W.Frag) (H : Hp) (x : V) (d : PyData) : Prop := Dp K H x d ∨ ∃ a, x = .ref a ∧ H a = some (.dK []) ∧ d = .dict []
section
variable {X : Cx} {pins : List (Addr × Obj)} {σ : L2.St} {H : Hp} {s : Shared}
theorem Dat.reads {x : V} {u : Value} {d : PyData} (I : Inv X pins σ H s) (h : Dat X.K H x d) (r : RelV x u) : ∃ as, Reads s.heap u d as ∧ (d.hasDict = true → sysModules ∉ as) := by
  rcases h with h | ⟨a, rfl, ha, rfl⟩
  · obtain ⟨as, q⟩ := Dp.reads I d x u h r
    have key : ∀ {x : V} {d : PyData}, Dp X.K H x d → d.hasDict = false := by
      intro x d h
      refine Dp.rec (motive_1 := fun _ d _ => d.hasDict = false) (motive_2 := fun _ ds _ => PyData.hasDictAll ds = false) ?_ ?_ ?_ ?_ ?_ ?_ ?_ ?_ h
      · rfl
      · intro b; rfl
      · intro i; rfl
      · intro z; rfl
      · intro a xs ds _ _ ih; exact ih
      · intro a xs ds _ _ ih; exact ih
      · rfl
      · intro v vs d ds _ _ i1 i2
        show (PyData.hasDict d || PyData.hasDictAll ds) = false
        rw [i1, i2]
        rfl
    exact ⟨as, q, fun z => by rw [key h] at z; cases z⟩
  · obtain rfl : u = Value.ref a := r
    obtain ⟨_, hs, vs, kv, o, es, ep, ho, hc, hdt, hes⟩ := (show ObjOk X.prog X.w H s.heap a (.dK []) from I.hok a _ ha)
    cases kv
    have e0 : es.toList = [] := by
      obtain ⟨_, hp, _⟩ := hes
      cases q : es.toList with
      | nil => rfl
      | cons x r => rw [q] at hp; cases hp
    refine ⟨_, .dict (as := []) (bs := []) ho hc.1 hdt (by rw [e0]; exact .nil) (by rw [e0]; exact .nil), fun _ z => ?_⟩
    rw [List.append_nil, List.mem_singleton] at z
    rw [← z] at hs
    simp at hs
/-- repr(data) -/
def rReprD (K : PySem.W.Frag) : List V → Hp → VK → Prop := fun xs H Q => ∃ (x : V) (d : PyData), xs = [x] ∧ Dat K H x d ∧ d.showable = true ∧ d.depth ≤ 40 ∧ d.shown.length ≤ sizeLine ∧ Q (.str d.shown) H
end
end Mo
namespace Mo
open PySem PySem.Spec PyProof.Rows L2
/-- an own error class over ValueError with one field f, its __init__ at fI -/
structure ErrC (K : PySem.W.Frag) (C fI : Addr) (f : Str) : Prop where
  oex : OexC K C
  xf : XfC K C
  exc : ExcC K C
  no : PySem.W.findIn K (.ref C) f = some none
  te : PySem.W.exmOne K (.ref C) (.ref C) = some true
  iC : PySem.W.findIn K (.ref C) "__init__" = some (some (.ref fI))
  tI : PySem.W.typeIn K (.ref fI) = some (.type "function")
/-- its __init__: self.f = y -/
def spInit (C : Addr) (f : Str) : Sp := fun vs H Q _ => ∃ (a : Addr) (y : V), vs = [.ref a, y] ∧ H a = some (exo a C none) ∧ ∀ dx, H dx = none → dx ≠ a → Q .non (upd (upd H dx (exd dx [(f, y)])) a (exo a C (some dx)))
/-- raising it: what is left to be shown -/
theorem err_read {C : Addr} {f : Str} {H : Hp} {v : V} {Q : XK} (h : ∀ d H', H d = none → Same H H' → H' d = some (.xd [(f, v)]) → Q (.ref C) (some d) H') :
    [v].length ≤ 1000 ∧ ∀ a, H a = none → spInit C f (.ref a :: ([v] ++ [])) (upd H a (exo a C none)) (fun x H2 => x = .non ∧ ∃ (d : Addr) (fs : List (Str × V)), H2 a = some (exo a C (some d)) ∧ H2 d = some (exd d fs) ∧ H d = none ∧ Q (.ref C) (some d) (upd (del H2 a) d (.xd fs))) (fun _ _ _ => False) := by
  refine ⟨by show 1 ≤ 1000; decide, fun a na => ⟨a, v, rfl, upd_same, fun dx nd ne => ⟨rfl, dx, [(f, v)], upd_same, by rw [upd_ne ne, upd_same], ?_, ?_⟩⟩⟩
  · rw [upd_ne ne] at nd
    exact nd
  · have nd' : H dx = none := by rw [upd_ne ne] at nd; exact nd
    refine h dx _ nd' (fun b o e => ?_) upd_same
    have nb : b ≠ dx := ne_of_none e nd'
    have nba : b ≠ a := ne_of_none e na
    rw [upd_ne nb, del_ne nba, upd_ne nba, upd_ne nb, upd_ne nba]
    exact e
theorem kit1_type {K : PySem.W.Frag} {C : Addr} {T : String} {b : Bool} (h : PySem.W.subIn K (.ref C) (.type T) = some b) (hm : PySem.W.kitMeta T = true) : PySem.W.kitOne K (.ref C) (.type T) = some b := by
  show (if (Value.ref C == Value.type T) = true then some true else (if PySem.W.kitMeta T = true then PySem.W.subIn K (.ref C) (.type T) else none)) = some b
  rw [if_neg (by intro z; cases beq_iff_eq.mp z), if_pos hm]
  exact h
theorem kit1_ref {K : PySem.W.Frag} {C D : Addr} (h : PySem.W.subIn K (.ref C) (.ref D) = some false) (hs : PySem.W.subIn K (.ref C) (.ref C) = some true) (hc : PySem.W.isClsIn K D = true) (ht : PySem.W.typeIn K (.ref D) = some (.type "type")) : PySem.W.kitOne K (.ref C) (.ref D) = some false := by
  have hc2 : (PySem.W.clsIn K D).isSome = true := hc
  show (if (Value.ref C == Value.ref D) = true then some true else (if ((PySem.W.clsIn K D).isSome && PySem.W.typeIn K (.ref D) == some (.type "type")) = true then PySem.W.subIn K (.ref C) (.ref D) else none)) = some false
  rw [if_neg (by intro z; rw [← beq_iff_eq.mp z, hs] at h; cases h), if_pos (by rw [hc2, ht]; rfl)]
  exact h
end Mo

/-! ### the end of a law whose promise is an FnG -/
namespace Mo
open PySem PySem.Spec PyProof.Rows L2
end Mo

/-! ### lambdas without parameters, handed to a def that calls them within a try -/
namespace Mo
open PySem PySem.Spec PyProof.Rows L2
section
variable {P : Program} {w : World} {K : PySem.W.Frag} {mg : Str → Option Value} {base : Heap} {k : Nat} {f c : Addr} {fd : FuncData} {ps : List Str} {sp : Sp}
/-- a def that raises nothing, the place of its code object told -/
theorem okT {x qual : Str} {st : Stmt} {N : List Str} (F : Fun K x qual st f fd) (hc : fd.code = .ref c) (S : FnScope N ps (defScope st)) (len : ∀ vs H Q E, sp vs H Q E → vs.length = ps.length)
    (hbody : ∀ (A : Around) (outer : List Env) (s : Shared) (H : Hp) (vs : List V) (Q : VK) (E : XK), Room k (A.deeper (envOfC qual (defScope st) s.heap.objs.size f (.ref c))) → A.guards = some [] → sp vs H Q E →
      ∃ t, PSs (cxOf CX0 P w K mg base N qual (defScope st) f (.ref c) A outer s H E).nox (defBody st) t ∧ t { nx := fun _ H' => Q .non H', rt := Q } (start N vs) H) : FnG P w K mg base CX0 (k + 1) f fd ps sp := by
  obtain ⟨oc, od, kV, doc, pm, an, cdv, ct, osl, rfl, lk, hcd⟩ := F.ex
  obtain rfl : cdv = .ref c := hc
  refine ⟨len, fun A outer s H args us vs Q E hr hg e0 hb r hsp => ?_⟩
  have stays : ∀ b o, base.get? b = some o → s.heap.get? b = some o := fun b o e => (e0.bs b o e).1
  have KX : K.In s.heap := e0.mod.kin.keeps stays
  have kinds : ∀ y ∈ ps.zip us, (defScope st).names.lookup y.1 = some .local ∨ ((defScope st).names.lookup y.1 = some .cell ∧ ((cellsFrom (s.heap.objs.size + 1) (defScope st).names []).lookup y.1).isSome = true) := fun y hy =>
    (S.par y.1 (List.of_mem_zip (a := y.1) (b := y.2) hy).1).elim .inl fun q => .inr ⟨q, PySem.W.cellsFrom_some _ _ _ (.inl q)⟩
  refine codeAny_call_function hr.depth (KX _ _ lk) rfl S.co S.gen rfl (PySem.W.codeRec_of KX hcd) (hb _ _ _ _ (wpAny_newFunctionEnv_cells S.kind kinds fun env he s1 x => ?_))
  subst he
  refine ⟨(e0.mod.nolimit.keeps stays).keeps x.toInCall.keep, codeAny_func ?_⟩
  obtain ⟨t, ht, hq⟩ := hbody A outer s H vs Q E (hr.deeper _) hg hsp
  have I : Inv (cxOf CX0 P w K mg base N qual (defScope st) f (.ref c) A outer s H E) [] (start N vs) H s1 := inv_start S hr.hd e0 (len _ _ _ _ hsp) r x
  refine wpAny_mono (ht.nox.run [] s1 (start N vs) H _ I hq) (fun fl s' hs => ?_) fun e s' hs => hs
  cases fl with
  | ret u => exact hs.elim fun v z => z.elim fun σ' z => z.elim fun H' z => ⟨v, H', z.1.os, z.1.bare, z.1.base, z.1.hok, z.2.1, z.2.2⟩
  | next => exact hs.elim fun σ' z => z.elim fun H' z => ⟨V.non, H', z.1.os, z.1.bare, z.1.base, z.1.hok, rfl, z.2⟩
  | brk => exact hs.elim fun _ z => z.elim fun _ z => z.2.elim
  | cont => exact hs.elim fun _ z => z.elim fun _ z => z.2.elim
end
/-- the call of what was got: it stands in slot i; what it lets out is wished by W there -/
def tAct (i : Nat) (fn cc : Addr) (q : Str) (tl : XK → Hp → VK → Prop) (W : WX) : TE := fun σ H Q =>
  σ[i]? = some (some (.ref fn)) ∧ H cc = some (LamX.CodeO cc q) ∧ ∃ E : XK, (∀ cls d H', E cls d H' → W cls d σ H') ∧ tl E H Q
section
variable {X : Cx} {pins : List (Addr × Obj)} {σ : L2.St} {H : Hp} {s : Shared}
/-- the def that calls what it got, by its body; TT: what it makes of the lambda's reading -/
def Gives (X : Cx) (Ng : List Str) (x : Str) (sg : Scope) (g : Addr) (cdg : Value) (bg : List Stmt) (a : Str) (q : Str) (k : Nat) (TT : (XK → Hp → VK → Prop) → Hp → VK → Prop) : Prop :=
  ∀ (fn cc : Addr) (s : Shared) (H : Hp) (Q : VK) (tl : XK → Hp → VK → Prop), Room (k + 1) (X.A.deeper (envOfC x sg s.heap.objs.size g cdg)) →
    (∀ (W : WX) (pn : List (Addr × Obj)) (xe : Value → Shared → Prop) (p1 p2 : Pos), Takes ((cxOf CX0 X.prog X.w X.K X.mg X.base Ng x sg g cdg X.A X.stack s H C8.E0).nox.tr pn xe) W →
      PE ((cxOf CX0 X.prog X.w X.K X.mg X.base Ng x sg g cdg X.A X.stack s H C8.E0).nox.tr pn xe) (.Call (.Name a p1) [] [] p2) (tAct 0 fn cc q tl W)) →
    H cc = some (LamX.CodeO cc q) → TT tl H Q →
    ∃ t, PSs (cxOf CX0 X.prog X.w X.K X.mg X.base Ng x sg g cdg X.A X.stack s H C8.E0).nox bg t ∧ t { nx := fun _ H' => Q .non H', rt := Q } (L2.start Ng [.ref fn]) H
end
section
variable {X : Cx}
end
end Mo

/-! ### the end of a law that makes lambdas: the tables of code objects are empty at the start -/
namespace Mo
open PySem PySem.Spec PyProof.Rows L2
def tab0 : Obj := { cls := .none, data := .fields #[] }
/-- what the abstract heap knows at the start: the script, and the tables ts -/
def Start (ts : List Addr) (a : Addr) (H : Hp) : Prop := (∀ b ∈ ts, H b = some (.tbl #[])) ∧ ∀ b, b ∉ ts → H b = none ∨ (b = a ∧ ∃ o xs, H b = some (.frz o (.lst xs)))
theorem callT {P : Program} {w : World} {K : PySem.W.Frag} {mg mb : Str → Option Value} {CX : CXT} {k : Nat} {fa a : Addr} {cs : List (Addr × Addr)} {fd : FuncData} {x : Str} {sp : Sp} {s₁ : Shared} {vs : List Value} {ns : List Int}
    (KX : K.In s₁.heap) (hns : s₁.heap.Ns mainGlobals mg) (hb : s₁.heap.Ns builtinsNs mb) (hbb : ∀ x : Str, x ≠ "__name__" → mb x = bootBuiltins x) (hlim : s₁.heap.NoLimit) (hg : s₁.gens = #[])
    (hT : ∀ p ∈ cs, s₁.heap.get? p.2 = some tab0) (nT : ∀ p ∈ cs, K.lookup p.2 = none) (C : ∀ p ∈ cs, PySem.W.CodeHd s₁.heap p.1 p.2)
    (bmain : ∃ (bm : Addr) (ob : Obj), mg "__builtins__" = some (.ref bm) ∧ bm ≠ builtinsNs ∧ s₁.heap.get? bm = some ob ∧ ob.cls = .type "module" ∧ ob.dict = some builtinsNs ∧ ob.data = .plain)
    (ha : s₁.heap.get? a = some { cls := .type "list", data := .seq vs.toArray }) (hi : IntsAre vs ns) (hl : ns.length ≤ sizeLine) (hr : Room k callerA)
    (F : ∀ base : Heap, K.In base → base.Ns mainGlobals mg → (∀ p ∈ cs, LamX.TabB base mg p.1 p.2) → (∀ b m, s₁.heap.Ns b m → base.Ns b m) → FnG P w K mg base CX k fa fd [x] sp) (hbind : ∀ (s : Shared) (u : Value), BindsTo s fd ⟨[u], []⟩ [(x, u)])
    (hsp : ∀ H : Hp, (∀ p ∈ cs, H p.2 = some (.tbl #[])) → SqL K H a (ns.map V.int) → sp [.ref a] H (fun v _ => v = .bl true) fun _ _ _ => False)
    (hCX : ∀ H e s', CX [] H s₁ (fun _ _ _ => False) e s' → False) :
    codeAny (model P w) callerA (.call (.ref fa) ⟨[.ref a], []⟩) (fun r s' => r = .ok (.ret (.bool true)) ∧ OldK s₁.heap s'.heap ∧ s'.os = s₁.os ∧ AllBare s'.gens) s₁ := by
  have rv := vals_ints hi
  have lenV := hi.length
  obtain ⟨ts, hts⟩ : ∃ ts : List Addr, ts = cs.map fun p => p.2 := ⟨_, rfl⟩
  have inT : ∀ p ∈ cs, p.2 ∈ ts := fun p hp => hts ▸ List.mem_map.mpr ⟨p, hp, rfl⟩
  have ofT : ∀ b ∈ ts, ∃ p ∈ cs, p.2 = b := fun b hm => List.mem_map.mp (hts ▸ hm)
  have tabAt : ∀ b ∈ ts, s₁.heap.get? b = some tab0 := fun b hm => by
    obtain ⟨p, hp, rfl⟩ := ofT b hm
    exact hT p hp
  have naT : a ∉ ts := fun z => by
    have q := (tabAt a z).symm.trans ha
    cases q
  have core : ∀ H : Hp, Start ts a H → SqL K H a (ns.map V.int) → HOk P w H s₁.heap → (H a ≠ none → K.lookup a = none) →
      codeAny (model P w) callerA (.call (.ref fa) ⟨[.ref a], []⟩) (fun r s' => r = .ok (.ret (.bool true)) ∧ OldK s₁.heap s'.heap ∧ s'.os = s₁.os ∧ AllBare s'.gens) s₁ := by
    intro H hS0 hS hok hK
    have free : ∀ {b : Addr} {o : Obj}, s₁.heap.get? b = some o → (∀ us n, o.data ≠ .seq us n) → o.data ≠ .fields #[] → H b = none := fun {b o} e no1 no2 => by
      by_cases hm : b ∈ ts
      · have q := (tabAt b hm).symm.trans e
        cases q
        exact absurd rfl no2
      · rcases hS0.2 b hm with z | ⟨rfl, _⟩
        · exact z
        · rw [ha] at e
          cases e
          exact absurd rfl (no1 _ _)
    have grnd : ∀ {b : Addr} {o : Obj}, s₁.heap.get? b = some o → H b = none → (hidT s₁.heap H).get? b = some o := fun e n => hidT_get e n
    have nsK : ∀ {b : Addr} {m : Str → Option Value}, s₁.heap.Ns b m → (hidT s₁.heap H).Ns b m := fun {b m} ⟨o, es, ep, e, d, r⟩ => ⟨o, es, ep, grnd e (free e (fun us n z => nomatch d.symm.trans z) fun z => nomatch d.symm.trans z), d, r⟩
    have hKb : K.In (hidT s₁.heap H) := fun b o e => grnd (KX b o e) (by
      by_cases hm : b ∈ ts
      · obtain ⟨p, hp, rfl⟩ := ofT b hm
        rw [nT p hp] at e
        cases e
      · rcases hS0.2 b hm with z | ⟨rfl, o1, xs, z⟩
        · exact z
        · rw [hK (by rw [z]; exact Option.some_ne_none _)] at e
          cases e)
    have hM : Mod K mg (hidT s₁.heap H) := ⟨hKb, nsK hns, ⟨mb, nsK hb, hbb⟩, hlim.elim fun mc z => ⟨mc, nsK z.1, z.2⟩⟩
    have TB : ∀ p ∈ cs, LamX.TabB (hidT s₁.heap H) mg p.1 p.2 := fun p hp => by
      have at_p := hT p hp
      refine ⟨?_, ?_, fun z => ?_⟩
      · obtain ⟨o, us, file, tf, flags, tg, inF, text, tt, e1, r1, r2, r3, rest⟩ := C p hp
        refine ⟨o, us, file, tf, flags, tg, inF, text, tt, grnd e1 (free e1 (fun vs n z => nomatch r2.symm.trans z) fun z => ?_), r1, r2, r3, rest⟩
        have q := r2.symm.trans z
        cases q
        exact absurd r3 (by simp)
      · obtain ⟨bm, ob, b1, b2, b3, b4, b5, b6⟩ := bmain
        refine ⟨bm, ob, b1, b2, fun q => ?_, fun q => ?_, grnd b3 (free b3 (fun vs n z => nomatch b6.symm.trans z) fun z => nomatch b6.symm.trans z), b4, b5, b6⟩
        · obtain ⟨o, es, ep, e, hd, _⟩ := hns
          rw [q, e] at b3
          cases b3
          cases hd.symm.trans b6
        · rw [q, at_p] at b3
          cases b3
          cases b6
      · obtain ⟨o, es, ep, e, hd, _⟩ := hns
        rw [z, at_p] at e
        cases e
        cases hd
    have e0 : Env0 P w K mg (hidT s₁.heap H) callerA [] s₁ H := ⟨rfl, hM, fun b o e => of_hidT e, Nat.le_of_eq (hidT_size _ _), trivial, fun b hb => absurd (show b ∈ ([] : List Addr) from hb) (by simp), hok, .of_eq hg⟩
    refine codeAny_mono ((F _ hKb (nsK hns) TB fun b m z => nsK z).run callerA [] s₁ H ⟨[.ref a], []⟩ [.ref a] [.ref a] _ _ hr rfl e0 (hbind s₁ (.ref a)) (.cons rfl .nil) (hsp H (fun p hp => hS0.1 _ (inT p hp)) hS)) fun r s' h => ?_
    cases r with
    | error e => exact (hCX H e s' h).elim
    | ok fl =>
      cases fl with
      | next => exact h.elim
      | brk => exact h.elim
      | cont => exact h.elim
      | ret u =>
        obtain ⟨v, H', os, bare, un, hok', r', q⟩ := h
        obtain rfl : v = .bl true := q
        obtain rfl : u = Value.bool true := r'
        have same : ∀ b o, b ∉ ts → s₁.heap.get? b = some o → s'.heap.get? b = some o := fun b o hm e => by
          rcases hS0.2 b hm with z | ⟨_, ob, xs, z⟩
          · exact un.keep b o e z (by intro z; exact absurd (show b ∈ ([] : List Addr) from z) (by simp)) (by simp)
          · have e1 := (hok b _ z).1
            rw [e] at e1
            cases e1
            exact (hok' b _ (un.frzs b _ _ z)).1
        have more : ∀ b ∈ ts, ∃ us : Array Value, s'.heap.get? b = some { cls := .none, data := .fields us } := fun b hm => by
          obtain ⟨us, z⟩ := un.tbls b #[] (hS0.1 b hm)
          exact ⟨_, hok' b _ z⟩
        refine ⟨rfl, ⟨fun b o e => ?_, fun b o e => ?_⟩, os, bare⟩
        · by_cases hm : b ∈ ts
          · obtain ⟨us, z⟩ := more b hm
            obtain ⟨p, hp, rfl⟩ := ofT b hm
            have q := (hT p hp).symm.trans e
            cases q
            exact .inr (.inl ⟨((C p hp).tab (hT p hp)).isCodeTable, rfl, #[], us, rfl, by rw [Array.empty_append]; exact z⟩)
          · exact .inl (same b o hm e)
        · by_cases hm : b ∈ ts
          · exact (more b hm).elim fun us z => ⟨_, z⟩
          · exact ⟨o, same b o hm e⟩
  cases hk : K.lookup a with
  | some o =>
    have e := (KX a o hk).symm.trans ha
    cases e
    have no : ∀ b, b ∉ ts → (if b ∈ ts then some (HO.tbl #[]) else none) = none := fun b hm => if_neg hm
    refine core (fun b => if b ∈ ts then some (.tbl #[]) else none) ⟨fun b hm => if_pos hm, fun b hm => .inl (no b hm)⟩ (.inr ⟨_, vs.toArray, _, hk, rfl, rfl, rfl, by rw [List.size_toArray, lenV]; exact hl, by simpa using rv⟩) (fun b u z => ?_) fun z => absurd (no a naT) z
    by_cases hm : b ∈ ts
    · have q := (if_pos hm).symm.trans z
      cases q
      exact tabAt b hm
    · cases (no b hm).symm.trans z
  | none =>
    have at_a : ∀ {u : HO}, (if a = a then some u else if a ∈ ts then some (HO.tbl #[]) else none) = some u := fun {u} => if_pos rfl
    have nb : ∀ b ∈ ts, b ≠ a := fun b hm z => naT (z ▸ hm)
    refine core (fun b => if b = a then some (.frz { cls := .type "list", data := .seq vs.toArray } (.lst (ns.map V.int))) else if b ∈ ts then some (.tbl #[]) else none)
      ⟨fun b hm => (if_neg (nb b hm)).trans (if_pos hm), fun b hm => ?_⟩ (.inl (.inr ⟨{ cls := .type "list", data := .seq vs.toArray }, at_a⟩)) (fun b u z => ?_) fun _ => hk
    · by_cases e : b = a
      · exact .inr ⟨e, _, _, if_pos e⟩
      · exact .inl ((if_neg e).trans (if_neg hm))
    · by_cases e : b = a
      · have q := (if_pos e).symm.trans z
        cases q
        rw [e]
        exact ⟨ha, by rw [List.length_map]; exact hl, vs, _, rv, ha⟩
      · have q := (if_neg e).symm.trans z
        by_cases hm : b ∈ ts
        · have q1 := (if_pos hm).symm.trans q
          cases q1
          exact tabAt b hm
        · cases (if_neg hm).symm.trans q
/-- the tables of the defs of the text are empty when the law is called -/
def Empties (q : Program) (K : PySem.W.Frag) (mg : Str → Option Value) (h : Heap) : Prop := ∀ (n : Str) (a c P : Addr) (o : Obj) (fd : FuncData), ((recsOf q).any fun e => e.name == n) = true → mg n = some (.ref a) → K.lookup a = some o → o.data = .func fd → fd.code = .ref c → PySem.W.codeHdIn K c P = true → h.get? P = some tab0
/-- what is known of the law's promise at the head's heap -/
def LawT (l : PySem.W.OpenLaw) (w : World) (K : PySem.W.Frag) (CX : CXT) (k n : Nat) (x : Str) (mg : Str → Option Value) (fa : Addr) (h : Heap) : Prop :=
  ∃ (fd : FuncData) (cs : List (Addr × Addr)) (sp : Sp), (∀ p ∈ cs, h.get? p.2 = some tab0) ∧ (∀ p ∈ cs, K.lookup p.2 = none) ∧ (∀ p ∈ cs, PySem.W.codeHdIn K p.1 p.2 = true) ∧ (∀ (s : Shared) (u : Value), BindsTo s fd ⟨[u], []⟩ [(x, u)]) ∧
    (∀ (H : Hp) (a : Addr) (ns : List Int), ns.length ≤ n → (∀ p ∈ cs, H p.2 = some (.tbl #[])) → SqL K H a (ns.map V.int) → sp [.ref a] H (fun v _ => v = .bl true) fun _ _ _ => False) ∧
    ∀ base : Heap, K.In base → base.Ns mainGlobals mg → (∀ p ∈ cs, LamX.TabB base mg p.1 p.2) → (∃ mm, base.Ns sysModules mm) → FnG l.prog w K mg base CX k fa fd [x] sp
theorem walkT {l : PySem.W.OpenLaw} {n k : Nat} {q : Program} {loose : List Str} {XP : (Str → Option Value) → Heap → Prop} {YP : World → Heap → Prop} {d : DefRec} {K : Params → PySem.W.Frag} {CX : World → CXT} {x : Str}
    (hn : l.most = some n) (hn2 : n ≤ sizeLine) (hdf : d.params.defaults = []) (hr : Room k callerA) (hY : ∀ (w : World) (h : Heap), YP w h → (K w.params).In h) (hi : importsNone q = true)
    (F : ∀ (w : World) (mg : Str → Option Value) (fa : Addr) (h : Heap), (K w.params).In h → h.Ns mainGlobals mg → mg d.name = some (.ref fa) → Empties q (K w.params) mg h → LawT l w (K w.params) (CX w) k n x mg fa h)
    (hCX : ∀ (w : World) (H : Hp) (s : Shared) (e : Value) (s' : Shared), CX w [] H s (fun _ _ _ => False) e s' → False) :
    PySem.W.WalkO q loose XP YP l.row.toRowW d [] (fun f vs => PySem.call f vs) := by
  refine Att.attach_call hn hdf fun w s₀ s₁ mg mb fa o pm cd doc a vs ns G Y ho hd hcd hmg hobj hints hlen hg => ?_
  have KX := hY w _ Y
  have em : Empties q (K w.params) mg s₁.heap := fun n1 a1 c1 P1 o1 fd1 hrec g1 g2 g3 g4 g5 => by
    obtain ⟨dL, hm, en⟩ := List.any_eq_true.mp hrec
    have en2 : dL.name = n1 := beq_iff_eq.mp en
    obtain ⟨a2, o2, fd2, c2, P2, t1, t2, t3, t4, _, ⟨oc, vc, u1, _, u3, u4⟩, hP⟩ := G.T.tab dL hm
    cases (by rw [en2, g1] at t1; exact t1 : some (Value.ref a1) = some (Value.ref a2))
    have x1 := (KX _ _ g2).symm.trans t2
    cases x1
    cases g3.symm.trans t3
    cases g4.symm.trans t4
    obtain ⟨ob, us, _, _, _, _, _, _, _, y1, _, y2, y3, _⟩ := PySem.W.codeHd_of_K KX g5
    cases y1.symm.trans u1
    cases y2.symm.trans u3
    cases y3.symm.trans u4
    exact hP
  obtain ⟨fd, cs, sp, hT, nT, C, hb, hsp, hF⟩ := F w mg fa _ KX G.T.g hmg em
  obtain ⟨mm, hmm, _⟩ := (G.T.seer hi).mods
  exact callT KX G.T.g G.T.b G.T.builtins G.T.nolimit hg hT nT (fun p hp => PySem.W.codeHd_of_K KX (C p hp)) G.T.bmain hobj hints (Nat.le_trans hlen hn2) hr (fun base a b c d => hF base a b c ⟨mm, d _ _ hmm⟩) hb (fun H hH hS => hsp H a ns hlen hH hS) fun H e s' => hCX w H s₁ e s'
end Mo

namespace Mo
open PySem PySem.Spec PyProof.Rows L2
/-! ### normal forms, over lists of codes -/
theorem idx_at {ns : List Nat} {c : Nat} (h : c ∈ ns) : ns[ns.idxOf c]? = some c := by
  have hl := List.idxOf_lt_length_of_mem h
  rw [List.getElem?_eq_getElem hl, List.getElem_idxOf hl]
/-- the code of the sign's place in the order of first occurrence -/
def nfc (cs : List Nat) (c : Nat) : Nat := 97 + (met cs).idxOf c
def nf (cs : List Nat) : List Nat := cs.map (nfc cs)
theorem met_map_key (f : Nat → Nat) : ∀ (cs acc : List Nat), (∀ x y, x ∈ acc ++ cs → y ∈ acc ++ cs → f x = f y → x = y) → (cs.map f).foldl metStep (acc.map f) = (cs.foldl metStep acc).map f
  | [], acc, _ => rfl
  | c :: cs, acc, h => by
    rw [List.map_cons, List.foldl_cons, List.foldl_cons]
    have e : metStep (acc.map f) (f c) = (metStep acc c).map f := by
      unfold metStep
      by_cases q : c ∈ acc
      · rw [if_pos q, if_pos (List.mem_map.mpr ⟨c, q, rfl⟩)]
      · have q2 : ¬ f c ∈ acc.map f := fun z => by
          obtain ⟨x, hx, e⟩ := List.mem_map.mp z
          exact q (h x c (by simp [hx]) (by simp) e ▸ hx)
        rw [if_neg q, if_neg q2, List.map_append]
        rfl
    rw [e]
    refine met_map_key f cs (metStep acc c) fun x y hx hy => h x y ?_ ?_
    · rcases List.mem_append.mp hx with z | z
      · rcases mem_metStep.mp z with z | z
        · simp [z]
        · simp [z]
      · simp [z]
    · rcases List.mem_append.mp hy with z | z
      · rcases mem_metStep.mp z with z | z
        · simp [z]
        · simp [z]
      · simp [z]
theorem met_map {f : Nat → Nat} {cs : List Nat} (h : ∀ x y, x ∈ cs → y ∈ cs → f x = f y → x = y) : met (cs.map f) = (met cs).map f := by
  have q := met_map_key f cs [] (by simpa using h)
  exact q
theorem nfc_inj {cs : List Nat} {x y : Nat} (hx : x ∈ cs) (hy : y ∈ cs) (e : nfc cs x = nfc cs y) : x = y := by
  unfold nfc at e
  have h1 := idx_at (mem_met.mpr hx)
  have h2 := idx_at (mem_met.mpr hy)
  rw [show (met cs).idxOf x = (met cs).idxOf y by omega] at h1
  rw [h1] at h2
  exact Option.some.inj h2
theorem nfc_lt {cs : List Nat} {c : Nat} (h : c ∈ cs) : (met cs).idxOf c < (met cs).length := List.idxOf_lt_length_of_mem (mem_met.mpr h)
/-- a pattern, as its codes -/
structure Pat (cs : List Nat) : Prop where
  len : cs.length ≤ 40
  low : Low cs
  few : (met cs).length ≤ 8
theorem Pat.nil : Pat [] := ⟨by decide, fun c h => by simp at h, by decide⟩
theorem Pat.map {f : Nat → Nat} {cs : List Nat} (p : Pat cs) (h : ∀ x y, x ∈ cs → y ∈ cs → f x = f y → x = y) (hl : ∀ c ∈ cs, 97 ≤ f c ∧ f c ≤ 122) : Pat (cs.map f) :=
  ⟨by rw [List.length_map]; exact p.len, fun x hx => by obtain ⟨c, hc, rfl⟩ := List.mem_map.mp hx; exact hl c hc, by rw [met_map h, List.length_map]; exact p.few⟩
theorem Pat.nf {cs : List Nat} (p : Pat cs) : Pat (nf cs) := p.map (fun _ _ hx hy e => nfc_inj hx hy e) fun c hc => by
  have h1 := nfc_lt hc
  have h2 := p.few
  unfold nfc
  omega
theorem met_take_snoc {cs : List Nat} {i c : Nat} (h : cs[i]? = some c) : met (cs.take (i + 1)) = metStep (met (cs.take i)) c := by
  rw [List.take_add_one, h]
  exact met_snoc _ _
end Mo

namespace Mo
open PySem PySem.Spec PyProof.Rows L2
/-! ### the pen -/
def nxtD (c : Addr) (t r : Int) : List (Key × V) := [(.inr "cells", .ref c), (.inr "next", .int t), (.inr "rest", .int r)]
theorem n_ct : ¬ ((Sum.inr "cells" : Key) = (Sum.inr "next" : Key)) := by decide +kernel
theorem n_cr : ¬ ((Sum.inr "cells" : Key) = (Sum.inr "rest" : Key)) := by decide +kernel
theorem n_tr : ¬ ((Sum.inr "next" : Key) = (Sum.inr "rest" : Key)) := by decide +kernel
theorem nxt_cells (c : Addr) (t r : Int) : valV (nxtD c t r) (Sum.inr "cells") = some (.ref c) := valV_pos rfl
theorem nxt_next (c : Addr) (t r : Int) : valV (nxtD c t r) (Sum.inr "next") = some (.int t) := by
  unfold nxtD
  rw [valV_neg n_ct, valV_pos rfl]
theorem nxt_rest (c : Addr) (t r : Int) : valV (nxtD c t r) (Sum.inr "rest") = some (.int r) := by
  unfold nxtD
  rw [valV_neg n_cr, valV_neg n_tr, valV_pos rfl]
theorem nput_next (c : Addr) (t r u : Int) : putK (nxtD c t r) (Sum.inr "next") (.int u) = nxtD c u r := by
  unfold putK nxtD
  have k1 := n_ct
  have k2 : ¬ ((Sum.inr "rest" : Key) = (Sum.inr "next" : Key)) := fun e => n_tr e.symm
  simp only [List.any_cons, List.map_cons, List.map_nil, k1, k2, if_false, if_true, decide_true, decide_false, Bool.true_or, Bool.or_true, Bool.false_or]
theorem nput_rest (c : Addr) (t r u : Int) : putK (nxtD c t r) (Sum.inr "rest") (.int u) = nxtD c t u := by
  unfold putK nxtD
  have k1 := n_cr
  have k2 := n_tr
  simp only [List.any_cons, List.map_cons, List.map_nil, k1, k2, if_false, if_true, decide_true, decide_false, Bool.true_or, Bool.or_true, Bool.false_or]
theorem nxt_merge (c : Addr) (t r : Int) : mergeK [] (nxtD c t r) = nxtD c t r := by
  have k1 := n_ct
  have k2 := n_cr
  have k3 := n_tr
  simp only [mergeK, nxtD, putK, List.foldl_cons, List.foldl_nil, List.any_nil, List.any_cons, List.nil_append, List.cons_append, k1, k2, k3, decide_false, Bool.or_false, Bool.false_eq_true, if_false]
/-- the pen at d, its cells at c, t draws done -/
def Nxt (H : Hp) (d c : Addr) (t : Nat) : Prop := ∃ (ns : List Int) (r : Int), H d = some (.dK (nxtD c t r)) ∧ H c = some (.lst (ns.map V.int)) ∧ ns.length ≤ 63 ∧ 0 ≤ r
theorem Nxt.ne {H : Hp} {d c : Addr} {t : Nat} (h : Nxt H d c t) : d ≠ c := by
  obtain ⟨ns, r, h1, h2, _⟩ := h
  exact ne_of h1 h2 (by intro z; cases z)
theorem Nxt.new {H : Hp} {d c : Addr} {t : Nat} (h : Nxt H d c t) {p : Addr} (hp : H p = none) : p ≠ d ∧ p ≠ c := by
  obtain ⟨ns, r, h1, h2, _⟩ := h
  exact ⟨(ne_of_none h1 hp).symm, (ne_of_none h2 hp).symm⟩
theorem Nxt.upd {H : Hp} {d c : Addr} {t : Nat} (h : Nxt H d c t) {p : Addr} {o : HO} (h1 : p ≠ d) (h2 : p ≠ c) : Nxt (upd H p o) d c t := by
  obtain ⟨ns, r, e1, e2, e3⟩ := h
  exact ⟨ns, r, by rw [upd_ne h1.symm]; exact e1, by rw [upd_ne h2.symm]; exact e2, e3⟩
theorem Nxt.same {H H' : Hp} {d c : Addr} {t : Nat} (h : Nxt H d c t) (s : Same H H') : Nxt H' d c t := by
  obtain ⟨ns, r, e1, e2, e3⟩ := h
  exact ⟨ns, r, s _ _ e1, s _ _ e2, e3⟩
theorem nxt_set {H : Hp} {d c : Addr} {t : Nat} (h : Nxt H d c t) {u : Nat} {r : Int} (hr : 0 ≤ r) : Nxt (L2.upd H d (.dK (nxtD c u r))) d c u := by
  have n := h.ne
  obtain ⟨ns, r0, e1, e2, e3, _⟩ := h
  exact ⟨ns, r, upd_same, by rw [upd_ne n.symm]; exact e2, e3, hr⟩
def spNDraw : Sp := fun vs H Q _ => ∃ (d c : Addr) (n : Int) (t : Nat), vs = [.ref d, .int n] ∧ Nxt H d c t ∧ 0 < n ∧ n < 1073741824 ∧ t < 1073741824 ∧
  ∀ H' k t', But d H H' → Nxt H' d c t' → t' ≤ t + 1 → 0 ≤ k → k < n → Q (.int k) H'
def spNPick (K : PySem.W.Frag) : Sp := fun vs H Q _ => ∃ (d c l : Addr) (xs : List V) (t : Nat), vs = [.ref d, .ref l] ∧ Nxt H d c t ∧ SqL K H l xs ∧ l ≠ d ∧ 0 < xs.length ∧ xs.length < 1073741824 ∧ t < 1073741824 ∧
  ∀ H' v t', But d H H' → Nxt H' d c t' → t' ≤ t + 1 → v ∈ xs → Q v H'
end Mo

/-! ### data of any kind: None, bools, ints, texts, lists, tuples, dicts (keys ints and texts), at any depth -/
namespace Mo
open PySem PySem.Spec PyProof.Rows L2
def keyD : Key → PyData
  | .inl i => .int i
  | .inr x => .str x
mutual
inductive Dx (N : Addr → Prop) (H : Hp) : V → PyData → Prop
  | non : Dx N H .non .none
  | bl (b : Bool) : Dx N H (.bl b) (.bool b)
  | int (i : Int) : Dx N H (.int i) (.int i)
  | str (x : Str) : Dx N H (.str x) (.str x)
  | lst {a : Addr} {xs : List V} {ds : List PyData} : H a = some (.lst xs) → ¬ N a → DxAll N H xs ds → Dx N H (.ref a) (.list ds)
  | tup {a : Addr} {xs : List V} {ds : List PyData} : H a = some (.tup xs) → ¬ N a → DxAll N H xs ds → Dx N H (.ref a) (.tuple ds)
  | dct {a : Addr} {kvs : List (Key × V)} {ds : List PyData} : H a = some (.dK kvs) → ¬ N a → DxAll N H (kvs.map (·.2)) ds → Dx N H (.ref a) (.dict ((kvs.map fun kv => keyD kv.1).zip ds))
inductive DxAll (N : Addr → Prop) (H : Hp) : List V → List PyData → Prop
  | nil : DxAll N H [] []
  | cons {v : V} {vs : List V} {d : PyData} {ds : List PyData} : Dx N H v d → DxAll N H vs ds → DxAll N H (v :: vs) (d :: ds)
end
theorem DxAll.length {N : Addr → Prop} {H : Hp} : ∀ {vs : List V} {ds : List PyData}, DxAll N H vs ds → vs.length = ds.length
  | _, _, .nil => rfl
  | _, _, .cons _ t => by rw [List.length_cons, List.length_cons, DxAll.length t]
mutual
theorem Dx.same {N : Addr → Prop} {H H' : Hp} (s : Same H H') : ∀ {v : V} {d : PyData}, Dx N H v d → Dx N H' v d
  | _, _, .non => .non
  | _, _, .bl b => .bl b
  | _, _, .int i => .int i
  | _, _, .str x => .str x
  | _, _, .lst h n t => .lst (s _ _ h) n (DxAll.same s t)
  | _, _, .tup h n t => .tup (s _ _ h) n (DxAll.same s t)
  | _, _, .dct h n t => .dct (s _ _ h) n (DxAll.same s t)
theorem DxAll.same {N : Addr → Prop} {H H' : Hp} (s : Same H H') : ∀ {v : List V} {d : List PyData}, DxAll N H v d → DxAll N H' v d
  | _, _, .nil => .nil
  | _, _, .cons h t => .cons (Dx.same s h) (DxAll.same s t)
end
mutual
/-- all but what N names, which the data does not hold -/
theorem Dx.but {N : Addr → Prop} {H H' : Hp} (s : ∀ b o, ¬ N b → H b = some o → H' b = some o) : ∀ {v : V} {d : PyData}, Dx N H v d → Dx N H' v d
  | _, _, .non => .non
  | _, _, .bl b => .bl b
  | _, _, .int i => .int i
  | _, _, .str x => .str x
  | _, _, .lst h n t => .lst (s _ _ n h) n (DxAll.but s t)
  | _, _, .tup h n t => .tup (s _ _ n h) n (DxAll.but s t)
  | _, _, .dct h n t => .dct (s _ _ n h) n (DxAll.but s t)
theorem DxAll.but {N : Addr → Prop} {H H' : Hp} (s : ∀ b o, ¬ N b → H b = some o → H' b = some o) : ∀ {v : List V} {d : List PyData}, DxAll N H v d → DxAll N H' v d
  | _, _, .nil => .nil
  | _, _, .cons h t => .cons (Dx.but s h) (DxAll.but s t)
end
mutual
/-- another N that names no more of what is there -/
theorem Dx.more {N N' : Addr → Prop} {H : Hp} (s : ∀ b, H b ≠ none → N' b → N b) : ∀ {v : V} {d : PyData}, Dx N H v d → Dx N' H v d
  | _, _, .non => .non
  | _, _, .bl b => .bl b
  | _, _, .int i => .int i
  | _, _, .str x => .str x
  | _, _, .lst h n t => .lst h (fun z => n (s _ (by rw [h]; exact Option.some_ne_none _) z)) (DxAll.more s t)
  | _, _, .tup h n t => .tup h (fun z => n (s _ (by rw [h]; exact Option.some_ne_none _) z)) (DxAll.more s t)
  | _, _, .dct h n t => .dct h (fun z => n (s _ (by rw [h]; exact Option.some_ne_none _) z)) (DxAll.more s t)
theorem DxAll.more {N N' : Addr → Prop} {H : Hp} (s : ∀ b, H b ≠ none → N' b → N b) : ∀ {v : List V} {d : List PyData}, DxAll N H v d → DxAll N' H v d
  | _, _, .nil => .nil
  | _, _, .cons h t => .cons (Dx.more s h) (DxAll.more s t)
end
theorem DxAll.append {N : Addr → Prop} {H : Hp} : ∀ {vs ws : List V} {ds es : List PyData}, DxAll N H vs ds → DxAll N H ws es → DxAll N H (vs ++ ws) (ds ++ es)
  | _, _, _, _, .nil, h => h
  | _, _, _, _, .cons a t, h => .cons a (DxAll.append t h)
theorem DxAll.get {N : Addr → Prop} {H : Hp} : ∀ {vs : List V} {ds : List PyData} {i : Nat} {v : V}, DxAll N H vs ds → vs[i]? = some v → ∃ d, ds[i]? = some d ∧ Dx N H v d
  | _, _, _, _, .nil, h => by simp at h
  | _, _, 0, _, .cons a t, h => by
    obtain rfl := Option.some.inj h
    exact ⟨_, rfl, a⟩
  | _, _, i + 1, _, .cons a t, h => by
    obtain ⟨d, e, q⟩ := DxAll.get (i := i) t h
    exact ⟨d, e, q⟩
theorem DxAll.mem {N : Addr → Prop} {H : Hp} {vs : List V} {ds : List PyData} {v : V} (h : DxAll N H vs ds) (hv : v ∈ vs) : ∃ d ∈ ds, Dx N H v d := by
  obtain ⟨i, hi⟩ := List.mem_iff_getElem?.mp hv
  obtain ⟨d, e, q⟩ := h.get hi
  exact ⟨d, List.mem_of_getElem? e, q⟩
section
variable {X : Cx} {N : Addr → Prop} {pins : List (Addr × Obj)} {σ : L2.St} {H : Hp} {s : Shared}
theorem key_reads {h : Heap} {k : Key} {u : Value} (e : keyIs k u = true) : Reads h u (keyD k) [] := by
  rcases keyIs_shape e with ⟨i, t, rfl, rfl⟩ | ⟨z, t, rfl, rfl⟩
  · exact .int i t
  · exact .str z t
theorem keys_read {P : Program} {w : World} {h : Heap} : ∀ {es : List DictEntry} {vs : List (Key × Value)}, Pairs (mixKind P w) es vs → ReadsAll h (es.map (·.key)) (vs.map fun kv => keyD kv.1) []
  | _, _, .nil => .nil
  | _, _, .cons e _ t => by
    have q := ReadsAll.cons (key_reads (h := h) e) (keys_read t)
    exact q
theorem vals_eq {P : Program} {w : World} : ∀ {es : List DictEntry} {vs : List (Key × Value)}, Pairs (mixKind P w) es vs → es.map (·.val) = vs.map (·.2)
  | _, _, .nil => rfl
  | _, _, .cons _ e t => by
    rw [List.map_cons, List.map_cons, e, vals_eq t]
theorem kv_keys : ∀ {kvs : List (Key × V)} {vs : List (Key × Value)}, KV kvs vs → kvs.map (fun kv => keyD kv.1) = vs.map (fun kv => keyD kv.1)
  | _, _, .nil => rfl
  | _, _, .cons h t => by
    rw [List.map_cons, List.map_cons, h.1, kv_keys t]
theorem kv_vals : ∀ {kvs : List (Key × V)} {vs : List (Key × Value)}, KV kvs vs → Vals (kvs.map (·.2)) (vs.map (·.2))
  | _, _, .nil => .nil
  | _, _, .cons h t => .cons h.2 (kv_vals t)
mutual
theorem Dx.reads (I : Inv X pins σ H s) (hs : H sysModules = none) : ∀ {x : V} {d : PyData}, Dx N H x d → ∀ {u : Value}, RelV x u → ∃ as, Reads s.heap u d as ∧ sysModules ∉ as
  | _, _, .non, u, r => by
    obtain rfl : u = Value.none := r
    exact ⟨[], .none, by simp⟩
  | _, _, .bl b, u, r => by
    obtain rfl : u = Value.bool b := r
    exact ⟨[], .bool b, by simp⟩
  | _, _, .int i, u, r => by
    obtain ⟨t, rfl⟩ : ∃ t, u = Value.int i t := r
    exact ⟨[], .int i t, by simp⟩
  | _, _, .str x, u, r => by
    obtain ⟨t, rfl⟩ : ∃ t, u = Value.str x t := r
    exact ⟨[], .str x t, by simp⟩
  | _, _, .lst (a := a) (xs := xs) ha hN t, u, r => by
    obtain rfl : u = Value.ref a := r
    obtain ⟨_, its, n, rv, e⟩ := (show ObjOk X.prog X.w H s.heap a (.lst xs) from I.hok a _ ha)
    obtain ⟨as, q, ns⟩ := DxAll.reads I hs t rv
    refine ⟨a :: as, .list e rfl rfl (by simpa using q), fun z => ?_⟩
    rcases List.mem_cons.mp z with z | z
    · rw [z, ha] at hs
      cases hs
    · exact ns z
  | _, _, .tup (a := a) (xs := xs) ha hN t, u, r => by
    obtain rfl : u = Value.ref a := r
    obtain ⟨_, its, rv, o, e, hc, n, hd⟩ := (show ObjOk X.prog X.w H s.heap a (.tup xs) from I.hok a _ ha)
    obtain ⟨as, q, ns⟩ := DxAll.reads I hs t rv
    exact ⟨as, .tuple e hc hd (by simpa using q), ns⟩
  | _, _, .dct (a := a) (kvs := kvs) (ds := ds) ha hN t, u, r => by
    obtain rfl : u = Value.ref a := r
    obtain ⟨_, _, vs, kv, o, es, ep, ho, hc, hdt, _, hp, _⟩ := (show ObjOk X.prog X.w H s.heap a (.dK kvs) from I.hok a _ ha)
    obtain ⟨as, q, ns⟩ := DxAll.reads I hs t (kv_vals kv)
    have hl := DxAll.length t
    have hl2 : (kvs.map fun kv => keyD kv.1).length = ds.length := by rw [List.length_map, ← hl, List.length_map]
    have k1 := keys_read (h := s.heap) hp
    rw [← kv_keys kv] at k1
    refine ⟨_, .dict (as := []) (bs := as) ho hc.1 hdt ?_ ?_, fun z => ?_⟩
    · rw [List.map_fst_zip (Nat.le_of_eq hl2)]
      exact k1
    · rw [List.map_snd_zip (Nat.le_of_eq hl2.symm), vals_eq hp]
      exact q
    · rcases List.mem_append.mp z with z | z
      · rw [List.mem_singleton.mp z, ha] at hs
        cases hs
      · exact ns z
theorem DxAll.reads (I : Inv X pins σ H s) (hs : H sysModules = none) : ∀ {xs : List V} {ds : List PyData}, DxAll N H xs ds → ∀ {us : List Value}, Vals xs us → ∃ as, ReadsAll s.heap us ds as ∧ sysModules ∉ as
  | _, _, .nil, _, .nil => ⟨[], .nil, by simp⟩
  | _, _, .cons h t, _, .cons r rs => by
    obtain ⟨as, q, n⟩ := Dx.reads I hs h r
    obtain ⟨bs, q2, n2⟩ := DxAll.reads I hs t rs
    exact ⟨as ++ bs, .cons q q2, fun z => (List.mem_append.mp z).elim n n2⟩
end
/-- repr(data) -/
def rReprX : List V → Hp → VK → Prop := fun xs H Q => ∃ (N : Addr → Prop) (x : V) (d : PyData), xs = [x] ∧ Dx N H x d ∧ d.showable = true ∧ d.depth ≤ 40 ∧ d.shown.length ≤ sizeLine ∧ Q (.str d.shown) H
theorem cr_reprX (hb : ∃ mm, X.base.Ns sysModules mm) (hg : X.A.guards = some []) (hu : X.A.units + 64 < cLine) : CallR X (.builtin "repr") rReprX := by
  intro pins s σ H xs us Q I r h
  obtain ⟨N, x, d, rfl, hd, hs, hdp, hz, q⟩ := h
  obtain ⟨u, rfl, ru⟩ := vals1 r
  have h1 : H sysModules = none := by
    obtain ⟨mm, o, es, ep, e, _⟩ := hb
    exact (I.bs _ _ e).2
  obtain ⟨as, rd, hsm⟩ := Dx.reads I h1 hd ru
  cases rd with
  | none => exact PySem.P.repr_of_none ⟨.str _, H, I.tok _, ⟨_, rfl⟩, q⟩
  | bool b => exact PySem.P.repr_of_bool ⟨.str _, H, I.tok _, ⟨_, rfl⟩, q⟩
  | int i t => exact PySem.P.repr_of_int (of_decide_eq_true hs) ⟨.str _, H, I.tok _, ⟨_, rfl⟩, q⟩
  | str z t => exact PySem.P.repr_of_str ⟨.str _, H, I.tok _, ⟨_, rfl⟩, q⟩ hz
  | list a1 a2 a3 a4 => exact repr_of_reads' (.list a1 a2 a3 a4) hs (fun _ => hsm) hg (by omega) (fun _ _ e => e) (fun h' u' tk hk => ⟨.str _, H, I.kept (t' := tk) hk, ⟨_, rfl⟩, q⟩) hz
  | tuple a1 a2 a3 a4 => exact repr_of_reads' (.tuple a1 a2 a3 a4) hs (fun _ => hsm) hg (by omega) (fun _ _ e => e) (fun h' u' tk hk => ⟨.str _, H, I.kept (t' := tk) hk, ⟨_, rfl⟩, q⟩) hz
  | dict a1 a2 a3 a4 a5 => exact repr_of_reads' (.dict a1 a2 a3 a4 a5) hs (fun _ => hsm) hg (by omega) (fun _ _ e => e) (fun h' u' tk hk => ⟨.str _, H, I.kept (t' := tk) hk, ⟨_, rfl⟩, q⟩) hz
end
end Mo

/-! ### rules for data of any kind -/
namespace Mo
open PySem PySem.Spec PyProof.Rows L2
section
variable {X : Cx}
/-- a list of anything == [] -/
def rEqNil (K : PySem.W.Frag) : R2 := fun x y H Q => ∃ a b xs, x = .ref a ∧ y = .ref b ∧ SqL K H a xs ∧ SqL K H b [] ∧ Q (.bl xs.isEmpty) H
theorem op_eqNil (hu : X.A.units + 64 < cLine) : OpR X (compareOp .Eq) (rEqNil X.K) := by
  intro pins s σ H x y v u Q I rx ry h
  obtain ⟨a, b, xs, rfl, rfl, ha, hb, q⟩ := h
  cases rx
  cases ry
  obtain ⟨is, r1, p1, _⟩ := I.list ha
  obtain ⟨js, r2, p2, _⟩ := I.list hb
  cases r2
  cases r1 with
  | nil => exact SeqAt.eq_listAt (e := fun _ => true) p1.isList p2.isList rfl (by omega) (fun j h1 => absurd h1 (by simp)) ⟨.bl true, H, I, rfl, q⟩
  | cons r rs => exact SeqAt.eq_list_lengthsAt p1.isList p2.isList (by simp) (by omega) ⟨.bl false, H, I, rfl, q⟩
/-- a list of anything != [] -/
def rNeNil (K : PySem.W.Frag) : R2 := fun x y H Q => ∃ a b xs, x = .ref a ∧ y = .ref b ∧ SqL K H a xs ∧ SqL K H b [] ∧ Q (.bl (!xs.isEmpty)) H
theorem op_neNil (hu : X.A.units + 64 < cLine) : OpR X (compareOp .NotEq) (rNeNil X.K) := by
  intro pins s σ H x y v u Q I rx ry h
  obtain ⟨a, b, xs, rfl, rfl, ha, hb, q⟩ := h
  cases rx
  cases ry
  obtain ⟨is, r1, p1, _⟩ := I.list ha
  obtain ⟨js, r2, p2, _⟩ := I.list hb
  cases r2
  cases r1 with
  | nil => exact SeqAt.RcNeAt.lists (e := fun _ => true) p1.isList p2.isList rfl (by omega) (fun j h1 => absurd h1 (by simp)) X.prog X.w X.xe _ ⟨.bl false, H, I, rfl, q⟩
  | cons r rs => exact SeqAt.RcNeAt.lists_lengths p1.isList p2.isList (by simp) (by omega) X.prog X.w X.xe _ ⟨.bl true, H, I, rfl, q⟩
/-- a tuple of anything != () -/
def rNeNilT (K : PySem.W.Frag) : R2 := fun x y H Q => ∃ a b xs, x = .ref a ∧ y = .ref b ∧ SqT K H a xs ∧ SqT K H b [] ∧ Q (.bl (!xs.isEmpty)) H
theorem op_neNilT (hu : X.A.units + 64 < cLine) : OpR X (compareOp .NotEq) (rNeNilT X.K) := by
  intro pins s σ H x y v u Q I rx ry h
  obtain ⟨a, b, xs, rfl, rfl, ha, hb, q⟩ := h
  cases rx
  cases ry
  obtain ⟨is, r1, p1, _⟩ := I.tuple ha
  obtain ⟨js, r2, p2, _⟩ := I.tuple hb
  cases r2
  have k1 : s.heap.IsTuple a is.toArray := p1
  have k2 : s.heap.IsTuple b (List.nil (α := Value)).toArray := p2
  refine SeqAt.RcNeAt.tuples (e := fun _ => true) k1 k2 (by omega) (fun j _ h2 => absurd h2 (by simp)) X.prog X.w X.xe _ ?_
  cases r1 with
  | nil => exact ⟨.bl false, H, I, rfl, q⟩
  | cons r rs => exact ⟨.bl true, H, I, by simp only [List.size_toArray, List.length_cons, List.length_nil, Nat.min_zero, List.range_zero, List.all_nil, Bool.true_and]; rfl, q⟩
theorem vals_signs : ∀ (cs : List Nat) (l : List Value), l.length = cs.length → (∀ (j : Nat) (v : Value), l[j]? = some v → ∃ c u, cs[j]? = some c ∧ v = .str ⟨#[c]⟩ u) → Vals (cs.map sg) l
  | [], [], _, _ => .nil
  | [], _ :: _, h, _ => by simp at h
  | _ :: _, [], h, _ => by simp at h
  | c :: cs, v :: l, h, q => by
    obtain ⟨c', u, e1, rfl⟩ := q 0 v rfl
    obtain rfl := Option.some.inj e1
    exact .cons ⟨u, rfl⟩ (vals_signs cs l (by simpa using h) fun j v e => q (j + 1) v e)
/-- z * n, n a small number -/
def mulS (cs : List Nat) (n : Nat) : List Nat := (List.replicate n cs).flatten
theorem foldl_cat (a : List Nat) : ∀ (n : Nat) (acc : List Nat), ((List.replicate n a.toArray).foldl (fun x y => x ++ y) acc.toArray) = (acc ++ (List.replicate n a).flatten).toArray
  | 0, acc => by simp
  | n + 1, acc => by
    rw [List.replicate_succ, List.foldl_cons, List.replicate_succ, List.flatten_cons, ← List.append_assoc, ← foldl_cat a n (acc ++ a)]
    simp
theorem mulS_eq (cs : List Nat) (n : Nat) : Txt.mul (tx cs) (n : Int) = tx (mulS cs n) := by
  unfold Txt.mul mulS
  by_cases h0 : n = 0
  · subst h0
    rfl
  · rw [if_neg (by omega)]
    by_cases h1 : ((n : Int) == 1 || (tx cs).length == 0) = true
    · rw [if_pos h1]
      rcases Bool.or_eq_true_iff.mp h1 with h | h
      · have : n = 1 := by have := beq_iff_eq.mp h; omega
        subst this
        simp
      · have : cs = [] := by
          have := beq_iff_eq.mp h
          rw [tx_len] at this
          exact List.eq_nil_of_length_eq_zero this
        subst this
        simp
    · rw [if_neg h1, show (n : Int).toNat = n from rfl]
      have q := foldl_cat cs n []
      rw [List.nil_append] at q
      exact congrArg Str.mk q
theorem op_mulS : OpR X (binaryOp .Mult) (fun x y H Q => ∃ (cs : List Nat) (n : Nat), x = .str (tx cs) ∧ y = .int n ∧ cs.length ≤ 100000 ∧ n ≤ 100 ∧ Q (.str (tx (mulS cs n))) H) := by
  intro pins s σ H x y v u Q I rx ry h
  obtain ⟨cs, n, rfl, rfl, hz, hn, q⟩ := h
  obtain ⟨t, rfl⟩ := rx
  obtain ⟨t2, rfl⟩ := ry
  have hl : cs.length * n ≤ 100000 * 100 := Nat.mul_le_mul hz hn
  refine SB.mul ⟨?_, fun h1 h2 => ?_, fun h1 h2 => ?_⟩ fun t' k => ?_
  · rw [decide_eq_false (by omega), decide_eq_false (by omega)]
    rfl
  · rw [tx_len]
    have h3 : ((cs.length : Nat) : Int) * (n : Int) ≤ 2 ^ 63 - 1 := by
      rw [← Int.natCast_mul]
      omega
    have h4 : ((cs.length : Nat) : Int) ≤ (2 ^ 63 - 1) / (n : Int) := Int.le_ediv_of_mul_le (by omega) h3
    omega
  · rw [tx_len]
    show decide (cs.length * (n : Int).toNat > sizeLine) = false
    rw [sizeLine_eq]
    exact decide_eq_false (by show ¬ cs.length * n > _; omega)
  · rw [mulS_eq]
    exact ⟨.str _, H, I.tok _, ⟨_, rfl⟩, q⟩
/-- t * n -/
def rRepG (K : PySem.W.Frag) : R2 := fun x y H Q => ∃ (l : Addr) (n : Nat) (xs : List V), x = .ref l ∧ y = .int n ∧ SqT K H l xs ∧ xs ≠ [] ∧ 2 ≤ n ∧ n ≤ 100000 ∧ xs.length * n ≤ 1000000 ∧ ∀ p, H p = none → Q (.ref p) (upd H p (.tup (List.replicate n xs).flatten))
/-- t * n, t of few items -/
def rRepN (K : PySem.W.Frag) : R2 := fun x y H Q => ∃ (l : Addr) (n : Nat) (xs : List V), x = .ref l ∧ y = .int n ∧ SqT K H l xs ∧ xs ≠ [] ∧ 2 ≤ n ∧ n ≤ 100000 ∧ xs.length ≤ 10 ∧ ∀ p, H p = none → Q (.ref p) (upd H p (.tup (List.replicate n xs).flatten))
/-! what is made anew or is the old one, read alike -/
theorem catA_any {K : PySem.W.Frag} {a b : Addr} {xs ys : List V} {H : Hp} {Q : VK} (ha : H a = some (.tup xs)) (hb : H b = some (.tup ys)) (hl : xs.length + ys.length ≤ sizeLine)
    (q : ∀ p H', Same H H' → H' p = some (.tup (xs ++ ys)) → p = a ∨ p = b ∨ H p = none → Q (.ref p) H') : rCatA K (.ref a) (.ref b) H Q := by
  refine ⟨a, b, xs, ys, rfl, rfl, SqT.of ha, SqT.of hb, hl, fun e => ?_, fun _ e => ?_, fun _ _ p np => ?_⟩
  · subst e
    exact q b H (Same.refl H) hb (.inr (.inl rfl))
  · subst e
    exact q a H (Same.refl H) (by rw [List.append_nil]; exact ha) (.inl rfl)
  · exact q p _ (same_new np) upd_same (.inr (.inr np))
theorem slA_any {K : PySem.W.Frag} {a : Addr} {xs : List V} {lo hi : Option Int} {H : Hp} {Q : VK} (ha : H a = some (.tup xs)) (q : ∀ p H', Same H H' → H' p = some (.tup (cutV xs lo hi)) → p = a ∨ H p = none → Q (.ref p) H') : rSlA K (.ref a) lo hi H Q := by
  refine ⟨a, xs, rfl, SqT.of ha, fun e => ?_, fun _ p np => q p _ (same_new np) upd_same (.inr np)⟩
  have ec : cutV xs lo hi = xs := by
    unfold cutV
    rw [e.1, e.2, List.drop_zero, Nat.sub_zero, List.take_length]
  exact q a H (Same.refl H) (by rw [ec]; exact ha) (.inl rfl)
theorem cut_to (xs : List V) (n : Nat) : cutV xs none (some (n : Int)) = xs.take n := by
  unfold cutV
  rw [HT.sIx_none, HT.sIx_nat, List.drop_zero, Nat.sub_zero, List.take_eq_take_iff]
  omega
theorem cut_from (xs : List V) (n : Nat) : cutV xs (some (n : Int)) none = xs.drop n := by
  unfold cutV
  rw [HT.sIx_none, HT.sIx_nat]
  have e : xs.drop (min n xs.length) = xs.drop n := by
    by_cases h : n ≤ xs.length
    · rw [Nat.min_eq_left h]
    · rw [List.drop_of_length_le (by omega), List.drop_of_length_le (by omega)]
  rw [e]
  exact List.take_of_length_le (by rw [List.length_drop]; omega)
end
end Mo

namespace Mo
open PySem PySem.Spec PyProof.Rows L2
section
variable {X : Cx}
end
end Mo

/-! ### lists and tuples of flat values compared -/
namespace Mo
open PySem PySem.Spec PyProof.Rows L2
def eqLs : List V → List V → Bool
  | [], [] => true
  | x :: xs, y :: ys => eqV x y && eqLs xs ys
  | _, _ => false
theorem eqLs_range : ∀ (xs ys : List V), xs.length = ys.length → (List.range xs.length).all (fun j => eqV (xs.getD j .non) (ys.getD j .non)) = eqLs xs ys
  | [], [], _ => rfl
  | x :: xs, y :: ys, h => by
    rw [List.length_cons, List.range_succ_eq_map, List.all_cons, List.all_map]
    show (eqV x y && (List.range xs.length).all (fun j => eqV (xs.getD j .non) (ys.getD j .non))) = _
    rw [eqLs_range xs ys (by simpa using h)]
    rfl
  | [], _ :: _, h => by simp at h
  | _ :: _, [], h => by simp at h
theorem eqLs_len : ∀ {xs ys : List V}, eqLs xs ys = true → xs.length = ys.length
  | [], [], _ => rfl
  | x :: xs, y :: ys, h => by
    rw [List.length_cons, List.length_cons, eqLs_len (Bool.and_eq_true_iff.mp h).2]
  | [], _ :: _, h => by cases h
  | _ :: _, [], h => by cases h
theorem eqV_self : ∀ {x : V}, flatV x = true → eqV x x = true := by
  intro x h
  cases x <;> first | (exact absurd (show false = true from h) Bool.false_ne_true) | rfl | (simp [eqV])
theorem eqLs_self : ∀ {xs : List V}, xs.all flatV = true → eqLs xs xs = true
  | [], _ => rfl
  | x :: xs, h => by
    rw [List.all_cons, Bool.and_eq_true] at h
    show (eqV x x && eqLs xs xs) = true
    rw [eqV_self h.1, eqLs_self h.2]
    rfl
theorem flat_ints (ns : List Int) : (ns.map V.int).all flatV = true := by
  rw [List.all_map, List.all_eq_true]
  exact fun _ _ => rfl
theorem flat_strs' (zs : List Str) : (zs.map V.str).all flatV = true := by
  rw [List.all_map, List.all_eq_true]
  exact fun _ _ => rfl
theorem eqLs_ints : ∀ (a b : List Int), eqLs (a.map V.int) (b.map V.int) = decide (a = b)
  | [], [] => by simp [eqLs]
  | x :: a, y :: b => by
    show (x == y && eqLs (a.map V.int) (b.map V.int)) = _
    rw [eqLs_ints a b, Bool.eq_iff_iff]
    simp
  | [], _ :: _ => by simp [eqLs]
  | _ :: _, [] => by simp [eqLs]
section
variable {X : Cx}
theorem eqAts {A : Around} {s : Shared} {xs ys : List V} {us ws : List Value} (r1 : Vals xs us) (r2 : Vals ys ws) (f1 : xs.all flatV = true) (f2 : ys.all flatV = true) :
    ∀ j (h1 : j < us.toArray.size) (h2 : j < ws.toArray.size), SeqAt.EqAt A s us.toArray[j] ws.toArray[j] (eqV (xs.getD j .non) (ys.getD j .non)) := by
  intro j h1 h2
  have l1 := r1.length
  have l2 := r2.length
  rw [List.size_toArray] at h1 h2
  have e1 : xs[j]? = some (xs.getD j .non) := by
    rw [List.getD_eq_getElem?_getD, List.getElem?_eq_getElem (by omega)]
    rfl
  have e2 : ys[j]? = some (ys.getD j .non) := by
    rw [List.getD_eq_getElem?_getD, List.getElem?_eq_getElem (by omega)]
    rfl
  obtain ⟨u, hu, ru⟩ := r1.get e1
  obtain ⟨v, hv, rv⟩ := r2.get e2
  have q1 : us.toArray[j] = u := by
    rw [List.getElem?_eq_getElem h1] at hu
    exact Option.some.inj hu
  have q2 : ws.toArray[j] = v := by
    rw [List.getElem?_eq_getElem h2] at hv
    exact Option.some.inj hv
  rw [q1, q2]
  exact eqAt_V ru rv (List.all_eq_true.mp f1 _ (List.mem_of_getElem? e1)) (List.all_eq_true.mp f2 _ (List.mem_of_getElem? e2))
def FlatAt (K : PySem.W.Frag) (H : Hp) (x y : V) (xs ys : List V) : Prop := ∃ a b, x = .ref a ∧ y = .ref b ∧ xs.all flatV = true ∧ ys.all flatV = true ∧ ((SqL K H a xs ∧ SqL K H b ys) ∨ (SqT K H a xs ∧ SqT K H b ys))
def rEqFl (K : PySem.W.Frag) : R2 := fun x y H Q => ∃ xs ys, FlatAt K H x y xs ys ∧ Q (.bl (eqLs xs ys)) H
def rNeFl (K : PySem.W.Frag) : R2 := fun x y H Q => ∃ xs ys, FlatAt K H x y xs ys ∧ Q (.bl (!eqLs xs ys)) H
theorem tups_eq {xs ys : List V} : ((List.range (min xs.length ys.length)).all (fun j => eqV (xs.getD j .non) (ys.getD j .non)) && xs.length == ys.length) = eqLs xs ys := by
  by_cases h : xs.length = ys.length
  · rw [← h, Nat.min_self, eqLs_range xs ys h]
    simp
  · have : eqLs xs ys = false := by
      cases e : eqLs xs ys with
      | false => rfl
      | true => exact absurd (eqLs_len e) h
    rw [this, beq_eq_false_iff_ne.mpr h, Bool.and_false]
theorem op_eqFl (hu : X.A.units + 64 < cLine) : OpR X (compareOp .Eq) (rEqFl X.K) := by
  intro pins s σ H x y v u Q I rx ry h
  obtain ⟨xs, ys, ⟨a, b, rfl, rfl, f1, f2, h⟩, q⟩ := h
  cases rx
  cases ry
  rcases h with ⟨ha, hb⟩ | ⟨ha, hb⟩
  · obtain ⟨is, r1, p1, _⟩ := I.list ha
    obtain ⟨js, r2, p2, _⟩ := I.list hb
    have l1 := r1.length
    have l2 := r2.length
    by_cases hl : xs.length = ys.length
    · refine SeqAt.eq_listAt (e := fun j => eqV (xs.getD j .non) (ys.getD j .non)) p1.isList p2.isList (by simp only [List.size_toArray]; omega) (by omega) (eqAts r1 r2 f1 f2) ?_
      rw [List.size_toArray, ← l1, eqLs_range xs ys hl]
      exact ⟨.bl _, H, I, rfl, q⟩
    · have e : eqLs xs ys = false := by
        cases e : eqLs xs ys with
        | false => rfl
        | true => exact absurd (eqLs_len e) hl
      rw [e] at q
      exact SeqAt.eq_list_lengthsAt p1.isList p2.isList (by simp only [List.size_toArray]; rw [bne_iff_ne]; omega) (by omega) ⟨.bl _, H, I, rfl, q⟩
  · obtain ⟨is, r1, p1, _⟩ := I.tuple ha
    obtain ⟨js, r2, p2, _⟩ := I.tuple hb
    have l1 := r1.length
    have l2 := r2.length
    have k1 : s.heap.IsTuple a is.toArray := p1
    have k2 : s.heap.IsTuple b js.toArray := p2
    refine SeqAt.eq_tupleAt (e := fun j => eqV (xs.getD j .non) (ys.getD j .non)) k1 k2 (by omega) (eqAts r1 r2 f1 f2) ?_
    rw [List.size_toArray, List.size_toArray, ← l1, ← l2, tups_eq]
    exact ⟨.bl _, H, I, rfl, q⟩
theorem op_neFl (hu : X.A.units + 64 < cLine) : OpR X (compareOp .NotEq) (rNeFl X.K) := by
  intro pins s σ H x y v u Q I rx ry h
  obtain ⟨xs, ys, ⟨a, b, rfl, rfl, f1, f2, h⟩, q⟩ := h
  cases rx
  cases ry
  rcases h with ⟨ha, hb⟩ | ⟨ha, hb⟩
  · obtain ⟨is, r1, p1, _⟩ := I.list ha
    obtain ⟨js, r2, p2, _⟩ := I.list hb
    have l1 := r1.length
    have l2 := r2.length
    by_cases hl : xs.length = ys.length
    · refine SeqAt.RcNeAt.lists (e := fun j => eqV (xs.getD j .non) (ys.getD j .non)) p1.isList p2.isList (by simp only [List.size_toArray]; omega) (by omega) (eqAts r1 r2 f1 f2) X.prog X.w X.xe _ ?_
      rw [List.size_toArray, ← l1, eqLs_range xs ys hl]
      exact ⟨.bl _, H, I, rfl, q⟩
    · have e : eqLs xs ys = false := by
        cases e : eqLs xs ys with
        | false => rfl
        | true => exact absurd (eqLs_len e) hl
      rw [e] at q
      exact SeqAt.RcNeAt.lists_lengths p1.isList p2.isList (by simp only [List.size_toArray]; rw [bne_iff_ne]; omega) (by omega) X.prog X.w X.xe _ ⟨.bl _, H, I, rfl, q⟩
  · obtain ⟨is, r1, p1, _⟩ := I.tuple ha
    obtain ⟨js, r2, p2, _⟩ := I.tuple hb
    have l1 := r1.length
    have l2 := r2.length
    have k1 : s.heap.IsTuple a is.toArray := p1
    have k2 : s.heap.IsTuple b js.toArray := p2
    refine SeqAt.RcNeAt.tuples (e := fun j => eqV (xs.getD j .non) (ys.getD j .non)) k1 k2 (by omega) (eqAts r1 r2 f1 f2) X.prog X.w X.xe _ ?_
    rw [List.size_toArray, List.size_toArray, ← l1, ← l2, tups_eq]
    exact ⟨.bl _, H, I, rfl, q⟩
end
end Mo

/-! ### sorted(set(a text)) -/
namespace Mo
open PySem PySem.Spec PyProof.Rows L2 PySem.Froz
section
variable {P : Program} {w : World} {A : Around} {E : Value → Shared → Prop} {s : Shared}
/-- the set of the signs of cs, as a walk of it wants it -/
def SgAt (P : Program) (w : World) (h : Heap) (a : Addr) (cs : List Nat) : Prop := ∃ (D : SD) (l : List Str), h.get? a = some (sObj "set" D) ∧ TxOk P w D l ∧ (∀ k : Str, k ∈ l ↔ ∃ c ∈ cs, k = ⟨#[c]⟩) ∧ l.length = (met cs).length ∧
  Ris D.2.2.place.toList ∧ (w.params.followText "set-order" = true ∨ D.2.2.led = true)
theorem SgAt.keep {h h' : Heap} {a : Addr} {cs : List Nat} (x : SgAt P w h a cs) (k : ∀ o, h.get? a = some o → h'.get? a = some o) : SgAt P w h' a cs := by
  obtain ⟨D, l, ho, r⟩ := x
  exact ⟨D, l, k _ ho, r⟩
theorem sg_fresh {h : Heap} {a : Addr} (e : h.get? a = some { cls := .type "set", dict := none, data := .set #[] 0 (.fresh 0 0 (!w.params.followText "set-order")) }) : SgAt P w h a [] := by
  refine ⟨(#[], 0, .fresh 0 0 (!w.params.followText "set-order")), [], e, TxOk.nil (by rfl), fun k => by simp, rfl, List.Pairwise.nil, ?_⟩
  show _ ∨ (!w.params.followText "set-order") = true
  cases w.params.followText "set-order"
  · exact .inr rfl
  · exact .inl rfl
theorem tailTx_ris {ep : Nat} {es : Array (Int × Value)} {t : SetTable} {b : Bool} (r : Ris t.place.toList) : Ris (tailTx ep es t b).2.2.place.toList := by
  unfold tailTx
  split
  · exact relayAll_ris _ _ _
  · exact r
theorem tailTx_led {ep : Nat} {es : Array (Int × Value)} {t : SetTable} {b : Bool} : (tailTx ep es t b).2.2.led = t.led := by
  unfold tailTx
  split
  · exact relayAll_led _ _ _
  · rfl
theorem addTx_ris {h : Int} {v : Value} {D : SD} (r : Ris D.2.2.place.toList) : Ris (addTx h v D).2.2.place.toList := by
  have q := layNew_ris D.2.2 D.1 h v r
  unfold addTx
  refine tailTx_ris ?_
  split <;> exact q
theorem addTx_led {h : Int} {v : Value} {D : SD} : (addTx h v D).2.2.led = D.2.2.led := by
  have q := layNew_led D.2.2 D.1 h v
  unfold addTx
  refine tailTx_led.trans ?_
  split <;> exact q
/-- a text that the set has is added: nothing is changed -/
theorem add_old {a : Addr} {T : String} {D : SD} {l : List Str} {k : Str} {u : Tok} {Q : Bool → Shared → Prop} (ho : s.heap.get? a = some (sObj T D)) (F : TxOk P w D l) (hk : k ∈ l) (hb : l.length < scanBound)
    (h : Q false s) : wpAny (model P w) A (setAddHashed a (.str k u) (hashStr w k)) Q E s := by
  obtain ⟨es, ep, t⟩ := D
  have hs : es.size = l.length := F.sz
  obtain ⟨e, he, q⟩ := (F.mem k).mp hk
  unfold setAddHashed setAddHashedIn
  refine wpAny_holding (wpAny_bind (wpAny_setState_of ho rfl F.fit ?_))
  dsimp only
  rw [byScan_of rfl (by rw [hs]; exact hb) F.el]
  simp only [↓reduceIte]
  unfold setAddByScan
  refine wpAny_bind (wpAny_bind (wpAny_rule (wpAny_bind (wpAny_setScan_of (knd := strKind P w) (k := k) (is_str k u) ho rfl F.fit F.el ?_))))
  cases hf : List.findIdx? (fun e => (strKind P w).is k e.2) es.toList with
  | none =>
    have z := List.findIdx?_eq_none_iff.mp hf e he
    rw [q] at z
    cases z
  | some j =>
    dsimp only
    exact wpAny_pure (wpAny_pure h)
theorem sg_add {a : Addr} {cs : List Nat} {c : Nat} {u : Tok} {Q : Bool → Shared → Prop} (x : SgAt P w s.heap a cs) (room : cs.length + 1 < scanBound)
    (h : ∀ b h', Heap.SameBut a s.heap h' → SgAt P w h' a (cs ++ [c]) → Q b { s with heap := h' }) : wpAny (model P w) A (setAddHashed a (.str ⟨#[c]⟩ u) ((strKind P w).hash ⟨#[c]⟩)) Q E s := by
  obtain ⟨D, l, ho, F, hm, hl, hr, hd⟩ := x
  have hml := met_length_le cs
  by_cases hc : c ∈ cs
  · refine add_old ho F ((hm _).mpr ⟨c, hc, rfl⟩) (by omega) ?_
    refine h false s.heap (Heap.SameBut.refl a s.heap) ⟨D, l, ho, F, fun k => ?_, ?_, hr, hd⟩
    · rw [hm k]
      refine ⟨fun ⟨d, z, e⟩ => ⟨d, List.mem_append_left _ z, e⟩, fun ⟨d, z, e⟩ => ?_⟩
      rcases List.mem_append.mp z with z | z
      · exact ⟨d, z, e⟩
      · exact ⟨c, hc, by rw [e, List.mem_singleton.mp z]⟩
    · rw [met_snoc, metStep, if_pos (mem_met.mpr hc)]
      exact hl
  · have hk : (⟨#[c]⟩ : Str) ∉ l := fun z => by
      obtain ⟨d, hd, e⟩ := (hm _).mp z
      rw [sign_inj e] at hc
      exact hc hd
    refine add_x ho F hk (by omega) ?_
    refine h true _ (Heap.SameBut.update s.heap a _) ⟨_, _, get_upd _ ho rfl, add_ok u F, fun k => ?_, ?_, addTx_ris hr, hd.imp id fun z => addTx_led.trans z⟩
    · rw [List.mem_cons, hm k]
      refine ⟨fun z => z.elim (fun e => ⟨c, List.mem_append_right _ (List.mem_singleton.mpr rfl), e⟩) fun ⟨d, z, e⟩ => ⟨d, List.mem_append_left _ z, e⟩, fun ⟨d, z, e⟩ => ?_⟩
      rcases List.mem_append.mp z with z | z
      · exact .inr ⟨d, z, e⟩
      · exact .inl (by rw [e, List.mem_singleton.mp z])
    · rw [met_snoc, metStep, if_neg (fun z => hc (mem_met.mp z)), List.length_append, List.length_cons, hl]
      rfl
theorem sgs_loop {I : Addr} {fp wr : List Addr} {G : Array GenState → Array GenState → Prop} {n : Nat} {Pv : Nat → Value → Prop} {St : Nat → Shared → Prop} {R : Result → Shared → Prop}
    (W : WalksS P w A.in1 I fp wr G n Pv St) (D : Addr) (hD : D ∉ fp) (cs : List Nat) (hn : n = cs.length) (hb : cs.length + 1 < scanBound)
    (hval : ∀ i v, Pv i v → ∃ c t, cs[i]? = some c ∧ v = .str ⟨#[c]⟩ t) :
    ∀ (k i : Nat) (s : Shared), n - i = k → i ≤ n → St i s → SgAt P w s.heap D (cs.take i) →
      (∀ s', Moved (D :: wr) G s s' → SgAt P w s'.heap D cs → R (.ok (.ret .none)) s') →
      codeAny (model P w) A (.builtin "set.update.loop" ⟨[.ref D, .ref I], []⟩) R s := by
  have hDw : D ∉ wr := fun h => hD (W.sub _ h)
  have up : ∀ b ∈ wr, b ∈ D :: wr := fun b q => List.mem_cons_of_mem _ q
  intro k
  induction k with
  | zero =>
    intro i s hk hi hst hS hR
    obtain rfl : i = n := by omega
    refine codeAny_builtin PyProof.Rows.F.entry_set_update_loop (by
      rw [Around.under_plainId PyProof.Rows.F.plain_set_update_loop _]
      show wpAny _ A.in1 (pyNext (.ref I) >>= _) _ _ s
      refine wpAny_bind (W.done s _ _ hst fun s' hm => wpAny_pure (hR s' (hm.mono up) ?_))
      rw [List.take_of_length_le (by omega)] at hS
      exact hS.keep fun o ho => hm.heap D o hDw ho)
  | succ k ih =>
    intro i s hk hi hst hS hR
    have hlt : i < n := by omega
    refine codeAny_builtin PyProof.Rows.F.entry_set_update_loop (by
      rw [Around.under_plainId PyProof.Rows.F.plain_set_update_loop _]
      show wpAny _ A.in1 (pyNext (.ref I) >>= _) _ _ s
      refine wpAny_bind (W.item i s _ _ hlt hst fun v s' hP hst' hm => ?_)
      obtain ⟨c, t, hc, rfl⟩ := hval i v hP
      have hS' : SgAt P w s'.heap D (cs.take i) := hS.keep fun o ho => hm.heap D o hDw ho
      show wpAny _ A.in1 (holding [Value.str ⟨#[c]⟩ t] (setAdd D (.str ⟨#[c]⟩ t)) >>= _) _ _ s'
      refine wpAny_bind (wpAny_holding (by
        unfold setAdd
        refine wpAny_holding (wpAny_bind ((strKind P w).pyHash (k := ⟨#[c]⟩) (is_str _ _) ?_))
        have e3 : cs.take (i + 1) = cs.take i ++ [c] := by
          rw [List.take_add_one, hc]
          rfl
        have room : (cs.take i).length + 1 < scanBound := by
          rw [List.length_take]
          omega
        refine sg_add (s := { s' with toks := s'.toks + 1 }) hS' room fun b h' hsb hS2 => ?_
        have hS3 : SgAt P w h' D (cs.take (i + 1)) := by
          rw [e3]
          exact hS2
        refine wpAny_pure ⟨plainId_quiet PyProof.Rows.F.plain_set_update_loop _, ih (i + 1) _ (by omega) hlt (W.frame _ s' _ _ hst' (Nat.le_succ _) fun b q o e => ?_) hS3 fun s2 hm2 hS4 => ?_⟩
        · rw [hsb.2 b (fun z : b = D => hD (by rw [← z]; exact q))]
          exact e
        · refine hR s2 (Moved.trans W.gtrans ((hm.mono up).then_heap (Nat.le_succ _) fun b o q e => ?_) hm2) hS4
          rw [hsb.2 b (fun z : b = D => q (by rw [z]; exact List.mem_cons_self))]
          exact e)))

set_option maxHeartbeats 8000000 in
/-- set(a text) -/
theorem call_set_sgs {z : Str} {t : Tok} {Q : Value → Shared → Prop} (hh : A.handled = none) (hb : z.cps.size + 1 < scanBound)
    (h : ∀ (h' : Heap) (tk : Nat), SgAt P w h' s.heap.objs.size z.cps.toList → (∀ b o, s.heap.get? b = some o → h'.get? b = some o) → Q (.ref s.heap.objs.size) { s with heap := h', toks := tk }) :
    wpAny (model P w) A (call (.type "set") [.str z t]) Q E s := by
  obtain ⟨c, tl, hmro⟩ := PySem.F.called_set.mro
  have hmade := PySem.F.called_set.made; have hsub := PySem.F.called_set.sub
  refine wpAny_call (codeAny_of_tree (by
    show wpAny _ _ (callAny (.type "set") _) _ _ _
    refine wpAny_pure ⟨Code.quiet_builtin _ (by decide +kernel), codeAny_builtin PySem.F.entry_type_call ?_⟩
    rw [Around.under_plain (weight_type_call_type "set" [.str z t] []) rfl]
    have h1 := PySem.F.called_set.notType; have h2 := PySem.F.called_set.canCreate
    have hct := PySem.F.typeCall_set_1 (.str z t)
    repeat (any_goals (first | assumption | wp_step))
    refine codeAny_mono (code_set_led1 (.str z t) (E := E) (Q₁ := fun obj s₁ => obj = .ref s.heap.objs.size ∧ s₁ = { s with heap := s.heap.push { cls := .type "set", dict := none, data := .set #[] 0 (.fresh 0 0 (!w.params.followText "set-order")) } }) ⟨rfl, rfl⟩) fun r s₁ hr => ?_
    cases r with
    | error e => exact hr
    | ok fl =>
      cases fl with
      | ret obj =>
        obtain ⟨rfl, rfl⟩ := hr
        generalize hNew : ({ cls := .type "set", dict := none, data := .set #[] 0 (.fresh 0 0 (!w.params.followText "set-order")) } : Obj) = nw
        have hfr : ∀ (h : Heap) (a : Addr), h.get? a = some nw → SgAt P w h a [] := by
          intro h a e
          rw [← hNew] at e
          exact sg_fresh e
        have hcls : nw.cls = .type "set" := by rw [← hNew]
        have hnf : nw.isFreed = false := by rw [← hNew]; rfl
        have hS : (s.heap.push nw).get? s.heap.objs.size = some nw := Heap.get?_push_size _ hnf
        have hT : Shared.TypeIs { s with heap := s.heap.push nw } (.ref s.heap.objs.size) "set" := ⟨_, hS, hcls⟩
        have hli := PySem.F.called_set.init.lookup; have hbi := PySem.F.called_set.init.bind (.ref s.heap.objs.size)
        repeat (any_goals (first | assumption | wp_step))
        refine codeAny_mono (codeAny_call_builtin (R := wants (fun r s₂ => r = .none ∧ ∃ h' tk, s₂ = { s with heap := h', toks := tk } ∧ SgAt P w h' s.heap.objs.size z.cps.toList ∧
          (∀ b o, s.heap.get? b = some o → h'.get? b = some o)) E) PySem.F.called_set.init.plain PySem.F.entry_set_init (check_set_init_1 hT ?_)) fun r₂ s₂ hr₂ => ?_
        · subst hNew
          have n1 : isSubtype (.type "str") (.type "set") = pure false := by rw [isSubtype_type]; kernel_rfl
          have n2 : isSubtype (.type "str") (.type "frozenset") = pure false := by rw [isSubtype_type]; kernel_rfl
          have n3 : (Value.type "str" == Value.type "dict") = false := by decide
          unfold Builtin.«set.__init__» noKeywords Builtin.Frozenset.updateFrom
          generalize hPI : pyIter = PI
          wp_walk
          subst hPI
          have hh3 : A.in1.in1.in1.handled = none := by simp [hh]
          generalize hNew : ({ cls := .type "set", data := .set #[] 0 (.fresh 0 0 (!w.params.followText "set-order")) } : Obj) = nw at *
          have hz1 : (s.heap.push nw).objs.size = s.heap.objs.size + 1 := Heap.size_push ..
          have fin : ∀ (ty : String) (wk : Walks P w A.in1.in1.in1 (s.heap.push nw).objs.size [(s.heap.push nw).objs.size] [(s.heap.push nw).objs.size] z.cps.size (SignAt z) (fun i h => h.IsStrIter (s.heap.push nw).objs.size ty z t i))
              (Rk : Result → Shared → Prop), (∀ h' tk, SgAt P w h' s.heap.objs.size z.cps.toList → (∀ b o, s.heap.get? b = some o → h'.get? b = some o) → Rk (.ok (.ret .none)) { s with heap := h', toks := tk }) →
              codeAny (model P w) A.in1.in1 (.builtin "set.update.loop" ⟨[.ref s.heap.objs.size, .ref (s.heap.push nw).objs.size], []⟩) Rk
                { s with heap := (s.heap.push nw).push { cls := .type ty, data := .fields #[.str z t, .int 0 0] } } := by
            intro ty wk Rk hR
            refine sgs_loop (wk.toS) s.heap.objs.size (by rw [hz1]; simp) z.cps.toList (by simp) (by simpa using hb) (fun i v hv => ?_) (z.cps.size - 0) 0 _ (by omega) (Nat.zero_le _) ⟨_, Heap.get?_push_size _ rfl, rfl, rfl⟩ ?_ ?_
            · obtain ⟨c, u, hc, rfl⟩ := hv
              exact ⟨c, u, by rw [Array.getElem?_toList]; exact hc, rfl⟩
            · exact hfr _ _ (Heap.get?_push_of_some _ hS)
            · intro s' hm hS'
              obtain ⟨h', g', d', tk', os'⟩ := s'
              obtain rfl : g' = s.gens := hm.gens
              obtain rfl : d' = s.drawn := hm.drawn
              obtain rfl : os' = s.os := hm.os
              refine hR h' tk' hS' fun b o e => ?_
              have hb0 : b < s.heap.objs.size := Heap.lt_size e
              have n1 : b ∉ s.heap.objs.size :: [(s.heap.push nw).objs.size] := by
                rw [hz1]
                intro q
                rcases List.mem_cons.mp q with q | q
                · exact Nat.ne_of_lt hb0 q
                · exact Nat.ne_of_lt (Nat.lt_succ_of_lt hb0) (List.mem_singleton.mp q)
              exact hm.heap b o n1 (Heap.get?_push_of_some _ (Heap.get?_push_of_some _ e))
          cases ha : z.cps.all (· < 128)
          · refine wpAny_pyIter_wide ha (wpAny_bind (wpAny_runValue (fin _ (Walks.strWide hh3 _ z t) _ fun h' tk hS2 hk2 => wpAny_pure ?_)))
            exact wpAny_pure ⟨rfl, h', tk, rfl, hS2, hk2⟩
          · refine wpAny_pyIter_ascii ha (wpAny_bind (wpAny_runValue (fin _ (Walks.strAscii hh3 _ z t) _ fun h' tk hS2 hk2 => wpAny_pure ?_)))
            exact wpAny_pure ⟨rfl, h', tk, rfl, hS2, hk2⟩
        · cases r₂ with
          | error e => exact hr₂
          | ok fl₂ =>
            cases fl₂ with
            | ret r =>
              obtain ⟨rfl, h', tk, rfl, hS', hk'⟩ := hr₂
              repeat (any_goals (first | assumption | wp_step))
              exact h _ _ hS' hk'
            | _ => exact hr₂.elim
      | _ => exact hr.elim))
end
end Mo

/-! ### sorted(set(a text)): the rules -/
namespace Mo
open PySem PySem.Spec PyProof.Rows L2 PySem.Froz
theorem perm_cover {α : Type} [DecidableEq α] : ∀ (L ks : List α), L.Nodup → (∀ x ∈ L, x ∈ ks) → ks.length = L.length → ks.Perm L
  | [], ks, _, _, h => by
    rw [List.length_eq_zero_iff.mp h]
  | x :: L, ks, nd, hs, h => by
    have hx := hs x List.mem_cons_self
    have nd2 := List.nodup_cons.mp nd
    have ih := perm_cover L (ks.erase x) nd2.2 (fun y hy => (List.mem_erase_of_ne (fun e : y = x => nd2.1 (e ▸ hy))).mpr (hs y (List.mem_cons_of_mem _ hy))) (by rw [List.length_erase_of_mem hx, h, List.length_cons]; omega)
    exact (List.perm_cons_erase hx).trans (ih.cons x)
def strOf : Value → Str
  | .str x _ => x
  | _ => Str.empty
theorem strs_of_all : ∀ {vs : List Value}, (∀ v ∈ vs, ∃ x t, v = Value.str x t) → StrsAre vs (vs.map strOf)
  | [], _ => .nil
  | v :: vs, h => by
    obtain ⟨x, t, rfl⟩ := h v List.mem_cons_self
    exact .cons x t (strs_of_all fun u hu => h u (List.mem_cons_of_mem _ hu))
theorem signs_nodup : ∀ {l : List Nat}, l.Nodup → (l.map fun c => (⟨#[c]⟩ : Str)).Nodup
  | [], _ => List.nodup_nil
  | c :: l, h => by
    have h2 := List.nodup_cons.mp h
    refine List.nodup_cons.mpr ⟨fun z => ?_, signs_nodup h2.2⟩
    obtain ⟨d, hd, e⟩ := List.mem_map.mp z
    rw [sign_inj e] at hd
    exact h2.1 hd
section
variable {P : Program} {w : World} {A : Around} {E : Value → Shared → Prop} {s : Shared}
theorem sorted_sgs {a : Addr} {cs : List Nat} {Q : Value → Shared → Prop} (x : SgAt P w s.heap a cs) (hh : A.handled = none) (h64 : (met cs).length < 64)
    (hQ : ∀ s' p (out : Array Value) (c : Nat) (ys : List Str), (∀ b o, s.heap.get? b = some o → s'.heap.get? b = some o) → s'.gens = s.gens → s'.os = s.os → s.heap.objs.size ≤ p →
      s'.heap.get? p = some (seqObj "list" out c) → StrsAre out.toList ys → ys.Perm ((met cs).map fun c => (⟨#[c]⟩ : Str)) → sortedS ys = true → Q (.ref p) s') :
    wpAny (model P w) A (call (.builtin "sorted") [.ref a]) Q E s := by
  obtain ⟨⟨es, ep, t⟩, l, ho, F, hm, hl, hr, hd⟩ := x
  have hn : es.size = (met cs).length := F.sz.trans hl
  refine Calls.call_function_entry kind_sorted plain_sorted entry_sorted (args_sorted1 _) ?_
  unfold Builtin.«sorted»
  refine wpAny_bind (m := checkCount "sorted" 1 1 _) (wpAny_pure ?_)
  refine wpAny_bind (collect_set (A := A.in1) hh ⟨_, ho, rfl, rfl⟩ F.fit (by rw [hn]; unfold scanBound; omega) hr hd fun s1 vs k1 hz g1 o1 pm => ?_)
  have hvl : vs.length = (met cs).length := by rw [pm.length_eq, List.length_map, Array.length_toList, hn]
  have texts : ∀ e ∈ es.toList, ∃ x t, e.2 = Value.str x t := fun e he => by
    obtain ⟨⟨k, hk, _⟩, _⟩ := F.el e he
    obtain ⟨t, ev⟩ := Value.isStrOf_shape (x := k) (v := e.2) hk
    exact ⟨k, t, ev⟩
  have hS : StrsAre vs (vs.map strOf) := strs_of_all fun v hv => by
    obtain ⟨e, he, q⟩ := List.mem_map.mp (pm.mem_iff.mp hv)
    obtain ⟨x, t, h⟩ := texts e he
    exact ⟨x, t, by rw [← q]; exact h⟩
  have pc : (vs.map strOf).Perm ((met cs).map fun c => (⟨#[c]⟩ : Str)) := by
    refine perm_cover _ _ (signs_nodup (met_nodup cs)) (fun k hk => ?_) (by rw [List.length_map, List.length_map, hvl])
    obtain ⟨c, hc, rfl⟩ := List.mem_map.mp hk
    obtain ⟨e, he, q⟩ := (F.mem _).mp ((hm _).mpr ⟨c, mem_met.mp hc, rfl⟩)
    obtain ⟨t, ev⟩ := Value.isStrOf_shape (x := (⟨#[c]⟩ : Str)) (v := e.2) q
    exact List.mem_map.mpr ⟨e.2, pm.mem_iff.mpr (List.mem_map.mpr ⟨e, he, rfl⟩), by rw [ev]; rfl⟩
  refine wpAny_bind (wpAny_newList ?_ (by rw [hvl, sizeLine_eq]; omega))
  have hoL : (s1.heap.push (seqObj "list" vs.toArray 0)).get? s1.heap.objs.size = some (seqObj "list" vs.toArray 0) := Heap.get?_push_size _ rfl
  refine wpAny_bind (wpAny_holding (wpAny_call_entry slot_list_sort ⟨_, hoL, rfl⟩ entry_list_sort
    (list_sort_treeK strKind_oneLt hoL hS.keysOf (fun v₁ v₂ rest e => keyKind_strs (by rw [← e]; exact hS)) (by rw [hvl]; exact h64) fun st' hp hs => ⟨_, rfl, ?_⟩) (args_list_sort _)))
  obtain ⟨ys, y1, y2, y3⟩ := sorted_out_str hS hp hs
  obtain ⟨c, hc⟩ := sortedHeap_at (vs := vs) (out := (arrOf st').map (·.2)) hoL
  refine wpAny_pure ⟨_, rfl, hQ _ s1.heap.objs.size _ c ys (fun b u e => ?_) g1 o1 hz hc y1 (y2.trans pc) y3⟩
  have q := k1 b u e
  have hlt := Heap.lt_size q
  show (sortedHeap (s1.heap.push (seqObj "list" vs.toArray 0)) s1.heap.objs.size vs _).get? b = some u
  rw [sortedHeap_old (Nat.ne_of_lt hlt) (by rw [size_push']; exact Nat.lt_succ_of_lt hlt)]
  exact Heap.get?_push_of_some _ q
end
/-- the set of the signs of cs, at a -/
def SetSg (P : Program) (w : World) (a : Addr) (cs : List Nat) : HO := .ext fun h => SgAt P w h a cs
section
variable {X : Cx}
theorem setSg_new {w : World} {P : Program} {H : Hp} {h : Heap} {a : Addr} {cs : List Nat} (R : SgAt P w h a cs) : ObjOk P w H h a (SetSg P w a cs) := by
  have ⟨_, _, ho, _⟩ := R
  exact ⟨R, ⟨_, ho⟩, fun h1 h2 p k => SgAt.keep p k⟩
def rSetSg (P : Program) (w : World) : List V → Hp → VK → Prop := fun xs H Q => ∃ z : Str, xs = [.str z] ∧ z.cps.size ≤ 4000 ∧ ∀ p, H p = none → Q (.ref p) (upd H p (SetSg P w p z.cps.toList))
/-- set(z), z a text, to be walked -/
theorem cr_setSg {P : Program} {w : World} (hp : X.prog = P) (hw : X.w = w) (hc : X.calm = true) : CallR X (.type "set") (rSetSg P w) := by
  subst hp
  subst hw
  intro pins s σ H xs us Q I r h
  obtain ⟨z, rfl, hz, q⟩ := h
  obtain ⟨u, rfl, t, rfl⟩ := vals1 r
  refine call_set_sgs (I.ok.hd hc) (by unfold scanBound; omega) fun h' tk hS hk => ?_
  exact ⟨.ref _, _, I.laid (t' := tk) hk (Nat.le_refl _) (setSg_new hS), rfl, q _ (I.hok.fresh (Nat.le_refl _))⟩
def rSortSg (P : Program) (w : World) : List V → Hp → VK → Prop := fun vs H Q => ∃ (a : Addr) (cs : List Nat), vs = [V.ref a] ∧ H a = some (SetSg P w a cs) ∧ (met cs).length < 64 ∧
  ∀ (ys : List Str) (p : Addr), ys.Perm ((met cs).map fun c => (⟨#[c]⟩ : Str)) → sortedS ys = true → H p = none → Q (.ref p) (upd H p (.lst (ys.map V.str)))
/-- sorted(a set of signs) -/
theorem cr_sortSg {P : Program} {w : World} (hp : X.prog = P) (hw : X.w = w) (hc : X.calm = true) : CallR X (.builtin "sorted") (rSortSg P w) := by
  subst hp
  subst hw
  intro pins s σ H vs us Q I r h
  obtain ⟨a, cs, rfl, ha, h64, q⟩ := h
  have R : SgAt X.prog X.w s.heap a cs := (I.hok a _ ha).1
  rw [Vals.ref1 r]
  refine sorted_sgs R (I.ok.hd hc) h64 fun s' p out c ys k g o hp hg hi hm hs => ?_
  have hlen : (ys.map V.str).length ≤ sizeLine := by rw [List.length_map, hm.length_eq, List.length_map, sizeLine_eq]; omega
  have hn : H p = none := I.hok.fresh hp
  have J : Inv X pins σ (upd H p (.lst (ys.map V.str))) { s with heap := s'.heap, gens := s'.gens, drawn := s'.drawn, toks := s'.toks } :=
    I.call (ch := []) (Un.laid k hp hn) (I.hok.laid k hp ⟨hlen, out.toList, c, vals_of_strs hi, hg⟩) (by rw [g]; exact I.bare) (fun _ z => nomatch z)
  have e : s' = { s with heap := s'.heap, gens := s'.gens, drawn := s'.drawn, toks := s'.toks } := by
    cases s'
    cases s
    cases o
    rfl
  rw [e]
  exact ⟨.ref p, _, J, rfl, q ys p hm hs hn⟩
end
end Mo

namespace Mo
open PySem PySem.Spec PyProof.Rows L2
/-! enumerate(v), v a list or a tuple -/
theorem enum_made {v : Value} {o : Obj} {Hd : Heap → Prop} (B : Begins v o Hd) :
    Meets (Builtin.«enumerate.__new__» ⟨[.type "enumerate", v], []⟩) (fun _ R s => Hd s.heap ∧
      R (.ok (.ret (.ref (s.heap.push o).objs.size))) { s with heap := (s.heap.push o).push { cls := .type "enumerate", data := .fields #[.none, .bool false, .ref s.heap.objs.size, rawInt 0, .none, .none] } }) :=
  .of_wp fun prog w A R s hh => by
    obtain ⟨hp, g, dd, tk, os⟩ := s
    obtain ⟨b0, b1⟩ := hh
    have hsub := sub_enumerate
    have it1 : ∀ {A' : Around} {F : Value → Shared → Prop} {Q : Value → Shared → Prop}, Q (.ref hp.objs.size) ⟨hp.push o, g, dd, tk, os⟩ → wpAny (model prog w) A' (pyIter v) Q F ⟨hp, g, dd, tk, os⟩ := fun z => B.iter prog w _ _ ⟨hp, g, dd, tk, os⟩ _ b0 z
    wp_walk using it1
    refine wpAny_stack_any fun st => wpAny_pure ?_
    split
    · rename_i cc _ _ _ _ _
      by_cases ec : (cc == Value.type "enumerate") = true
      · rw [ec]
        wp_walk using it1
        exact ⟨_, rfl, b1⟩
      · rw [Bool.eq_false_iff.mpr ec]
        wp_walk using it1
        exact ⟨_, rfl, b1⟩
    · wp_walk using it1
      exact ⟨_, rfl, b1⟩
theorem enum_call {prog : Program} {w : World} {A : Around} {E : Value → Shared → Prop} {s : Shared} {v : Value} {o : Obj} {Hd : Heap → Prop} {Q : Value → Shared → Prop} (B : Begins v o Hd) (b0 : Hd s.heap)
    (q : ∀ h', IsEnum h' (s.heap.objs.size + 1) s.heap.objs.size 0 .none → h'.get? s.heap.objs.size = some o → (∀ b ob, s.heap.get? b = some ob → h'.get? b = some ob) → Q (.ref (s.heap.objs.size + 1)) { s with heap := h' }) :
    wpAny (model prog w) A (call (.type "enumerate") [v]) Q E s := by
  refine callType_new F.called_enumerate (by decide) (F.typeCall_enumerate_1 _) (F.newCall_enumerate_1 _) (fun ob => F.args_object_init_2 ob _) F.entry_enumerate_new (enum_made B) ⟨b0, ?_⟩
  have n1 : (s.heap.push o).objs.size = s.heap.objs.size + 1 := Heap.size_push ..
  have g1 := Heap.get?_push_size (s.heap.push o) (o := { cls := .type "enumerate", data := .fields #[.none, .bool false, .ref s.heap.objs.size, rawInt 0, .none, .none] }) rfl
  rw [n1] at g1
  show _ ∧ _
  rw [n1]
  exact ⟨⟨_, g1, rfl⟩, q _ g1 (Heap.get?_push_of_some _ (Heap.get?_push_size _ B.free)) fun b ob z => Heap.get?_push_of_some _ (Heap.get?_push_of_some _ z)⟩
def ItE (K : PySem.W.Frag) (a : Addr) (xs : List V) : It := ⟨fun i H => SqT K H a xs ∧ i < xs.length, fun i H v H' => ∃ T x, v = .ref T ∧ H T = none ∧ xs[i]? = some x ∧ H' = upd H T (.tup [.int (i : Nat), x]), fun i H => SqT K H a xs ∧ xs.length ≤ i⟩
theorem turn_enumT {P : Program} {w : World} {K : PySem.W.Frag} {elts : List Expr} {kk : Nat} {tpos : Pos} {xs : List V} {a e it : Addr} (n1 : e ≠ it) (n2 : a ≠ it) (n3 : e ≠ a) :
    Turn P w K (.Tuple elts kk tpos) (ItE K a xs) [e, it] e (fun i h => ((∃ old, IsEnum h e it ((i : Nat) : Int) old) ∧ h.IsTupleIter it a i) ∧ i ≤ xs.length) where
  mem := List.mem_cons_self ..
  obj := fun i h st b hb => by
    obtain ⟨⟨⟨old, he⟩, o, ho, hc, hd⟩, _⟩ := st
    rcases List.mem_cons.mp hb with rfl | hb
    · exact ⟨_, he, fun v q => nomatch q⟩
    · rw [List.mem_singleton.mp hb]
      exact ⟨o, ho, fun v q => by rw [hd] at q; cases q⟩
  keep := fun i h h' st k => by
    obtain ⟨⟨⟨old, he⟩, hi⟩, hle⟩ := st
    exact ⟨⟨⟨old, k e (List.mem_cons_self ..) _ he⟩, hi.at fun o q => k it (List.mem_cons_of_mem _ (List.mem_singleton.mpr rfl)) o q⟩, hle⟩
  item := by
    intro X hP hw hK hc i pins s σ H E I hf st hg
    subst hP hw hK
    obtain ⟨⟨⟨old, he⟩, hit⟩, hle⟩ := st
    obtain ⟨hq, hi⟩ := hg
    obtain ⟨its, rv, pt, _⟩ := I.tuple hq
    have pt : s.heap.IsTuple a its.toArray := pt
    have hsz : i < its.toArray.size := by rw [List.size_toArray, ← rv.length]; exact hi
    have le : e < s.heap.objs.size := Heap.lt_size he
    have li : it < s.heap.objs.size := by
      obtain ⟨_, z, _⟩ := hit
      exact Heap.lt_size z
    have nh : X.A.in1.handled = none := by simpa using I.ok.hd hc
    have nf : e ∉ [it, a] := fun z => by
      rcases List.mem_cons.mp z with z | z
      · exact n1 z
      · exact n3 (List.mem_singleton.mp z)
    refine wpAny_pyNext_enum_itemD (Draws.tuple nh it a n2 its.toArray) he ⟨hit, pt⟩ hsz n1 nf fun u h1 tk hu ho st1 hT _ hk => ?_
    obtain ⟨x, hx⟩ : ∃ x, xs[i]? = some x := ⟨xs[i], List.getElem?_eq_getElem hi⟩
    obtain ⟨u', hu', ru⟩ := rv.get hx
    have eu : u = u' := by
      have z : its.toArray[i]? = some u' := by simpa using hu'
      rw [hu] at z
      exact Option.some.inj z
    subst eu
    refine ⟨_, rfl, wpAny_letOwnedTupleGo_enum (s := { s with heap := h1, toks := tk + 1 }) ho fun h2 he2 sb => ?_⟩
    have hT2 := (sb.2 _ (Nat.ne_of_gt le)).trans hT
    have I1 : Inv X pins σ (upd H s.heap.objs.size (.tup [.int (i : Nat), x])) { s with heap := h2, toks := tk + 1 } := by
      refine I.turnedNew (ch := [e, it]) (fun b ob hb z => ?_) hf (Nat.le_refl _) ⟨by show 2 ≤ sizeLine; decide, [.int i tk, u], .cons ⟨_, rfl⟩ (.cons ru .nil), ⟨_, hT2, rfl, _, rfl⟩⟩
      have nb1 : b ≠ e := fun z => hb (by rw [z]; exact List.mem_cons_self ..)
      have nb2 : b ≠ it := fun z => hb (by rw [z]; exact List.mem_cons_of_mem _ (List.mem_singleton.mpr rfl))
      exact (sb.2 b nb1).trans (hk b ob nb1 nb2 z)
    refine ⟨.ref s.heap.objs.size, _, I1, rfl, ⟨_, x, rfl, I.hok.fresh (Nat.le_refl _), hx, rfl⟩, ⟨⟨⟨u, ?_⟩, st1.1.at fun o z => (sb.2 it (Ne.symm n1)).trans z⟩, hi⟩, fun b hb => ?_⟩
    · have e1 : ((i + 1 : Nat) : Int) = (i : Int) + 1 := Int.natCast_succ i
      rw [e1]
      exact he2
    · have lb : b < s.heap.objs.size := by
        rcases List.mem_cons.mp hb with rfl | hb
        · exact le
        · rw [List.mem_singleton.mp hb]
          exact li
      rw [upd_ne (Nat.ne_of_lt lb)]
      exact (hf b hb).1
  done := by
    intro X hP hw hK hc i pins s σ H E I hf st hg
    subst hP hw hK
    obtain ⟨⟨⟨old, he⟩, hit⟩, hle⟩ := st
    obtain ⟨hq, hge⟩ := hg
    obtain ⟨its, rv, pt, _⟩ := I.tuple hq
    have pt : s.heap.IsTuple a its.toArray := pt
    have ei : its.toArray.size = i := by
      rw [List.size_toArray, ← rv.length]
      omega
    obtain ⟨f0, f1, f2, f3, f4, f5⟩ := hf it (List.mem_cons_of_mem _ (List.mem_singleton.mpr rfl))
    have nh : X.A.in1.handled = none := by simpa using I.ok.hd hc
    exact wpAny_pyNext_enum_endD (Draws.tuple nh it a n2 its.toArray) he ⟨by rw [ei]; exact hit, pt⟩ fun h' eb => ⟨rfl, I.turned (t' := s.toks) (fun b o hb z => eb b o hb z) f0 f1 f3 f4 f5⟩
  self := fun A i s Q E st h => by
    obtain ⟨⟨⟨_, he⟩, _⟩, _⟩ := st
    exact wpAny_pyIter_enum he h
/-- enumerate of a list or of a tuple -/
def enJ (K : PySem.W.Frag) (a : Addr) (xs : List V) : Bool → It
  | true => ItE K a xs
  | false => Ite K a
def enO (xs : List V) : Bool → HO
  | true => .tup xs
  | false => .lst xs
def iEnumB (K : PySem.W.Frag) (ta : TA) : TI := fun σ H R => ta σ H fun vs H1 => ∃ (a : Addr) (xs : List V) (b : Bool), vs = [.ref a] ∧ H1 a = some (enO xs b) ∧ R (enJ K a xs b) H1
section
variable {X : Cx}
theorem pi_enumB {e : Expr} {ta : TA} {p pos tpos : Pos} {elts : List Expr} {kk : Nat} (hg : Gl X "enumerate") (hm : X.mg "enumerate" = none) (ha : PA X [e] ta) (hs : starEach [e] X.env = [(false, eval e X.env)] := by rfl) :
    PI X (.Tuple elts kk tpos) (.Call (.Name "enumerate" p) [e] [] pos) (iEnumB X.K ta) := by
  refine ⟨fun pins s σ H R I h => ?_⟩
  refine Call_ (ld_blt I hg hm boot_enumerate (PyProof.Rows.callWith_type1 (thn (ha.run pos pins s σ H _ I h) fun us s1 ⟨vs, H1, I1, r1, q1⟩ => ?_) hs rfl))
  obtain ⟨a, xs, b, rfl, hb, q⟩ := q1
  obtain ⟨u, rfl, ru⟩ := vals1 r1
  cases (show u = Value.ref a from ru)
  have far : ∀ b ∈ [s1.heap.objs.size + 1, s1.heap.objs.size], s1.heap.objs.size ≤ b := fun b hb => by
    rcases List.mem_cons.mp hb with rfl | hb
    · exact Nat.le_succ _
    · exact Nat.le_of_eq (List.mem_singleton.mp hb).symm
  cases b with
  | false =>
    obtain ⟨its, rv, pl, _⟩ := I1.list (SqL.of hb)
    exact enum_call (begins_list a its.toArray) pl.isList fun h' he hi hk => wpAny_pyIter_enum he
      ⟨s1.heap.objs.size + 1, _, _, _, H1, rfl, I1.kept (t' := s1.toks) hk, turn_enum a (s1.heap.objs.size + 1) s1.heap.objs.size, ⟨⟨.none, he⟩, ⟨_, hi, rfl, rfl⟩, Nat.succ_ne_self _⟩, fun b hb => I1.fpOk (far b hb) (I1.hok.fresh (far b hb)), q⟩
  | true =>
    obtain ⟨its, rv, pt, _⟩ := I1.tuple (SqT.of hb)
    have pt : s1.heap.IsTuple a its.toArray := pt
    have la : a < s1.heap.objs.size := by
      obtain ⟨_, z, _⟩ := pt
      exact Heap.lt_size z
    exact enum_call (begins_tuple a its.toArray) pt fun h' he hi hk => wpAny_pyIter_enum he
      ⟨s1.heap.objs.size + 1, _, _, _, H1, rfl, I1.kept (t' := s1.toks) hk, turn_enumT (a := a) (e := s1.heap.objs.size + 1) (it := s1.heap.objs.size) (Nat.succ_ne_self _) (Nat.ne_of_lt la) (Nat.ne_of_gt (Nat.lt_succ_of_lt la)), ⟨⟨⟨.none, he⟩, ⟨_, hi, rfl, rfl⟩⟩, Nat.zero_le _⟩, fun b hb => I1.fpOk (far b hb) (I1.hok.fresh (far b hb)), q⟩
end
/-- one walk for both -/
theorem walk_enB {K : PySem.W.Frag} {a : Addr} {xs : List V} {b : Bool} : Walk (enJ K a xs b) xs.length (fun H' => H' a = some (enO xs b)) (YPair (fun i => some (.int (i : Nat))) (fun i => xs[i]?)) := by
  cases b with
  | false => exact walk_enum.mono (fun H' h' => SqL.of h') fun _ _ _ _ _ _ y => y
  | true => exact ⟨fun i H' hi h' => ⟨SqT.of h', hi⟩, fun H' h' => ⟨SqT.of h', Nat.le_refl _⟩, fun i H' v H2 hi h' y => by
      obtain ⟨T, x, h1, h2, h3, h4⟩ := y
      exact ⟨T, _, x, h1, h2, h4, rfl, h3⟩⟩
end Mo
namespace Mo
open PySem PySem.Spec PyProof.Rows L2
end Mo

/-! ### zip of a tuple with a list; walks of a list or of a tuple -/
namespace Mo
open PySem PySem.Spec PyProof.Rows L2
def ItM (K : PySem.W.Frag) (a b : Addr) (xs ys : List V) : It := ⟨fun i H => (SqT K H a xs ∧ SqL K H b ys) ∧ i < xs.length ∧ i < ys.length, fun i H v H' => ∃ T x y, v = .ref T ∧ H T = none ∧ xs[i]? = some x ∧ ys[i]? = some y ∧ H' = upd H T (.tup [x, y]),
  fun i H => (SqT K H a xs ∧ SqL K H b ys) ∧ (xs.length ≤ i ∨ ys.length ≤ i)⟩
/-- the cells lie apart -/
structure Far (z TI TO i1 i2 a b : Addr) : Prop where
  nd : [z, TI, TO, i1, i2].Nodup
  na : a ∉ [z, TI, TO, i1, i2]
  nb : b ∉ [z, TI, TO, i1, i2]
/-- zip of a list or of a tuple with a list -/
def zbJ (K : PySem.W.Frag) (a b : Addr) (xs ys : List V) : Bool → It
  | true => ItM K a b xs ys
  | false => Itz K a b
def iZipB (K : PySem.W.Frag) (ta : TA) : TI := fun σ H R => ta σ H fun vs H1 => ∃ (a b : Addr) (xs ys : List V) (f : Bool), vs = [.ref a, .ref b] ∧ H1 a = some (enO xs f) ∧ H1 b = some (.lst ys) ∧ R (zbJ K a b xs ys f) H1
/-- a list or a tuple, walked -/
def sqJ (K : PySem.W.Frag) (a : Addr) : Bool → It
  | true => Itt K a
  | false => Itl K a
def iSeqB (K : PySem.W.Frag) (tl : TE) : TI := fun σ H R => tl σ H fun x H1 => ∃ (a : Addr) (xs : List V) (f : Bool), x = .ref a ∧ H1 a = some (enO xs f) ∧ R (sqJ K a f) H1
section
variable {X : Cx} {K : PySem.W.Frag}
end
end Mo

/-! ### list(zip(..)): a zip whose tuples are kept -/
namespace Mo
open PySem PySem.Spec PyProof.Rows L2
section
variable {prog : Program} {w : World} {A : Around} {E : Value → Shared → Prop} {s : Shared}
variable {z TI TO i1 i2 : Addr} {fp1 fp2 : List Addr} {n1 n2 i : Nat} {P1 P2 : Nat → Value → Prop} {St1 St2 : Nat → Heap → Prop}
/-- a zip after i steps; out: the tuples that it gave, which are kept -/
structure Zat (z TI TO i1 i2 : Addr) (St1 St2 : Nat → Heap → Prop) (h : Heap) (i : Nat) (out : List Addr) : Prop where
  ti : IsTupOf2 h TI (.ref i1) (.ref i2)
  s1 : St1 i h
  s2 : St2 i h
  to : ∃ o, h.get? TO = some o
  own : (IsZip h z TI TO .none ∧ ∃ a b, IsTupOf2 h TO a b) ∨ ∃ T f oT, T ∈ out ∧ IsZipHeld h z TI TO T f ∧ h.get? T = some oT
end
end Mo

/-! ### list(a zip) -/
namespace Mo
open PySem PySem.Spec PyProof.Rows L2
/-- the tuples that were given -/
def Gave (P1 P2 : Nat → Value → Prop) (h : Heap) (out : List Addr) : Prop := ∀ (j : Nat) (T : Addr), out[j]? = some T → ∃ x y, P1 j x ∧ P2 j y ∧ IsTupOf2 h T x y
abbrev lsO (out : List Addr) (c : Nat) : Obj := { cls := .type "list", dict := none, data := .seq (out.map Value.ref).toArray c, slots := #[] }
section
variable {prog : Program} {w : World} {A : Around} {E : Value → Shared → Prop} {s : Shared}
variable {z TI TO i1 i2 : Addr} {fp1 fp2 : List Addr} {n1 n2 : Nat} {P1 P2 : Nat → Value → Prop} {St1 St2 : Nat → Heap → Prop} {R : Result → Shared → Prop}
theorem Zat.upd {h h' : Heap} {i : Nat} {out : List Addr} {D : Addr} {B : Around} (D1 : Draws prog w B i1 fp1 n1 P1 St1) (D2 : Draws prog w B i2 fp2 n2 P2 St2) (Z : Zat z TI TO i1 i2 St1 St2 h i out) (hD : D ∉ z :: TI :: TO :: (fp1 ++ fp2)) (ho : D ∉ out)
    (k : ∀ b o, b ≠ D → h.get? b = some o → h'.get? b = some o) : Zat z TI TO i1 i2 St1 St2 h' i out := by
  have nz : z ≠ D := fun e => hD (by rw [e]; exact List.mem_cons_self)
  have nI : TI ≠ D := fun e => hD (by rw [e]; exact List.mem_cons_of_mem _ List.mem_cons_self)
  have nO : TO ≠ D := fun e => hD (by rw [e]; exact List.mem_cons_of_mem _ (List.mem_cons_of_mem _ List.mem_cons_self))
  have n1 : ∀ b ∈ fp1, b ≠ D := fun b hb e => hD (by rw [← e]; exact List.mem_cons_of_mem _ (List.mem_cons_of_mem _ (List.mem_cons_of_mem _ (List.mem_append_left _ hb))))
  have n2 : ∀ b ∈ fp2, b ≠ D := fun b hb e => hD (by rw [← e]; exact List.mem_cons_of_mem _ (List.mem_cons_of_mem _ (List.mem_cons_of_mem _ (List.mem_append_right _ hb))))
  refine ⟨k _ _ nI Z.ti, D1.frame _ _ _ Z.s1 fun b hb o e => k b o (n1 b hb) e, D2.frame _ _ _ Z.s2 fun b hb o e => k b o (n2 b hb) e, Z.to.imp fun o e => k _ _ nO e, ?_⟩
  rcases Z.own with ⟨hz, a, b, e⟩ | ⟨T, f, oT, hm, hz, hT⟩
  · exact .inl ⟨k _ _ nz hz, a, b, k _ _ nO e⟩
  · exact .inr ⟨T, f, oT, hm, k _ _ nz hz, k _ _ (fun e => ho (by rw [← e]; exact hm)) hT⟩
end
end Mo

/-! ### list(a zip): the call -/
namespace Mo
open PySem PySem.Spec PyProof.Rows L2
section
variable {prog : Program} {w : World} {A : Around} {E : Value → Shared → Prop} {s : Shared}
variable {z TI TO i1 i2 : Addr} {fp1 fp2 : List Addr} {n1 n2 : Nat} {P1 P2 : Nat → Value → Prop} {St1 St2 : Nat → Heap → Prop} {R : Result → Shared → Prop}
end
end Mo

/-! ### list(zip(x, y)) of two texts: the rule -/
namespace Mo
open PySem PySem.Spec PyProof.Rows L2
/-- what stands, and the new things -/
def plus (H Hn : Hp) : Hp := fun b => match Hn b with
  | some o => some o
  | none => H b
theorem plus_old {H Hn : Hp} {b : Addr} (h : Hn b = none) : plus H Hn b = H b := by
  unfold plus
  rw [h]
theorem plus_new {H Hn : Hp} {b : Addr} {o : HO} (h : Hn b = some o) : plus H Hn b = some o := by
  unfold plus
  rw [h]
section
variable {X : Cx}
theorem inv_more {pins : List (Addr × Obj)} {σ : L2.St} {H Hn : Hp} {s : Shared} {h' : Heap} {t' : Nat} (I : Inv X pins σ H s) (k : ∀ b u, s.heap.get? b = some u → h'.get? b = some u) (gone : ∀ b o, Hn b = some o → s.heap.get? b = none ∧ H b = none)
    (new : ∀ b o, Hn b = some o → ObjOk X.prog X.w (plus H Hn) h' b o) : Inv X pins σ (plus H Hn) { s with heap := h', toks := t' } := by
  have old : ∀ {b : Addr} {u : Obj}, s.heap.get? b = some u → Hn b = none := fun {b u} e => by
    cases z : Hn b with
    | none => rfl
    | some o =>
      rw [(gone b o z).1] at e
      cases e
  have stay : ∀ {b : Addr} {o : HO}, H b = some o → plus H Hn b = some o := fun {b o} e => by
    refine (plus_old ?_).trans e
    cases z : Hn b with
    | none => rfl
    | some o2 =>
      rw [(gone b o2 z).2] at e
      cases e
  refine I.un ⟨fun b u e _ _ _ => k b u e, fun b u e _ _ _ => ⟨u.slots, k b u e⟩, fun b u e n _ => (plus_old (old e)).trans n, fun b u e _ => ⟨u, k b u e⟩, fun b xs e => stay e, fun b u xs e => stay e, fun b ps e => ⟨#[], by rw [stay e]; simp⟩⟩ fun b o e => ?_
  cases z : Hn b with
  | some o2 =>
    rw [plus_new z] at e
    obtain rfl := Option.some.inj e
    exact new b o2 z
  | none =>
    rw [plus_old z] at e
    exact (I.hok b o e).stay (fun c v _ q => k c v q) (fun c q => stay q) fun c xs q => stay q
end
def pairV (x y : Str) (j : Nat) : HO := .tup [.str ⟨#[x.cps.getD j 0]⟩, .str ⟨#[y.cps.getD j 0]⟩]
/-- the pairs from place j on, at ps -/
def pairsH (x y : Str) : List Addr → Nat → Hp
  | [], _ => fun _ => none
  | p :: ps, j => fun b => if b = p then some (pairV x y j) else pairsH x y ps (j + 1) b
/-- the new things of list(zip(x, y)) -/
def zipH (l : Addr) (ps : List Addr) (x y : Str) : Hp := fun b => if b = l then some (.lst (ps.map V.ref)) else pairsH x y ps 0 b
/-- list(zip(x, y)) -/
def tLzip (ta : TA) : TE := fun σ H Q => ta σ H fun vs H1 => ∃ x y : Str, vs = [.str x, .str y] ∧ min x.cps.size y.cps.size ≤ 4000 ∧
  ∀ (l : Addr) (ps : List Addr) (H' : Hp), ps.length = min x.cps.size y.cps.size → Same H1 H' → H1 l = none → H' l = some (.lst (ps.map V.ref)) → (∀ (j : Nat) (p : Addr), ps[j]? = some p → H1 p = none ∧ H' p = some (pairV x y j)) → Q (.ref l) H'
section
variable {X : Cx}
end
end Mo

/-! ### sets of tuples whose elements are of any kind of key: adding one -/
namespace Mo
open PySem PySem.Spec PyProof.Rows L2 PySem.Froz
/-- the probe after c steps -/
def stop (t : SetTable) (h : Int) (c : Nat) : SetTable.Probe := nth t.mask (runAt t.mask (SetTable.bits h % (t.mask + 1)) (SetTable.bits h)) c
section
variable {P : Program} {w : World} {A : Around} {E : Value → Shared → Prop} {s : Shared} {κ : Type} [DecidableEq κ] {knd : KeyKind P w κ}
/-- what a search and an adding ask of the elements -/
structure Mild (knd : KeyKind P w κ) : Prop where
  cls : ∀ (k : κ) (v : Value) (n : Nat), knd.is k v = true → ofAClassStatement n v = pure false
  hby : ∀ (k : κ) (v : Value), knd.is k v = true → ∃ b : Bool, ∀ n, hashByValue n v = pure b
/-- a set of such tuples: where they stand and their keys, in the set's own order -/
structure Tps (knd : KeyKind P w κ) (h : Heap) (a : Addr) (L : List (Addr × List κ)) (es : Array (Int × Value)) (ep : Nat) (t : SetTable) : Prop where
  obj : ∃ o, h.get? a = some o ∧ o.ExactSet ∧ o.data = .set es ep t
  ent : es.toList = L.map fun p => (tupleKeyHash knd p.2, Value.ref p.1)
  tab : TabOk t (L.map fun p => tupleKeyHash knd p.2)
  one : (L.map (·.2)).Nodup
  here : ∀ p ∈ L, IsTupleKey knd h p.2 p.1
  led : w.params.followText "set-order" = true ∨ t.led = true
  low : L.length * 5 < t.mask * 3
  few : L.length < 64
variable {a : Addr} {L : List (Addr × List κ)} {es : Array (Int × Value)} {ep : Nat} {t : SetTable}
theorem ent_size {f : Addr × List κ → Int × Value} (h : es.toList = L.map f) : es.size = L.length := by
  rw [← Array.length_toList, h, List.length_map]
theorem tab_fits {hs : List Int} (T : TabOk t hs) (e : es.size = hs.length) (l : hs.length ≤ t.mask) : t.fits es.size = true := by
  have h1 := T.sz
  unfold SetTable.fits SetTable.fill
  rw [T.dm, Bool.and_eq_true, beq_iff_eq, decide_eq_true_eq]
  refine ⟨by omega, ?_⟩
  show t.place.size + 0 ≤ t.mask
  omega
theorem Tps.fits (R : Tps knd s.heap a L es ep t) : t.fits es.size = true := by
  have := R.low
  exact tab_fits R.tab (by rw [ent_size R.ent, List.length_map]) (by rw [List.length_map]; omega)
theorem Tps.at (R : Tps knd s.heap a L es ep t) {i : Nat} {p : Addr × List κ} (h : L[i]? = some p) : es[i]? = some (tupleKeyHash knd p.2, Value.ref p.1) := by
  rw [← Array.getElem?_toList, R.ent, List.getElem?_map, h]
  rfl
theorem Tps.stays (R : Tps knd s.heap a L es ep t) : ¬ t.gaveWay = true := by
  unfold SetTable.gaveWay
  rw [mask_odd R.tab.mok]
  decide
end
end Mo

/-! ### sets of tuples whose elements are of any kind of key: adding -/
namespace Mo
open PySem PySem.Spec PyProof.Rows L2 PySem.Froz
section
variable {P : Program} {w : World} {A : Around} {E : Value → Shared → Prop} {s : Shared} {κ : Type} [DecidableEq κ] {knd : KeyKind P w κ}
variable {a : Addr} {L : List (Addr × List κ)} {es : Array (Int × Value)} {ep : Nat} {t : SetTable}
theorem Tps.kept {h h' : Heap} (R : Tps knd h a L es ep t) (k : ∀ o, h.get? a = some o → h'.get? a = some o) (hp : ∀ p ∈ L, IsTupleKey knd h' p.2 p.1) : Tps knd h' a L es ep t := by
  obtain ⟨⟨o, ho, r⟩, r1, r2, r3, _, r5, r6, r7⟩ := R
  exact ⟨⟨o, k _ ho, r⟩, r1, r2, r3, hp, r5, r6, r7⟩
end
end Mo

/-! ### set(a list of tuples whose elements are of any kind of key) -/
namespace Mo
open PySem PySem.Spec PyProof.Rows L2 PySem.Froz
/-- L: of each key of ks one -/
structure Has {κ : Type} (ks L : List (Addr × List κ)) : Prop where
  of : ∀ p ∈ L, p ∈ ks
  all : ∀ p ∈ ks, p.2 ∈ L.map (·.2)
  len : L.length ≤ ks.length
theorem Has.nil {κ : Type} : Has (κ := κ) [] [] := ⟨fun _ h => h, fun _ h => absurd h List.not_mem_nil, Nat.le_refl _⟩
theorem Has.old {κ : Type} {ks L : List (Addr × List κ)} {x : Addr × List κ} (h : Has ks L) (e : x.2 ∈ L.map (·.2)) : Has (ks ++ [x]) L := by
  refine ⟨fun p hp => List.mem_append_left _ (h.of p hp), fun p hp => ?_, by rw [List.length_append]; exact Nat.le_trans h.len (Nat.le_add_right _ _)⟩
  rcases List.mem_append.mp hp with z | z
  · exact h.all p z
  · rw [List.mem_singleton.mp z]
    exact e
theorem Has.new {κ : Type} {ks L L2 : List (Addr × List κ)} {x : Addr × List κ} (h : Has ks L) (pm : L2.Perm (x :: L)) : Has (ks ++ [x]) L2 := by
  refine ⟨fun p hp => ?_, fun p hp => (pm.map (·.2)).mem_iff.mpr ?_, by rw [pm.length_eq, List.length_append]; exact Nat.succ_le_succ h.len⟩
  · rcases List.mem_cons.mp (pm.mem_iff.mp hp) with z | z
    · exact List.mem_append_right _ (List.mem_singleton.mpr z)
    · exact List.mem_append_left _ (h.of p z)
  · rw [List.map_cons]
    rcases List.mem_append.mp hp with z | z
    · exact List.mem_cons_of_mem _ (h.all p z)
    · rw [List.mem_singleton.mp z]
      exact List.mem_cons_self
section
variable {P : Program} {w : World} {A : Around} {E : Value → Shared → Prop} {s : Shared} {κ : Type} [DecidableEq κ] {knd : KeyKind P w κ}
variable {a : Addr} {L : List (Addr × List κ)} {es : Array (Int × Value)} {ep : Nat} {t : SetTable}
end
end Mo

/-! ### set(a list of tuples whose elements are of any kind of key): the call -/
namespace Mo
open PySem PySem.Spec PyProof.Rows L2 PySem.Froz
section
variable {P : Program} {w : World} {A : Around} {E : Value → Shared → Prop} {s : Shared} {κ : Type} [DecidableEq κ] {knd : KeyKind P w κ}
end
end Mo

/-! ### lists of pairs of texts, sorted -/
namespace Mo
open PySem PySem.Spec PyProof.Rows L2
/-- texts by their signs -/
def sltB (x y : Str) : Bool := decide (x.cps.toList < y.cps.toList)
theorem str_of_list {x y : Str} (h : x.cps.toList = y.cps.toList) : x = y := by
  cases x
  cases y
  congr
  exact Array.toList_inj.mp h
theorem slt_asym {x y : Str} (h : sltB x y = true) : sltB y x = false := decide_eq_false (List.lt_asymm (of_decide_eq_true h))
theorem slt_ntr {x y z : Str} (h1 : sltB y x = false) (h2 : sltB z y = false) : sltB z x = false := by
  have a := of_decide_eq_false h1
  have b := of_decide_eq_false h2
  exact decide_eq_false (List.not_lt.mpr (List.le_trans (List.not_lt.mp a) (List.not_lt.mp b)))
theorem slt_eq {x y : Str} (h1 : sltB x y = false) (h2 : sltB y x = false) : x = y :=
  str_of_list (List.le_antisymm (List.not_lt.mp (of_decide_eq_false h2)) (List.not_lt.mp (of_decide_eq_false h1)))
/-- pairs of texts: by the first, then by the second -/
def lexS (p q : Str × Str) : Bool := if p.1 = q.1 then sltB p.2 q.2 else sltB p.1 q.1
theorem lexS_eq {p q : Str × Str} (h1 : lexS p q = false) (h2 : lexS q p = false) : p = q := by
  unfold lexS at h1 h2
  by_cases e : p.1 = q.1
  · rw [if_pos e] at h1
    rw [if_pos e.symm] at h2
    exact Prod.ext e (slt_eq h1 h2)
  · rw [if_neg e] at h1
    rw [if_neg (fun z => e z.symm)] at h2
    exact absurd (slt_eq h1 h2) e
/-- v is a pair of these texts -/
def IsPS (h : Heap) (v : Value) (k : Str × Str) : Prop := ∃ a o t u n, v = .ref a ∧ h.get? a = some o ∧ o.cls = .type "tuple" ∧ o.data = .seq #[.str k.1 t, .str k.2 u] n
theorem IsPS.keeps {h h' : Heap} {v : Value} {x : Str × Str} (p : IsPS h v x) (k : ∀ b o, h.get? b = some o → o.cls = .type "tuple" → h'.get? b = some o) : IsPS h' v x := by
  obtain ⟨a, o, t, u, n, e, ho, hc, hd⟩ := p
  exact ⟨a, o, t, u, n, e, k _ _ ho hc, hc, hd⟩
section
variable {prog : Program} {w : World} {A : Around} {E : Value → Shared → Prop} {s : Shared}
end
end Mo

/-! ### sorted(set(a list of pairs of texts)): the rules -/
namespace Mo
open PySem PySem.Spec PyProof.Rows L2 PySem.Froz
def two (l : List Str) : Str × Str := (l.getD 0 Str.empty, l.getD 1 Str.empty)
/-- the two texts of a pair -/
def pairAt (h : Heap) (v : Value) : Str × Str := match v with
  | .ref a => match h.get? a with
    | some o => match o.data with
      | .seq its _ => (strOf (its.getD 0 .none), strOf (its.getD 1 .none))
      | _ => (Str.empty, Str.empty)
    | none => (Str.empty, Str.empty)
  | _ => (Str.empty, Str.empty)
theorem IsPS.at {h : Heap} {v : Value} {k : Str × Str} (p : IsPS h v k) : pairAt h v = k := by
  obtain ⟨a, o, t, u, n, rfl, ho, hc, hd⟩ := p
  unfold pairAt
  simp only [ho, hd]
  rfl
theorem perm_of_map {α β : Type} {f : α → β} {l m : List β} (p : l.Perm m) : ∀ {L : List α}, m = L.map f → ∃ L2 : List α, L2.Perm L ∧ l = L2.map f := by
  induction p with
  | nil => intro L e; exact ⟨L, .refl _, e⟩
  | cons x _ ih =>
    intro L e
    cases L with
    | nil => cases e
    | cons a L =>
      rw [List.map_cons] at e
      obtain ⟨e1, e2⟩ := List.cons.inj e
      obtain ⟨L2, q, e3⟩ := ih e2
      exact ⟨a :: L2, q.cons a, by rw [List.map_cons, e1, e3]⟩
  | swap x y l =>
    intro L e
    match L, e with
    | a :: b :: L, e =>
      rw [List.map_cons, List.map_cons] at e
      obtain ⟨e1, e2⟩ := List.cons.inj e
      obtain ⟨e2, e3⟩ := List.cons.inj e2
      exact ⟨b :: a :: L, .swap .., by rw [List.map_cons, List.map_cons, e1, e2, e3]⟩
  | trans _ _ ih1 ih2 =>
    intro L e
    obtain ⟨L2, q2, e2⟩ := ih2 e
    obtain ⟨L3, q3, e3⟩ := ih1 e2
    exact ⟨L3, q3.trans q2, e3⟩
section
variable {P : Program} {w : World} {A : Around} {E : Value → Shared → Prop} {s : Shared}
/-- the set alone, without the tuples -/
def Tp0 (P : Program) (w : World) (h : Heap) (a : Addr) (L : List (Addr × List Str)) : Prop := ∃ (es : Array (Int × Value)) (ep : Nat) (t : SetTable), (∃ o, h.get? a = some o ∧ o.ExactSet ∧ o.data = .set es ep t) ∧
  es.toList = (L.map fun p => (tupleKeyHash (strKind P w) p.2, Value.ref p.1)) ∧ TabOk t (L.map fun p => tupleKeyHash (strKind P w) p.2) ∧ (L.map (·.2)).Nodup ∧ (w.params.followText "set-order" = true ∨ t.led = true) ∧ L.length * 5 < t.mask * 3 ∧ L.length < 64
def SetKO (P : Program) (w : World) (a : Addr) (L : List (Addr × List Str)) : HO := .ext fun h => Tp0 P w h a L
theorem Tps.alone {a : Addr} {L : List (Addr × List Str)} {es : Array (Int × Value)} {ep : Nat} {t : SetTable} {h : Heap} (R : Tps (strKind P w) h a L es ep t) : Tp0 P w h a L := ⟨es, ep, t, R.obj, R.ent, R.tab, R.one, R.led, R.low, R.few⟩
end
section
variable {X : Cx}
/-- set(xs), xs a list of tuples of texts -/
def rSetKs (K : PySem.W.Frag) (P : Program) (w : World) : List V → Hp → VK → Prop := fun xs H Q => ∃ (l : Addr) (ks : List (Addr × List Str)), xs = [V.ref l] ∧ SqL K H l (ks.map fun p => V.ref p.1) ∧ (∀ p ∈ ks, SqT K H p.1 (p.2.map V.str)) ∧ ks.length < 64 ∧
  ∀ a L, H a = none → Has ks L → (L.map (·.2)).Nodup → Q (.ref a) (upd H a (SetKO P w a L))
/-- sorted(a set of pairs of texts) -/
def rSortKs (K : PySem.W.Frag) (P : Program) (w : World) : List V → Hp → VK → Prop := fun vs H Q => ∃ (a : Addr) (L : List (Addr × List Str)), vs = [V.ref a] ∧ H a = some (SetKO P w a L) ∧ (∀ p ∈ L, SqT K H p.1 (p.2.map V.str) ∧ p.2.length = 2) ∧
  ∀ (L' : List (Addr × List Str)) (p : Addr), L'.Perm L → L'.Pairwise (fun q r => lexS (two r.2) (two q.2) = false) → H p = none → Q (.ref p) (upd H p (.lst (L'.map fun q => V.ref q.1)))
end
end Mo

/-! ### sorted(a list of texts), any number of them -/
namespace Mo
open PySem PySem.Spec PyProof.Rows L2
theorem swo_strs : SrtO.Swo fun v u => sltB (strOf v) (strOf u) := ⟨fun _ _ => slt_asym, fun _ _ _ => slt_ntr⟩
theorem strs_mem : ∀ {vs : List Value} {ys : List Str}, StrsAre vs ys → ∀ v ∈ vs, ∃ x t, v = Value.str x t
  | _, _, .nil, v, h => absurd h List.not_mem_nil
  | _, _, .cons n t r, v, h => by
    rcases List.mem_cons.mp h with e | h
    · exact ⟨n, t, e⟩
    · exact strs_mem r v h
theorem strOf_strs : ∀ {vs : List Value} {ys : List Str}, StrsAre vs ys → vs.map strOf = ys
  | _, _, .nil => rfl
  | _, _, .cons n t r => congrArg (n :: ·) (strOf_strs r)
theorem vals_strs : ∀ {ys : List Str} {us : List Value}, Vals (ys.map V.str) us → StrsAre us ys
  | [], _, .nil => .nil
  | y :: ys, _, .cons r t => by
    obtain ⟨u, rfl⟩ := r
    exact .cons y u (vals_strs t)
section
variable {prog : Program} {w : World} {A : Around} {E : Value → Shared → Prop} {s : Shared}
theorem str_cmp {vs : List Value} {ys : List Str} (h : StrsAre vs ys) : SrtO.Cmp prog w A s oneType' (fun p => p.1 ∈ vs) (SrtO.lt2 fun v u => sltB (strOf v) (strOf u)) := by
  intro p q hm hm'
  obtain ⟨a, t, e⟩ := strs_mem h _ hm
  obtain ⟨b, u, e'⟩ := strs_mem h _ hm'
  show wpAny (model prog w) A (keyLt' oneType' p.1 q.1) (fun r s' => s' = s ∧ r = sltB (strOf p.1) (strOf q.1)) (fun _ _ => False) s
  rw [e, e', keyLt'_oneType]
  exact oneLt_str ⟨rfl, rfl⟩
theorem str_sortable {a : Addr} {vs : List Value} {ys : List Str} (h : StrsAre vs ys) (h2 : 2 ≤ vs.length) : SrtO.SortableO prog w A s a vs fun v u => sltB (strOf v) (strOf u) := by
  intro h' _
  refine ⟨oneType', fun Q E hq => ?_, str_cmp h⟩
  match vs, h, h2 with
  | v1 :: v2 :: rest, h, _ =>
    rw [keyKind_strs h]
    exact wpAny_pure hq
  | [], _, h => exact absurd h (by decide)
  | [v], _, h => exact absurd h (by simp)
end
section
variable {X : Cx}
/-- sorted(xs), xs a list of texts -/
def rSortStr (K : PySem.W.Frag) : List V → Hp → VK → Prop := fun vs H Q => ∃ (l : Addr) (ys : List Str), vs = [V.ref l] ∧ SqL K H l (ys.map V.str) ∧
  ∀ (zs : List Str) (p : Addr), zs.Perm ys → zs.Pairwise (fun x y => sltB y x = false) → H p = none → Q (.ref p) (upd H p (.lst (zs.map V.str)))
theorem cr_sortStr : CallR X (.builtin "sorted") (rSortStr X.K) := by
  intro pins s σ H vs us Q I r h
  obtain ⟨a, ys, rfl, hs, q⟩ := h
  obtain ⟨its, rv, hl, hz⟩ := I.list hs
  rw [Vals.ref1 r]
  have hi := vals_strs rv
  refine SrtO.sorted_ord swo_strs hl.isList (by rw [← rv.length]; exact hz) (fun h2 h₁ a' _ _ => str_sortable hi h2) fun out h1 h2 => ?_
  have ho : StrsAre out (out.map strOf) := strs_of_all fun v hv => strs_mem hi v (h2.perm.mem_iff.mp hv)
  have pm : (out.map strOf).Perm ys := by
    have q := h2.perm.map strOf
    rw [strOf_strs hi] at q
    exact q
  obtain ⟨ep, he'⟩ := PyProof.Rows.sortedAll_at s.heap its out.toArray
  have hlen : ((out.map strOf).map V.str).length ≤ sizeLine := by
    rw [List.length_map, pm.length_eq]
    rw [List.length_map] at hz
    exact hz
  exact ⟨.ref _, upd H (s.heap.objs.size + 1) (.lst ((out.map strOf).map V.str)), I.laid (t' := s.toks) (fun _ _ => PyProof.Rows.sortedAll_old) (Nat.le_succ _) ⟨hlen, out, ep, vals_of_strs ho, he'⟩, rfl, q _ _ pm (List.pairwise_map.mpr h1) (I.hok.fresh (Nat.le_succ _))⟩
end
end Mo

/-! ### sorted(a text): its signs -/
namespace Mo
open PySem PySem.Spec PyProof.Rows L2
theorem strs_by {vs : List Value} {ys : List Str} (hl : vs.length = ys.length) (h : ∀ (j : Nat) (v : Value), vs[j]? = some v → ∃ y t, ys[j]? = some y ∧ v = .str y t) : StrsAre vs ys := by
  induction vs generalizing ys with
  | nil =>
    cases ys with
    | nil => exact .nil
    | cons y ys => cases hl
  | cons v vs ih =>
    cases ys with
    | nil => cases hl
    | cons y ys =>
      obtain ⟨y', t, e, rfl⟩ := h 0 v rfl
      obtain rfl : y = y' := Option.some.inj e
      exact .cons y t (ih (Nat.succ.inj hl) fun j u hj => h (j + 1) u hj)
section
variable {prog : Program} {w : World} {A : Around} {E : Value → Shared → Prop} {s : Shared}
theorem sorted_text {x : Str} {t : Tok} {Q : Value → Shared → Prop} (hh : A.handled = none) (hz : x.cps.size ≤ 4000)
    (q : ∀ (s' : Shared) (d : Addr) (out : List Value) (zs : List Str), StrsAre out zs → zs.Perm (x.cps.toList.map fun c => (⟨#[c]⟩ : Str)) → (zs.Pairwise fun a b => sltB b a = false) → (∀ b o, s.heap.get? b = some o → s'.heap.get? b = some o) → s.heap.get? d = none → s'.gens = s.gens → s'.drawn = s.drawn → s'.os = s.os →
      (∃ n, s'.heap.get? d = some (seqObj "list" out.toArray n)) → Q (.ref d) s') :
    wpAny (model prog w) A (call (.builtin "sorted") [.str x t]) Q E s := by
  refine Calls.call_function_entry kind_sorted plain_sorted entry_sorted (args_sorted1 _) ?_
  unfold Builtin.«sorted»
  refine wpAny_bind (m := checkCount "sorted" 1 1 _) (wpAny_pure ?_)
  refine wpAny_bind (wpAny_collect_str (A := A.in1) (by simp [hh]) x t (fun s1 acc k1 g1 d1 o1 hi => ?_) (by rw [sizeLine_eq]; omega))
  have l1 : acc.toList.length = x.cps.size := by rw [Array.length_toList]; exact hi.1
  have hS : StrsAre acc.toList (x.cps.toList.map fun c => (⟨#[c]⟩ : Str)) := strs_by (by rw [l1, List.length_map, Array.length_toList]) fun j v hj => by
    obtain ⟨c, u, hc, rfl⟩ := hi.2 j v (by rw [← Array.getElem?_toList]; exact hj)
    exact ⟨⟨#[c]⟩, u, by rw [List.getElem?_map, Array.getElem?_toList, hc]; rfl, rfl⟩
  refine wpAny_bind (wpAny_newList ?_ (by rw [l1, sizeLine_eq]; omega))
  have hoL : (s1.heap.push (seqObj "list" acc.toList.toArray 0)).get? s1.heap.objs.size = some (seqObj "list" acc.toList.toArray 0) := Heap.get?_push_size _ rfl
  refine wpAny_bind (wpAny_holding (wpAny_call_entry slot_list_sort ⟨_, hoL, rfl⟩ entry_list_sort
    (SrtO.list_sort_ord (s := { s1 with heap := s1.heap.push (seqObj "list" acc.toList.toArray 0) }) swo_strs hoL (by rw [l1, sizeLine_eq]; omega) (fun h2 => str_sortable hS h2) fun out hs hb => ⟨_, rfl, ?_⟩) (args_list_sort _)))
  have ho : StrsAre out (out.map strOf) := strs_of_all fun v hv => strs_mem hS v (hb.perm.mem_iff.mp hv)
  have pm : (out.map strOf).Perm (x.cps.toList.map fun c => (⟨#[c]⟩ : Str)) := by
    have z := hb.perm.map strOf
    rw [strOf_strs hS] at z
    exact z
  obtain ⟨c, hc⟩ := sortedHeap_at (vs := acc.toList) (out := out.toArray) hoL
  have gone : s.heap.get? s1.heap.objs.size = none := by
    cases z : s.heap.get? s1.heap.objs.size with
    | none => rfl
    | some u => exact absurd (Heap.lt_size (k1 _ _ z)) (Nat.lt_irrefl _)
  refine wpAny_pure ⟨_, rfl, q _ s1.heap.objs.size out _ ho pm (List.pairwise_map.mpr hs) (fun b u e => ?_) gone g1 d1 o1 ⟨c, hc⟩⟩
  have z := k1 b u e
  have lt := Heap.lt_size z
  show (sortedHeap (s1.heap.push (seqObj "list" acc.toList.toArray 0)) s1.heap.objs.size acc.toList out.toArray).get? b = some u
  rw [sortedHeap_old (Nat.ne_of_lt lt) (by rw [size_push']; exact Nat.lt_succ_of_lt lt)]
  exact Heap.get?_push_of_some _ z
end
section
variable {X : Cx}
/-- sorted(z), z a text -/
def rSortTxt : List V → Hp → VK → Prop := fun vs H Q => ∃ z : Str, vs = [V.str z] ∧ z.cps.size ≤ 4000 ∧
  ∀ (zs : List Str) (p : Addr) (H' : Hp), zs.Perm (z.cps.toList.map fun c => (⟨#[c]⟩ : Str)) → zs.Pairwise (fun x y => sltB y x = false) → Same H H' → H p = none → H' p = some (.lst (zs.map V.str)) → Q (.ref p) H'
theorem cr_sortTxt (hc : X.calm = true) : CallR X (.builtin "sorted") rSortTxt := by
  intro pins s σ H vs us Q I r h
  obtain ⟨z, rfl, hz, q⟩ := h
  obtain ⟨u, rfl, t, rfl⟩ := vals1 r
  refine sorted_text (I.ok.hd hc) hz fun s' d out zs ho pm pw kk gone g1 d1 o1 hget => ?_
  obtain ⟨n, hget⟩ := hget
  have hn : H d = none := by
    cases e : H d with
    | none => rfl
    | some o =>
      obtain ⟨u, hu⟩ := objOk_get (I.hok d o e)
      rw [gone] at hu
      cases hu
  have hlen : (zs.map V.str).length ≤ sizeLine := by
    rw [List.length_map, pm.length_eq, List.length_map, Array.length_toList, sizeLine_eq]
    omega
  have only : ∀ b o, (fun b => if b = d then some (HO.lst (zs.map V.str)) else none) b = some o → b = d ∧ o = .lst (zs.map V.str) := fun b o e => by
    dsimp only at e
    by_cases z : b = d
    · rw [if_pos z] at e
      exact ⟨z, (Option.some.inj e).symm⟩
    · rw [if_neg z] at e
      cases e
  have J : Inv X pins σ (plus H fun b => if b = d then some (.lst (zs.map V.str)) else none) { s with heap := s'.heap, toks := s'.toks } := by
    refine inv_more I kk (fun b o e => ?_) fun b o e => ?_
    · rw [(only b o e).1]
      exact ⟨gone, hn⟩
    · obtain ⟨rfl, rfl⟩ := only b o e
      exact ⟨hlen, out, n, vals_of_strs ho, hget⟩
  have e : s' = { s with heap := s'.heap, toks := s'.toks } := by
    cases s'
    cases s
    cases g1
    cases d1
    cases o1
    rfl
  rw [e]
  refine ⟨.ref d, _, J, rfl, q zs d _ pm pw (fun b o e => (plus_old ?_).trans e) hn (plus_new (if_pos rfl))⟩
  exact if_neg fun z => by rw [z, hn] at e; cases e
end
end Mo

/-! ### sorted(a list of pairs of texts) -/
namespace Mo
open PySem PySem.Spec PyProof.Rows L2
section
variable {prog : Program} {w : World} {A : Around} {E : Value → Shared → Prop} {s : Shared}
end
section
variable {X : Cx}
/-- sorted(xs), xs a list of pairs of texts -/
def rSortPs (K : PySem.W.Frag) : List V → Hp → VK → Prop := fun vs H Q => ∃ (l : Addr) (ks : List (Addr × List Str)), vs = [V.ref l] ∧ SqL K H l (ks.map fun p => V.ref p.1) ∧ (∀ p ∈ ks, SqT K H p.1 (p.2.map V.str) ∧ p.2.length = 2) ∧
  ∀ (L' : List (Addr × List Str)) (p : Addr), L'.Perm ks → L'.Pairwise (fun q r => lexS (two r.2) (two q.2) = false) → H p = none → Q (.ref p) (upd H p (.lst (L'.map fun q => V.ref q.1)))
end
end Mo

namespace Mo
open PySem PySem.Spec PyProof.Rows L2
/-! ### components of a bipartite graph: by merging, and by walking -/
abbrev Nd := Bool × Nat
inductive Cn (es : List (Nat × Nat)) : Nd → Nd → Prop
  | refl (v : Nd) : Cn es v v
  | l2r {v : Nd} {a b : Nat} : Cn es v (false, a) → (a, b) ∈ es → Cn es v (true, b)
  | r2l {v : Nd} {a b : Nat} : Cn es v (true, b) → (a, b) ∈ es → Cn es v (false, a)
section
variable {es es' : List (Nat × Nat)} {u v x : Nd} {a b : Nat}
theorem Cn.trans (h : Cn es u v) (k : Cn es v x) : Cn es u x := by
  induction k with
  | refl => exact h
  | l2r _ e ih => exact .l2r ih e
  | r2l _ e ih => exact .r2l ih e
theorem Cn.symm (h : Cn es u v) : Cn es v u := by
  induction h with
  | refl => exact .refl _
  | l2r _ e ih => exact (Cn.r2l (.refl _) e).trans ih
  | r2l _ e ih => exact (Cn.l2r (.refl _) e).trans ih
theorem Cn.mono (h : Cn es u v) (s : ∀ e ∈ es, e ∈ es') : Cn es' u v := by
  induction h with
  | refl => exact .refl _
  | l2r _ e ih => exact .l2r ih (s _ e)
  | r2l _ e ih => exact .r2l ih (s _ e)
theorem Cn.in {ns : List Nat} (h : Cn es u v) (hu : u.2 ∈ ns) (s : ∀ e ∈ es, e.1 ∈ ns ∧ e.2 ∈ ns) : v.2 ∈ ns := by
  induction h with
  | refl => exact hu
  | l2r _ e ih => exact (s _ e).2
  | r2l _ e ih => exact (s _ e).1
theorem Cn.nil_iff : Cn [] u v ↔ v = u := by
  refine ⟨fun h => ?_, fun h => h ▸ .refl _⟩
  induction h with
  | refl => rfl
  | l2r _ e _ => cases e
  | r2l _ e _ => cases e
/-- the node is joined with an end of the edge (a, b) -/
def Tch (es : List (Nat × Nat)) (a b : Nat) (u : Nd) : Prop := Cn es u (false, a) ∨ Cn es u (true, b)
theorem Tch.at (h : Tch es a b u) (k : Cn es v u) : Tch es a b v := h.imp k.trans k.trans
theorem Cn.add : Cn (es ++ [(a, b)]) u v ↔ Cn es u v ∨ (Tch es a b u ∧ Tch es a b v) := by
  constructor
  · intro h
    induction h with
    | refl => exact .inl (.refl _)
    | @l2r a' b' _ e ih =>
      rcases List.mem_append.mp e with e | e
      · exact ih.imp (fun h => .l2r h e) fun h => ⟨h.1, h.2.at (.r2l (.refl _) e)⟩
      · obtain ⟨rfl, rfl⟩ := Prod.mk.inj (List.mem_singleton.mp e)
        exact .inr ⟨ih.elim .inl (·.1), .inr (.refl _)⟩
    | @r2l a' b' _ e ih =>
      rcases List.mem_append.mp e with e | e
      · exact ih.imp (fun h => .r2l h e) fun h => ⟨h.1, h.2.at (.l2r (.refl _) e)⟩
      · obtain ⟨rfl, rfl⟩ := Prod.mk.inj (List.mem_singleton.mp e)
        exact .inr ⟨ih.elim .inr (·.1), .inl (.refl _)⟩
  · have s : ∀ e ∈ es, e ∈ es ++ [(a, b)] := fun e h => List.mem_append_left _ h
    have m : (a, b) ∈ es ++ [(a, b)] := by simp
    have one : ∀ {y : Nd}, Tch es a b y → Cn (es ++ [(a, b)]) y (false, a) := fun h =>
      h.elim (fun h => h.mono s) fun h => .r2l (h.mono s) m
    rintro (h | ⟨h, k⟩)
    · exact h.mono s
    · exact (one h).trans (one k).symm
end
abbrev Pt := List Nat × List Nat
/-- the node is in the part -/
def At (p : Pt) (u : Nd) : Prop := u.2 ∈ (if u.1 then p.2 else p.1)
theorem asc_ext : ∀ a b : List Nat, a.Pairwise (· < ·) → b.Pairwise (· < ·) → (∀ x, x ∈ a ↔ x ∈ b) → a = b
  | [], [], _, _, _ => rfl
  | [], y :: b, _, _, h => absurd ((h y).mpr List.mem_cons_self) (by simp)
  | x :: a, [], _, _, h => absurd ((h x).mp List.mem_cons_self) (by simp)
  | x :: a, y :: b, ha, hb, h => by
    have ha2 := List.pairwise_cons.mp ha
    have hb2 := List.pairwise_cons.mp hb
    have e : x = y := by
      rcases List.mem_cons.mp ((h x).mp List.mem_cons_self) with q | q
      · exact q
      · rcases List.mem_cons.mp ((h y).mpr List.mem_cons_self) with q' | q'
        · exact q'.symm
        · have := hb2.1 x q
          have := ha2.1 y q'
          omega
    subst e
    congr 1
    refine asc_ext a b ha2.2 hb2.2 fun z => ⟨fun hz => ?_, fun hz => ?_⟩
    · rcases List.mem_cons.mp ((h z).mp (List.mem_cons_of_mem _ hz)) with q | q
      · have := ha2.1 z hz
        omega
      · exact q
    · rcases List.mem_cons.mp ((h z).mpr (List.mem_cons_of_mem _ hz)) with q | q
      · have := hb2.1 z hz
        omega
      · exact q
theorem asc_nodup {a : List Nat} (h : a.Pairwise (· < ·)) : a.Nodup := h.imp fun h => Nat.ne_of_lt h
/-- a component of the graph, in which v lies -/
structure Comp (es : List (Nat × Nat)) (v : Nd) (p : Pt) : Prop where
  asc1 : p.1.Pairwise (· < ·)
  asc2 : p.2.Pairwise (· < ·)
  all : ∀ u, At p u ↔ Cn es v u
theorem Comp.eq {es : List (Nat × Nat)} {v u : Nd} {p q : Pt} (h : Comp es v p) (k : Comp es u q) {x : Nd} (hx : At p x) (kx : At q x) : p = q := by
  have e : ∀ y, At p y ↔ At q y := fun y => by
    rw [h.all, k.all]
    have h1 := (h.all x).mp hx
    have k1 := (k.all x).mp kx
    exact ⟨fun z => k1.trans (h1.symm.trans z), fun z => h1.trans (k1.symm.trans z)⟩
  exact Prod.ext (asc_ext _ _ h.asc1 k.asc1 fun c => e (false, c)) (asc_ext _ _ h.asc2 k.asc2 fun c => e (true, c))
theorem Comp.self {es : List (Nat × Nat)} {v : Nd} {p : Pt} (h : Comp es v p) : At p v := (h.all v).mpr (.refl v)
/-- the components of the graph whose nodes have these names -/
structure Parts (es : List (Nat × Nat)) (ns : List Nat) (ps : List Pt) : Prop where
  nd : ps.Nodup
  cov : ∀ v : Nd, v.2 ∈ ns → ∃ p ∈ ps, At p v
  cmp : ∀ p ∈ ps, ∃ v : Nd, v.2 ∈ ns ∧ Comp es v p
section
variable {es : List (Nat × Nat)} {ns : List Nat} {ps qs : List Pt}
theorem Parts.iff (h : Parts es ns ps) (k : Parts es ns qs) {p : Pt} : p ∈ ps ↔ p ∈ qs := by
  have one : ∀ {ps qs : List Pt}, Parts es ns ps → Parts es ns qs → p ∈ ps → p ∈ qs := fun h k hp => by
    obtain ⟨v, hv, hc⟩ := h.cmp p hp
    obtain ⟨q, hq, ha⟩ := k.cov v hv
    obtain ⟨u, _, hd⟩ := k.cmp q hq
    rw [hc.eq hd hc.self ha]
    exact hq
  exact ⟨one h k, one k h⟩
theorem Parts.nil (hn : ns.Nodup) : Parts [] ns (ns.map (fun c => ([c], [])) ++ ns.map fun c => ([], [c])) := by
  refine ⟨?_, fun v hv => ?_, fun p hp => ?_⟩
  · refine List.nodup_append.mpr ⟨?_, ?_, ?_⟩
    · refine (List.pairwise_map.mpr (hn.imp fun h e => h ?_))
      simpa using e
    · refine (List.pairwise_map.mpr (hn.imp fun h e => h ?_))
      simpa using e
    · intro a ha b hb e
      obtain ⟨c, _, rfl⟩ := List.mem_map.mp ha
      obtain ⟨d, _, rfl⟩ := List.mem_map.mp hb
      simp at e
  · obtain ⟨s, c⟩ := v
    cases s
    · exact ⟨([c], []), List.mem_append_left _ (List.mem_map.mpr ⟨c, hv, rfl⟩), List.mem_singleton.mpr rfl⟩
    · exact ⟨([], [c]), List.mem_append_right _ (List.mem_map.mpr ⟨c, hv, rfl⟩), List.mem_singleton.mpr rfl⟩
  · rcases List.mem_append.mp hp with h | h
    · obtain ⟨c, hc, rfl⟩ := List.mem_map.mp h
      refine ⟨(false, c), hc, by simp, by simp, fun u => ?_⟩
      rw [Cn.nil_iff]
      obtain ⟨s, d⟩ := u
      cases s <;> simp [At]
    · obtain ⟨c, hc, rfl⟩ := List.mem_map.mp h
      refine ⟨(true, c), hc, by simp, by simp, fun u => ?_⟩
      rw [Cn.nil_iff]
      obtain ⟨s, d⟩ := u
      cases s <;> simp [At]
/-- the parts near an edge, and the others -/
def nearP (ps : List Pt) (a b : Nat) : List Pt := ps.filter fun p => decide (a ∈ p.1) || decide (b ∈ p.2)
def farP (ps : List Pt) (a b : Nat) : List Pt := ps.filter fun p => !decide (a ∈ p.1) && !decide (b ∈ p.2)
theorem mem_near {a b : Nat} {p : Pt} : p ∈ nearP ps a b ↔ p ∈ ps ∧ (a ∈ p.1 ∨ b ∈ p.2) := by
  unfold nearP
  rw [List.mem_filter]
  simp
theorem mem_far {a b : Nat} {p : Pt} : p ∈ farP ps a b ↔ p ∈ ps ∧ a ∉ p.1 ∧ b ∉ p.2 := by
  unfold farP
  rw [List.mem_filter]
  simp
theorem nodup_flatMap {f : Pt → List Nat} : ∀ {l : List Pt}, l.Nodup → (∀ p ∈ l, (f p).Nodup) → (∀ p ∈ l, ∀ q ∈ l, ∀ c, c ∈ f p → c ∈ f q → p = q) → (l.flatMap f).Nodup
  | [], _, _, _ => List.nodup_nil
  | p :: l, hn, h1, h2 => by
    have hn2 := List.nodup_cons.mp hn
    rw [List.flatMap_cons]
    refine List.nodup_append.mpr ⟨h1 p List.mem_cons_self, nodup_flatMap hn2.2 (fun q hq => h1 q (List.mem_cons_of_mem _ hq)) (fun q hq r hr => h2 q (List.mem_cons_of_mem _ hq) r (List.mem_cons_of_mem _ hr)), fun c hc d hd e => ?_⟩
    subst e
    obtain ⟨q, hq, hcq⟩ := List.mem_flatMap.mp hd
    have := h2 p List.mem_cons_self q (List.mem_cons_of_mem _ hq) c hc hcq
    rw [this] at hn2
    exact hn2.1 hq
theorem le_asc {l : List Nat} (h : l.Pairwise (· ≤ ·)) (n : l.Nodup) : l.Pairwise (· < ·) := List.Pairwise.imp₂ (fun a b h1 h2 => Nat.lt_of_le_of_ne h1 h2) h n
theorem Parts.step (h : Parts es ns ps) {a b : Nat} (ha : a ∈ ns) (hb : b ∈ ns) {L R : List Nat} (pl : L.Perm ((nearP ps a b).flatMap (·.1))) (pr : R.Perm ((nearP ps a b).flatMap (·.2))) (sl : L.Pairwise (· ≤ ·)) (sr : R.Pairwise (· ≤ ·)) :
    Parts (es ++ [(a, b)]) ns (farP ps a b ++ [(L, R)]) := by
  have nn : (nearP ps a b).Nodup := h.nd.filter _
  have same : ∀ p ∈ ps, ∀ q ∈ ps, ∀ x : Nd, At p x → At q x → p = q := fun p hp q hq x h1 h2 => by
    obtain ⟨v, _, hv⟩ := h.cmp p hp
    obtain ⟨u, _, hu⟩ := h.cmp q hq
    exact hv.eq hu h1 h2
  have nl : ((nearP ps a b).flatMap (·.1)).Nodup := nodup_flatMap nn (fun p hp => by
      obtain ⟨v, _, hv⟩ := h.cmp p (mem_near.mp hp).1
      exact asc_nodup hv.asc1) fun p hp q hq c h1 h2 => same p (mem_near.mp hp).1 q (mem_near.mp hq).1 (false, c) h1 h2
  have nr : ((nearP ps a b).flatMap (·.2)).Nodup := nodup_flatMap nn (fun p hp => by
      obtain ⟨v, _, hv⟩ := h.cmp p (mem_near.mp hp).1
      exact asc_nodup hv.asc2) fun p hp q hq c h1 h2 => same p (mem_near.mp hp).1 q (mem_near.mp hq).1 (true, c) h1 h2
  have at_ : ∀ u, At (L, R) u ↔ ∃ p ∈ nearP ps a b, At p u := fun u => by
    obtain ⟨s, c⟩ := u
    cases s
    · exact (pl.mem_iff).trans List.mem_flatMap
    · exact (pr.mem_iff).trans List.mem_flatMap
  have cn : ∀ u, At (L, R) u ↔ Tch es a b u := fun u => by
    rw [at_]
    constructor
    · rintro ⟨p, hp, hu⟩
      obtain ⟨hp, hn⟩ := mem_near.mp hp
      obtain ⟨v, _, hv⟩ := h.cmp p hp
      have h1 := ((hv.all u).mp hu).symm
      exact hn.imp (fun z => h1.trans ((hv.all (false, a)).mp z)) fun z => h1.trans ((hv.all (true, b)).mp z)
    · rintro (z | z)
      · obtain ⟨p, hp, hq⟩ := h.cov (false, a) ha
        obtain ⟨v, _, hv⟩ := h.cmp p hp
        exact ⟨p, mem_near.mpr ⟨hp, .inl hq⟩, (hv.all u).mpr (((hv.all _).mp hq).trans z.symm)⟩
      · obtain ⟨p, hp, hq⟩ := h.cov (true, b) hb
        obtain ⟨v, _, hv⟩ := h.cmp p hp
        exact ⟨p, mem_near.mpr ⟨hp, .inr hq⟩, (hv.all u).mpr (((hv.all _).mp hq).trans z.symm)⟩
  have ain : At (L, R) (false, a) := (cn _).mpr (.inl (.refl _))
  refine ⟨?_, fun v hv => ?_, fun p hp => ?_⟩
  · refine List.nodup_append.mpr ⟨h.nd.filter _, by simp, fun p hp q hq e => ?_⟩
    obtain rfl := List.mem_singleton.mp hq
    subst e
    exact (mem_far.mp hp).2.1 ain
  · obtain ⟨p, hp, hpv⟩ := h.cov v hv
    by_cases g : a ∈ p.1 ∨ b ∈ p.2
    · exact ⟨(L, R), by simp, (at_ v).mpr ⟨p, mem_near.mpr ⟨hp, g⟩, hpv⟩⟩
    · exact ⟨p, List.mem_append_left _ (mem_far.mpr ⟨hp, fun z => g (.inl z), fun z => g (.inr z)⟩), hpv⟩
  · rcases List.mem_append.mp hp with hp | hp
    · obtain ⟨hp, h1, h2⟩ := mem_far.mp hp
      obtain ⟨v, hv, c⟩ := h.cmp p hp
      refine ⟨v, hv, c.asc1, c.asc2, fun u => ?_⟩
      rw [c.all, Cn.add]
      refine ⟨.inl, fun z => z.elim id fun z => ?_⟩
      rcases z.1 with z | z
      · exact absurd ((c.all (false, a)).mpr z) h1
      · exact absurd ((c.all (true, b)).mpr z) h2
    · obtain rfl := List.mem_singleton.mp hp
      refine ⟨(false, a), ha, le_asc sl (pl.nodup_iff.mpr nl), le_asc sr (pr.nodup_iff.mpr nr), fun u => ?_⟩
      rw [cn, Cn.add]
      refine ⟨fun z => .inr ⟨.inl (.refl _), z⟩, fun z => z.elim (fun z => .inl z.symm) (·.2)⟩
end
/-! the walk from a node -/
def nextN (es : List (Nat × Nat)) (u : Nd) : List Nd :=
  if u.1 then (es.filter fun e => decide (e.2 = u.2)).map fun e => (false, e.1) else (es.filter fun e => decide (e.1 = u.2)).map fun e => (true, e.2)
theorem mem_next {es : List (Nat × Nat)} {u x : Nd} : x ∈ nextN es u ↔ x.1 ≠ u.1 ∧ (if u.1 then (x.2, u.2) ∈ es else (u.2, x.2) ∈ es) := by
  obtain ⟨s, c⟩ := u
  obtain ⟨t, d⟩ := x
  cases s <;> cases t <;> simp [nextN, List.mem_filter]
/-- the nodes found so far, those before index i with all that are next to them -/
structure Wlk (es : List (Nat × Nat)) (v : Nd) (F : List Nd) (i : Nat) : Prop where
  nd : F.Nodup
  st : v ∈ F
  cn : ∀ u ∈ F, Cn es v u
  dn : ∀ k u, k < i → F[k]? = some u → ∀ x ∈ nextN es u, x ∈ F
theorem Wlk.one {es : List (Nat × Nat)} {v : Nd} : Wlk es v [v] 0 := ⟨by simp, by simp, fun u h => by rw [List.mem_singleton.mp h]; exact .refl _, fun k u h => absurd h (Nat.not_lt_zero _)⟩
theorem next_cn {es : List (Nat × Nat)} {v u x : Nd} (h : Cn es v u) (k : x ∈ nextN es u) : Cn es v x := by
  obtain ⟨s, c⟩ := u
  obtain ⟨t, d⟩ := x
  obtain ⟨h1, h2⟩ := mem_next.mp k
  cases s <;> cases t
  · exact absurd rfl h1
  · exact .l2r h h2
  · exact .r2l h h2
  · exact absurd rfl h1
theorem nodup_next {es : List (Nat × Nat)} (hn : es.Nodup) (u : Nd) : (nextN es u).Nodup := by
  unfold nextN
  split
  · refine List.pairwise_map.mpr (List.Pairwise.imp_of_mem (fun {p q} hp hq h e => h ?_) (hn.filter _))
    have h1 := of_decide_eq_true (List.mem_filter.mp hp).2
    have h2 := of_decide_eq_true (List.mem_filter.mp hq).2
    exact Prod.ext (by simpa using e) (h1.trans h2.symm)
  · refine List.pairwise_map.mpr (List.Pairwise.imp_of_mem (fun {p q} hp hq h e => h ?_) (hn.filter _))
    have h1 := of_decide_eq_true (List.mem_filter.mp hp).2
    have h2 := of_decide_eq_true (List.mem_filter.mp hq).2
    exact Prod.ext (h1.trans h2.symm) (by simpa using e)
def newN (es : List (Nat × Nat)) (F : List Nd) (u : Nd) : List Nd := (nextN es u).filter fun x => !decide (x ∈ F)
theorem Wlk.step {es : List (Nat × Nat)} {v u : Nd} {F : List Nd} {i : Nat} (hn : es.Nodup) (h : Wlk es v F i) (hu : F[i]? = some u) : Wlk es v (F ++ newN es F u) (i + 1) := by
  have um := List.mem_of_getElem? hu
  refine ⟨?_, List.mem_append_left _ h.st, fun x hx => ?_, fun k y hk hy x hx => ?_⟩
  · refine List.nodup_append.mpr ⟨h.nd, (nodup_next hn u).filter _, fun a ha b hb e => ?_⟩
    subst e
    have := (List.mem_filter.mp hb).2
    simp [ha] at this
  · rcases List.mem_append.mp hx with hx | hx
    · exact h.cn x hx
    · exact next_cn (h.cn u um) (List.mem_filter.mp hx).1
  · by_cases g : k = i
    · subst g
      have lt := (List.getElem?_eq_some_iff.mp hu).1
      rw [List.getElem?_append_left lt, hu] at hy
      obtain rfl := Option.some.inj hy
      by_cases m : x ∈ F
      · exact List.mem_append_left _ m
      · exact List.mem_append_right _ (List.mem_filter.mpr ⟨hx, by simp [m]⟩)
    · have lt := (List.getElem?_eq_some_iff.mp hu).1
      rw [List.getElem?_append_left (by omega)] at hy
      exact List.mem_append_left _ (h.dn k y (by omega) hy x hx)
theorem Wlk.end {es : List (Nat × Nat)} {v : Nd} {F : List Nd} {i : Nat} (h : Wlk es v F i) (hi : F.length ≤ i) : ∀ u, u ∈ F ↔ Cn es v u := by
  have cl : ∀ u ∈ F, ∀ x ∈ nextN es u, x ∈ F := fun u hu x hx => by
    obtain ⟨k, hk⟩ := List.getElem?_of_mem hu
    have := (List.getElem?_eq_some_iff.mp hk).1
    exact h.dn k u (by omega) hk x hx
  refine fun u => ⟨h.cn u, fun z => ?_⟩
  induction z with
  | refl => exact h.st
  | l2r _ e ih => exact cl _ ih _ (mem_next.mpr ⟨by simp, by simpa using e⟩)
  | r2l _ e ih => exact cl _ ih _ (mem_next.mpr ⟨by simp, by simpa using e⟩)
theorem nd_sub {α : Type} [DecidableEq α] : ∀ (a b : List α), a.Nodup → (∀ x ∈ a, x ∈ b) → a.length ≤ b.length
  | [], b, _, _ => Nat.zero_le _
  | x :: a, b, hn, hs => by
    have hx : x ∈ b := hs x List.mem_cons_self
    have hn2 := List.nodup_cons.mp hn
    have ih := nd_sub a (b.erase x) hn2.2 fun y hy => by
      have ne : y ≠ x := fun e => hn2.1 (e ▸ hy)
      exact (List.mem_erase_of_ne ne).mpr (hs y (List.mem_cons_of_mem _ hy))
    rw [List.length_erase_of_mem hx] at ih
    have := List.length_pos_of_mem hx
    rw [List.length_cons]
    omega
theorem Wlk.len {es : List (Nat × Nat)} {v : Nd} {F : List Nd} {i : Nat} (h : Wlk es v F i) : F.length ≤ 2 * es.length + 1 := by
  refine Nat.le_trans (nd_sub F (v :: (es.map (fun e => (false, e.1)) ++ es.map fun e => (true, e.2))) h.nd fun x hx => ?_) (by simp; omega)
  have := h.cn x hx
  cases this with
  | refl => simp
  | l2r _ e => exact List.mem_cons_of_mem _ (List.mem_append_right _ (List.mem_map.mpr ⟨_, e, rfl⟩))
  | r2l _ e => exact List.mem_cons_of_mem _ (List.mem_append_left _ (List.mem_map.mpr ⟨_, e, rfl⟩))
/-- the walk's whole: the nodes of v's component, none twice -/
structure Whole (es : List (Nat × Nat)) (v : Nd) (F : List Nd) : Prop where
  nd : F.Nodup
  all : ∀ u, u ∈ F ↔ Cn es v u
def sideN (F : List Nd) (s : Bool) : List Nat := (F.filter fun u => decide (u.1 = s)).map (·.2)
/-- the components of the nodes gone through so far, and the nodes seen -/
structure Gone (es : List (Nat × Nat)) (ns : List Nat) (vs : List Nd) (qs : List Pt) (S : List Nd) : Prop where
  nd : qs.Nodup
  cov : ∀ v ∈ vs, v ∈ S
  cmp : ∀ p ∈ qs, ∃ v : Nd, v.2 ∈ ns ∧ Comp es v p
  sn : ∀ u, u ∈ S ↔ ∃ q ∈ qs, At q u
theorem Gone.nil {es : List (Nat × Nat)} {ns : List Nat} : Gone es ns [] [] [] := ⟨List.nodup_nil, fun _ h => absurd h (by simp), fun _ h => absurd h (by simp), fun u => by simp⟩
theorem Gone.old {es : List (Nat × Nat)} {ns : List Nat} {vs : List Nd} {qs : List Pt} {S : List Nd} (h : Gone es ns vs qs S) {v : Nd} (hv : v ∈ S) : Gone es ns (vs ++ [v]) qs S :=
  ⟨h.nd, fun u hu => (List.mem_append.mp hu).elim (h.cov u) fun z => by rw [List.mem_singleton.mp z]; exact hv, h.cmp, h.sn⟩
theorem Gone.new {es : List (Nat × Nat)} {ns : List Nat} {vs : List Nd} {qs : List Pt} {S : List Nd} (h : Gone es ns vs qs S) {v : Nd} (hn : v.2 ∈ ns) (hv : v ∉ S) {F : List Nd} (w : Whole es v F) {p : Pt} (c : Comp es v p) : Gone es ns (vs ++ [v]) (qs ++ [p]) (S ++ F) := by
  refine ⟨List.nodup_append.mpr ⟨h.nd, by simp, fun q hq r hr e => ?_⟩, fun u hu => ?_, fun q hq => ?_, fun u => ?_⟩
  · obtain rfl := List.mem_singleton.mp hr
    subst e
    exact hv ((h.sn v).mpr ⟨q, hq, c.self⟩)
  · rcases List.mem_append.mp hu with hu | hu
    · exact List.mem_append_left _ (h.cov u hu)
    · rw [List.mem_singleton.mp hu]
      exact List.mem_append_right _ ((w.all v).mpr (.refl v))
  · rcases List.mem_append.mp hq with hq | hq
    · exact h.cmp q hq
    · rw [List.mem_singleton.mp hq]
      exact ⟨v, hn, c⟩
  · rw [List.mem_append, h.sn, w.all, ← c.all]
    constructor
    · rintro (⟨q, hq, hu⟩ | hu)
      · exact ⟨q, List.mem_append_left _ hq, hu⟩
      · exact ⟨p, by simp, hu⟩
    · rintro ⟨q, hq, hu⟩
      rcases List.mem_append.mp hq with hq | hq
      · exact .inl ⟨q, hq, hu⟩
      · rw [List.mem_singleton.mp hq] at hu
        exact .inr hu
theorem Gone.parts {es : List (Nat × Nat)} {ns : List Nat} {vs : List Nd} {qs : List Pt} {S : List Nd} (h : Gone es ns vs qs S) (all : ∀ v : Nd, v.2 ∈ ns → v ∈ vs) : Parts es ns qs :=
  ⟨h.nd, fun v hv => (h.sn v).mp (h.cov v (all v hv)), h.cmp⟩
/-! ### the parts in order -/
/-- the sign c as a text -/
def ch1 (c : Nat) : Str := ⟨#[c]⟩
def edS (e : Nat × Nat) : List Str := [ch1 e.1, ch1 e.2]
def ptS (q : Pt) : List Str := [tx q.1, tx q.2]
def sd (b : Bool) : Str := if b then Str.ofString "right" else Str.ofString "left"
def ndS (u : Nd) : List Str := [sd u.1, ch1 u.2]
def edV (e : Nat × Nat) : List V := (edS e).map V.str
def ptV (q : Pt) : List V := (ptS q).map V.str
def ndV (u : Nd) : List V := (ndS u).map V.str
/-- in order -/
def LeS {α : Type} (g : α → List Str) (a b : α) : Prop := lexS (two (g b)) (two (g a)) = false
theorem ptS_anti {a b : Pt} (h : LeS ptS a b) (k : LeS ptS b a) : a = b := by
  have e := lexS_eq h k
  have e : (tx b.1, tx b.2) = (tx a.1, tx a.2) := e
  obtain ⟨e1, e2⟩ := Prod.mk.inj e
  exact (Prod.ext (tx_inj e1) (tx_inj e2)).symm
theorem perm_le_eq {α : Type} {le : α → α → Prop} (anti : ∀ a b, le a b → le b a → a = b) : ∀ {a b : List α}, a.Perm b → a.Pairwise le → b.Pairwise le → a = b
  | [], [], _, _, _ => rfl
  | [], y :: b, h, _, _ => absurd h.length_eq (by simp)
  | x :: a, [], h, _, _ => absurd h.length_eq (by simp)
  | x :: a, y :: b, h, ha, hb => by
    have ha2 := List.pairwise_cons.mp ha
    have hb2 := List.pairwise_cons.mp hb
    have e : x = y := by
      rcases List.mem_cons.mp (h.mem_iff.mp List.mem_cons_self) with q | q
      · exact q
      · rcases List.mem_cons.mp (h.mem_iff.mpr List.mem_cons_self) with q' | q'
        · exact q'.symm
        · exact anti _ _ (ha2.1 y q') (hb2.1 x q)
    subst e
    rw [perm_le_eq anti ((List.perm_cons x).mp h) ha2.2 hb2.2]
theorem perm_of_nodup {α : Type} [DecidableEq α] : ∀ {a b : List α}, a.Nodup → b.Nodup → (∀ x, x ∈ a ↔ x ∈ b) → a.Perm b
  | [], [], _, _, _ => .refl _
  | [], y :: b, _, _, h => absurd ((h y).mpr List.mem_cons_self) (by simp)
  | x :: a, b, ha, hb, h => by
    have ha2 := List.nodup_cons.mp ha
    have hx : x ∈ b := (h x).mp List.mem_cons_self
    have ih := perm_of_nodup (a := a) (b := b.erase x) ha2.2 (hb.erase x) fun z => by
      rw [hb.mem_erase_iff, ← h z, List.mem_cons]
      exact ⟨fun q => ⟨fun e => ha2.1 (e ▸ q), .inr q⟩, fun q => q.2.elim (fun e => absurd e q.1) id⟩
    exact (ih.cons x).trans (List.perm_cons_erase hx).symm
/-- the components in order -/
structure Comps (es : List (Nat × Nat)) (ns : List Nat) (ps : List Pt) : Prop where
  prt : Parts es ns ps
  ord : ps.Pairwise (LeS ptS)
theorem Comps.eq {es : List (Nat × Nat)} {ns : List Nat} {ps qs : List Pt} (h : Comps es ns ps) (k : Comps es ns qs) : ps = qs :=
  perm_le_eq (fun _ _ => ptS_anti) (perm_of_nodup h.prt.nd k.prt.nd fun _ => h.prt.iff k.prt) h.ord k.ord
theorem Parts.perm {es : List (Nat × Nat)} {ns : List Nat} {ps qs : List Pt} (h : Parts es ns ps) (p : qs.Perm ps) : Parts es ns qs :=
  ⟨p.nodup_iff.mpr h.nd, fun v hv => by
    obtain ⟨q, hq, a⟩ := h.cov v hv
    exact ⟨q, p.mem_iff.mpr hq, a⟩, fun q hq => h.cmp q (p.mem_iff.mp hq)⟩
theorem Parts.names {es : List (Nat × Nat)} {ns ms : List Nat} {ps : List Pt} (h : Parts es ns ps) (e : ∀ c, c ∈ ns ↔ c ∈ ms) : Parts es ms ps :=
  ⟨h.nd, fun v hv => h.cov v ((e _).mpr hv), fun p hp => by
    obtain ⟨v, hv, c⟩ := h.cmp p hp
    exact ⟨v, (e _).mp hv, c⟩⟩
/-- ascending pairs, none twice -/
def ltE (p q : Nat × Nat) : Prop := p.1 < q.1 ∨ (p.1 = q.1 ∧ p.2 < q.2)
theorem slt_ch (a b : Nat) : sltB (ch1 a) (ch1 b) = decide (a < b) := by
  unfold sltB ch1
  refine decide_eq_decide.mpr ?_
  show [a] < [b] ↔ a < b
  rw [List.cons_lt_cons_iff]
  exact ⟨fun h => h.elim id fun z => absurd z.2 (List.lt_irrefl _), .inl⟩
theorem ltE_ne {p q : Nat × Nat} (h : ltE p q) : p ≠ q := fun e => by
  subst e
  rcases h with h | h
  · exact Nat.lt_irrefl _ h
  · exact Nat.lt_irrefl _ h.2
theorem ltE_asym {p q : Nat × Nat} (h : ltE p q) (k : ltE q p) : False := by
  rcases h with h | h <;> rcases k with k | k <;> omega
/-- the edges of a graph: ascending, just these -/
structure Edges (es : List (Nat × Nat)) (E : Nat × Nat → Prop) : Prop where
  mem : ∀ e, e ∈ es ↔ E e
  asc : es.Pairwise ltE
theorem Edges.nd {es : List (Nat × Nat)} {E : Nat × Nat → Prop} (h : Edges es E) : es.Nodup := h.asc.imp fun h => ltE_ne h
theorem Edges.eq {es fs : List (Nat × Nat)} {E : Nat × Nat → Prop} (h : Edges es E) (k : Edges fs E) : es = fs :=
  perm_le_eq (fun _ _ a b => (ltE_asym a b).elim) (perm_of_nodup h.nd k.nd fun e => (h.mem e).trans (k.mem e).symm) h.asc k.asc
/-- the neighbours -/
def nbr (cs : List Nat) : List (Nat × Nat) := cs.zip (cs.drop 1)
theorem nbr_in {cs : List Nat} {e : Nat × Nat} (h : e ∈ nbr cs) : e.1 ∈ cs ∧ e.2 ∈ cs := by
  obtain ⟨h1, h2⟩ := List.of_mem_zip (show (e.1, e.2) ∈ cs.zip (cs.drop 1) from h)
  exact ⟨h1, List.mem_of_mem_drop h2⟩
/-! ### where tuples stand -/
structure TpsAt {α : Type} (f : α → List V) (H : Hp) (ps : List Addr) (qs : List α) : Prop where
  len : ps.length = qs.length
  el : ∀ (k : Nat) (p : Addr) (q : α), ps[k]? = some p → qs[k]? = some q → H p = some (.tup (f q))
section
variable {α : Type} {f : α → List V} {H H' : Hp} {ps rs : List Addr} {qs us : List α}
theorem TpsAt.same (h : TpsAt f H ps qs) (s : Same H H') : TpsAt f H' ps qs := ⟨h.len, fun k p q a b => s _ _ (h.el k p q a b)⟩
theorem TpsAt.but {d : Addr} {o : HO} (h : TpsAt f H ps qs) (hd : H d = some o) (no : ∀ xs, o ≠ .tup xs) (s : But d H H') : TpsAt f H' ps qs :=
  ⟨h.len, fun k p q a b => s _ _ (fun e => by
    have := h.el k p q a b
    rw [e, hd] at this
    exact no _ (Option.some.inj this)) (h.el k p q a b)⟩
theorem TpsAt.nil : TpsAt f H [] [] := ⟨rfl, fun k p q h => by simp at h⟩
theorem TpsAt.one {p : Addr} {q : α} (h : H p = some (.tup (f q))) : TpsAt f H [p] [q] := ⟨rfl, fun k p' q' h1 h2 => by
  cases k with
  | zero =>
    obtain rfl : p = p' := by simpa using h1
    obtain rfl : q = q' := by simpa using h2
    exact h
  | succ k => simp at h1⟩
theorem TpsAt.app (h : TpsAt f H ps qs) (g : TpsAt f H rs us) : TpsAt f H (ps ++ rs) (qs ++ us) := by
  refine ⟨by rw [List.length_append, List.length_append, h.len, g.len], fun k p q hp hq => ?_⟩
  have hl := h.len
  by_cases lt : k < ps.length
  · rw [List.getElem?_append_left lt] at hp
    rw [List.getElem?_append_left (by omega)] at hq
    exact h.el k p q hp hq
  · rw [List.getElem?_append_right (by omega)] at hp
    rw [List.getElem?_append_right (by omega), ← hl] at hq
    exact g.el _ p q hp hq
theorem TpsAt.add {p : Addr} {q : α} (h : TpsAt f H ps qs) (e : H p = some (.tup (f q))) : TpsAt f H (ps ++ [p]) (qs ++ [q]) := h.app (.one e)
theorem TpsAt.get (h : TpsAt f H ps qs) {k : Nat} {q : α} (hq : qs[k]? = some q) : ∃ p, ps[k]? = some p ∧ H p = some (.tup (f q)) := by
  have lt := (List.getElem?_eq_some_iff.mp hq).1
  have hl := h.len
  exact ⟨ps[k], List.getElem?_eq_getElem (by omega), h.el k _ q (List.getElem?_eq_getElem (by omega)) hq⟩
theorem TpsAt.at (h : TpsAt f H ps qs) {k : Nat} {p : Addr} (hp : ps[k]? = some p) : ∃ q, qs[k]? = some q ∧ H p = some (.tup (f q)) := by
  have lt := (List.getElem?_eq_some_iff.mp hp).1
  have hl := h.len
  exact ⟨qs[k], List.getElem?_eq_getElem (by omega), h.el k p _ hp (List.getElem?_eq_getElem (by omega))⟩
theorem TpsAt.put {D T : Addr} {q : α} {xs ys : List V} (h : TpsAt f H ps qs) (hD : H D = some (.lst xs)) (nT : H T = none) : TpsAt f (upd (upd H T (.tup (f q))) D (.lst ys)) (ps ++ [T]) (qs ++ [q]) := by
  have ne : T ≠ D := fun e => by
    rw [e, hD] at nT
    cases nT
  exact ((h.same (same_new nT)).but (d := D) (o := .lst xs) (by rw [upd_ne ne.symm]; exact hD) (fun _ e => by cases e) But.set).add (by rw [upd_ne ne, upd_same])
theorem TpsAt.set {D : Addr} {o : HO} {xs : List V} (h : TpsAt f H ps qs) (hD : H D = some (.lst xs)) : TpsAt f (upd H D o) ps qs := h.but (d := D) hD (fun _ e => by cases e) But.set
theorem TpsAt.tail {p : Addr} {q : α} (h : TpsAt f H (p :: ps) (q :: qs)) : TpsAt f H ps qs := ⟨by simpa using h.len, fun k p' q' a b => h.el (k + 1) p' q' (by simpa using a) (by simpa using b)⟩
theorem TpsAt.ks {g : α → List Str} : ∀ {ps : List Addr} {qs : List α}, TpsAt (fun q => (g q).map V.str) H ps qs →
    ∃ ks : List (Addr × List Str), (ks.map fun p => V.ref p.1) = ps.map V.ref ∧ ks.map (·.2) = qs.map g ∧ ∀ p ∈ ks, (∃ q, p.2 = g q) ∧ H p.1 = some (.tup (p.2.map V.str))
  | [], [], _ => ⟨[], rfl, rfl, fun _ h => absurd h (by simp)⟩
  | [], q :: qs, h => absurd h.len (by simp)
  | p :: ps, [], h => absurd h.len (by simp)
  | p :: ps, q :: qs, h => by
    obtain ⟨ks, e1, e2, e3⟩ := h.tail.ks
    refine ⟨(p, g q) :: ks, by rw [List.map_cons, List.map_cons, e1], by rw [List.map_cons, List.map_cons, e2], fun x hx => ?_⟩
    rcases List.mem_cons.mp hx with rfl | hx
    · exact ⟨⟨q, rfl⟩, h.el 0 p q rfl rfl⟩
    · exact e3 x hx
end
/-! ### signs sorted -/
theorem lt_sg (x p : Nat) : ltCps [x] [p] = decide (x < p) := by
  by_cases h : x < p
  · simp [ltCps, h]
  · by_cases h2 : x = p
    · simp [ltCps, h2]
    · simp [ltCps, h, h2]
theorem rising_ch : ∀ (ls : List Nat) (p : Nat), risingS (ch1 p) (ls.map ch1) = true → (p :: ls).Pairwise (· ≤ ·)
  | [], p, _ => by simp
  | x :: ls, p, h => by
    have h2 : (!ltCps [x] [p] && risingS (ch1 x) (ls.map ch1)) = true := h
    obtain ⟨h3, h4⟩ := Bool.and_eq_true_iff.mp h2
    rw [lt_sg] at h3
    have h5 : ¬ x < p := by simpa using h3
    have ih := rising_ch ls x h4
    refine List.pairwise_cons.mpr ⟨fun y hy => ?_, ih⟩
    rcases List.mem_cons.mp hy with q | q
    · omega
    · have := (List.pairwise_cons.mp ih).1 y q
      omega
theorem sorted_le {ls : List Nat} (h : sortedS (ls.map ch1) = true) : ls.Pairwise (· ≤ ·) := by
  cases ls with
  | nil => exact List.Pairwise.nil
  | cons p r => exact rising_ch r p h
/-- sorted(set(text)): the signs -/
theorem signs_set {ys : List Str} {cs : List Nat} (p : ys.Perm ((met cs).map fun c => (⟨#[c]⟩ : Str))) (h : sortedS ys = true) : ∃ ls : List Nat, ys = ls.map ch1 ∧ ls.Pairwise (· < ·) ∧ (∀ c, c ∈ ls ↔ c ∈ cs) ∧ ls.length = (met cs).length := by
  obtain ⟨ls, pl, rfl⟩ := perm_of_map p rfl
  exact ⟨ls, rfl, le_asc (sorted_le h) (pl.nodup_iff.mpr (met_nodup cs)), fun c => pl.mem_iff.trans mem_met, pl.length_eq⟩
/-! ### texts joined -/
def tzs (l : List (List Nat)) : List V := l.map fun q => V.str (tx q)
theorem tzs_strs (l : List (List Nat)) : tzs l = (l.map tx).map V.str := by
  unfold tzs
  rw [List.map_map]
  rfl
theorem join_tzs : ∀ l : List (List Nat), Txt.join (Str.ofString "") (l.map tx) = tx l.flatten := by
  have key : ∀ l : List (List Nat), Str.join (tx []) (l.map tx) = tx l.flatten := by
    intro l
    induction l with
    | nil => rfl
    | cons u r ih =>
      cases r with
      | nil =>
        show tx u = tx (u ++ [])
        rw [List.append_nil]
      | cons v r =>
        show tx u ++ tx [] ++ Str.join (tx []) ((v :: r).map tx) = tx (u :: v :: r).flatten
        rw [ih, tx_app, tx_app, List.append_nil]
        rfl
  intro l
  show Builtin.Str.glued _ _ = _
  rw [StrLaws.glued_eq_join, tx_nil]
  exact key l
theorem tzs_room {l : List (List Nat)} (h : l.flatten.length ≤ 100000) : ((l.map tx).map (·.length)).sum + (l.map tx).length * (Str.ofString "").length ≤ 16777216 := by
  have e3 : (Str.ofString "").length = 0 := by decide
  have e : ∀ l : List (List Nat), ((l.map tx).map (·.length)).sum = l.flatten.length := by
    intro l
    induction l with
    | nil => rfl
    | cons u r ih => rw [List.map_cons, List.map_cons, List.sum_cons, ih, tx_len, List.flatten_cons, List.length_append]
  rw [e, e3]
  omega
theorem sgs_room {zs : List Nat} (h : zs.length ≤ 100000) : ((zs.map fun c => (⟨#[c]⟩ : Str)).map (·.length)).sum + (zs.map fun c => (⟨#[c]⟩ : Str)).length * (Str.ofString "").length ≤ 16777216 := by
  have e3 : (Str.ofString "").length = 0 := by decide
  have e2 : ∀ l : List Nat, ((l.map fun c => (⟨#[c]⟩ : Str)).map (·.length)).sum = l.length := by
    intro l
    induction l with
    | nil => rfl
    | cons x l ih =>
      rw [List.map_cons, List.map_cons, List.sum_cons, ih, List.length_cons]
      show 1 + l.length = _
      omega
  rw [e2, e3]
  omega
theorem sgs_map (zs : List Nat) : zs.map sg = (zs.map fun c => (⟨#[c]⟩ : Str)).map V.str := by rw [List.map_map]; rfl
/-! ### nodes as data -/
def ndD (u : Nd) : PyData := .tuple [.str (sd u.1), .str (ch1 u.2)]
section
variable {K : PySem.W.Frag} {H : Hp}
end
section
variable {X : Cx}
end
end Mo

/-! ### an error of several classes that is kept behind its except suite -/
namespace Mo
open PySem PySem.Spec PyProof.Rows L2
/-- a new tuple -/
abbrev tupO (us : List Value) : Obj := { cls := .type "tuple", data := .seq us.toArray }
/-- what stands behind 'except': it is a new tuple of these classes -/
structure TestT (X : Cx) (te : Expr) (us : List Value) : Prop where
  test : ∀ (a : Addr) (oe : Obj) (pn : List (Addr × Obj)) {σ : L2.St} {H : Hp} {s : Shared} {Q : Value → Shared → Prop} {E : Value → Shared → Prop}, Inv (X.suite a ((a, oe) :: pn)) [] σ H s → Q (.ref s.heap.objs.size) { s with heap := s.heap.push (tupO us) } →
    wpAny (model X.prog X.w) (X.A.mark (some (.ref a))) (eval te X.env) Q E s
  fits : ∀ {M : Model} {h : Heap} {tp e : Addr} {cls : Value} {b : Bool}, X.K.In h → PySem.W.Looks M h (typeOf (.ref e)) cls → h.get? tp = some (tupO us) → PySem.W.exmAny X.K cls us = some b → PySem.W.Looks M h (excMatches (.ref e) (.ref tp)) b
/-- what 'except (x, ..) as n: kept = n' wishes of an error of the body: n in slot i, kept in slot j; behind it the error is tracked -/
def wKeepT (K : PySem.W.Frag) (us : List Value) (i j : Nat) (Wout : WX) (D : Ends) : WX := fun cls d σ H =>
  ∃ b, PySem.W.exmAny K cls us = some b ∧ (b = true → ∀ a, H a = none → D.nx (((σ.set i (some (.ref a))).set j (some (.ref a))).set i none) (upd H a (exV a cls d))) ∧ (b = false → Wout cls d σ H)
section
variable {X : Cx} {n kx : Str} {us : List Value} {te : Expr} {i j : Nat} {body : List Stmt} {np2 kp ap pos pos' : Pos} {tb : WX → TS} {Wout : WX}
end
end Mo

/-! ### lists of truth values: count, index; statements that are never reached -/
namespace Mo
open PySem PySem.Spec PyProof.Rows L2
theorem pss_never {X : Cx} {b : List Stmt} : PSs X b (fun _ _ _ => False) := ⟨fun _ _ _ _ _ _ h => h.elim⟩
def rCountB (K : PySem.W.Frag) : V → List V → Hp → VK → Prop := fun x xs H Q => ∃ (p : Addr) (bs : List Bool) (b : Bool), x = .ref p ∧ xs = [.bl b] ∧ SqL K H p (bs.map V.bl) ∧ Q (.int (bs.count b : Nat)) H
def rIndexB (K : PySem.W.Frag) : V → List V → Hp → VK → Prop := fun x xs H Q => ∃ (p : Addr) (bs : List Bool) (b : Bool) (j : Nat), x = .ref p ∧ xs = [.bl b] ∧ SqL K H p (bs.map V.bl) ∧ bs[j]? = some b ∧ (∀ m, m < j → bs[m]? = some (!b)) ∧ Q (.int (j : Nat)) H
section
variable {X : Cx}
end
end Mo

/-! ### comprehensions whose tests and items lean on the state of the def around them -/
namespace Mo
open PySem PySem.Spec PyProof.Rows L2
/-- while Y runs, X's own names stand as σ tells -/
def Back (X Y : Cx) (pins : List (Addr × Obj)) (σ : L2.St) : Prop := ∀ (pl : List (Addr × Obj)) (τ : L2.St) (G : Hp) (r : Shared), Inv Y pl τ G r → Inv X pins σ G r
section
variable {X : Cx}
end
end Mo

/-! ### lambdas without parameters that are kept (in a list, a tuple, a name) and called later -/
namespace Mo
open PySem PySem.Spec PyProof.Rows L2
/-- at f stands this very object -/
def FnO (f : Addr) (ob : Obj) : HO := .ext fun h => h.get? f = some ob
theorem fnO_ok {P : Program} {w : World} {H : Hp} {h : Heap} {f : Addr} {ob : Obj} (e : h.get? f = some ob) : ObjOk P w H h f (FnO f ob) := ⟨e, ⟨ob, e⟩, fun _ _ at1 k => k _ at1⟩
theorem fnO_at {X : Cx} {pins : List (Addr × Obj)} {σ : L2.St} {H : Hp} {s : Shared} {f : Addr} {ob : Obj} (I : Inv X pins σ H s) (e : H f = some (FnO f ob)) : s.heap.get? f = some ob := (I.hok f _ e).1
/-- all tracked things of one's own kind stay -/
def ExtK (H H' : Hp) : Prop := ∀ (b : Addr) (φ : Heap → Prop), H b = some (.ext φ) → H' b = some (.ext φ)
theorem ExtK.of {H H' : Hp} (e : LamX.ExtN H H') : ExtK H H' := fun b φ h => e b _ h (fun ps z => by cases z)
theorem ExtK.same {H H' : Hp} (e : Same H H') : ExtK H H' := fun b φ h => e b _ h
theorem ExtK.but {d : Addr} {H H' : Hp} {kv : List (Key × V)} (e : But d H H') (hd : H d = some (.dK kv)) : ExtK H H' := fun b φ h => e b _ (ne_of h hd (fun z => by cases z)) h
theorem ExtK.trans {H H1 H2 : Hp} (a : ExtK H H1) (b : ExtK H1 H2) : ExtK H H2 := fun c φ h => b c φ (a c φ h)
/-- the table of a def's code objects has got one more -/
theorem tabs_more {T : List (Addr × Str)} {H : Hp} {P c : Addr} {q : Str} {ps : Array Value} {pos : Pos} (hT : LamX.Tabs T H) (hP : H P = some (.tbl ps)) (nc : H c = none) (hu : ∀ p ∈ T, p.1 = P → p.2 = q) :
    LamX.Tabs T (upd (upd H P (.tbl (ps ++ #[rawInt pos.line, rawInt pos.col, .ref c]))) c (LamX.CodeO c q)) := by
  have ncP : P ≠ c := ne_of_none hP nc
  have code_stays : ∀ {d : Addr} {q' : Str}, H d = some (LamX.CodeO d q') → upd (upd H P (.tbl (ps ++ #[rawInt pos.line, rawInt pos.col, .ref c]))) c (LamX.CodeO c q) d = some (LamX.CodeO d q') := fun {d q'} hd => by
    rw [upd_ne (ne_of_none hd nc), upd_ne (ne_of hd hP (LamX.codeO_ne _)), hd]
  intro p hp
  obtain ⟨ps1, b1, b2, b3⟩ := hT p hp
  by_cases here : p.1 = P
  · rw [here, hP] at b1
    cases b1
    rw [here]
    rw [hu p hp here] at b3 ⊢
    have lists : (ps ++ #[rawInt pos.line, rawInt pos.col, .ref c]).toList = ps.toList ++ [rawInt pos.line, rawInt pos.col, .ref c] := by simp
    refine ⟨_, (upd_ne ncP).trans upd_same, by rw [lists]; exact PySem.TriplesOk_snoc _ _ _ _ b2, fun at_ cv found => ?_⟩
    rw [lists] at found
    rcases LamX.among_app _ b2 found with old | rfl
    · exact (b3 at_ cv old).elim fun d z => ⟨d, z.1, code_stays z.2⟩
    · exact ⟨c, rfl, upd_same⟩
  · exact ⟨ps1, by rw [upd_ne (ne_of_none b1 nc), upd_ne here, b1], b2, fun at_ cv found => (b3 at_ cv found).elim fun d z => ⟨d, z.1, code_stays z.2⟩⟩
section
variable {X : Cx} {pins : List (Addr × Obj)} {σ : L2.St} {H : Hp} {s : Shared}
/-- a lambda is made, its object tracked -/
theorem lam_keep {T : List (Addr × Str)} {c P : Addr} {params : Arguments} {body : Expr} {scope : Scope} {pos : Pos} {E : Value → Shared → Prop} {Q : Value → Shared → Prop} (TB : LamX.TabB X.base X.mg c P) (hcode : X.env.code = .ref c)
    (hm : (P, X.env.qual ++ "<lambda>") ∈ T) (hu : ∀ p ∈ T, p.1 = P → p.2 = X.env.qual ++ "<lambda>") (hdef : defaultsOf params X.env = ([], [])) (hfree : ∀ y ∈ scope.names, y.2 = .free → ∃ c, X.env.cells.lookup y.1 = some c) (I : Inv X pins σ H s) (hT : LamX.Tabs T H)
    (h : ∀ (f cc : Addr) (pm ctv : Value) (G : Hp) (r : Shared), H f = none → G f = none → LamX.ExtN H G → LamX.Tabs T G → G cc = some (LamX.CodeO cc (X.env.qual ++ "<lambda>")) →
      Inv X pins σ (upd G f (FnO f (PySem.W.kla_obj "<lambda>" (X.env.qual ++ "<lambda>") params body scope (cloFrom X.env.cells scope.names []) pm cc ctv))) r → Q (.ref f) r) :
    wpAny (model X.prog X.w) X.A (eval (.Lambda params body scope pos) X.env) Q E s := by
  obtain ⟨ps, hP, triples, known⟩ := hT _ hm
  have atP : s.heap.get? P = some { cls := .none, data := .fields ps } := I.hok P _ hP
  refine PySem.W.kla_eval hdef ?_
  cases look : codeAmong pos ps.toList with
  | some cv =>
    obtain ⟨cc, rfl, hcc⟩ := known pos cv look
    refine PySem.W.kla_makeFunctionHit (mg := X.mg) (c := c) (P := P) (ps := ps) (closure_ok hfree) I.ok.glob (I.mod.glob.keeps I.bk) hcode (TB.code.keeps I.bk) atP triples look (TB.bm.keeps I.bk) fun ctv h' tk kept le => ?_
    have fresh : H h'.objs.size = none := I.hok.fresh le
    exact h _ cc _ ctv H _ fresh fresh (LamX.ExtN.refl H) hT hcc ((I.kept (t' := tk) (h' := h') kept).laid (t' := tk) (fun b o e => Heap.get?_push_of_some _ e) (Nat.le_refl _) (fnO_ok (Heap.get?_push_size _ rfl)))
  | none =>
    refine PySem.W.kla_makeFunction (mg := X.mg) (c := c) (P := P) (ps := ps) (closure_ok hfree) I.ok.glob (I.mod.glob.keeps I.bk) hcode (TB.code.keeps I.bk) atP triples look TB.gP (TB.bm.keeps I.bk) fun cc ctv h' tk kept ge lt isCode table => ?_
    obtain ⟨c2, oc, fv, tq, ceq, oce, ocd, ocq⟩ := isCode
    cases ceq
    have ncc : H cc = none := I.hok.fresh ge
    have le : s.heap.objs.size ≤ h'.objs.size := Nat.le_trans ge (Nat.le_of_lt lt)
    have J := LamX.inv_table (t' := tk) (more := #[rawInt pos.line, rawInt pos.col, .ref cc]) (q := X.env.qual ++ "<lambda>") (h' := h') I hP kept table ge ⟨oc, fv, tq, oce, ocd, ocq⟩
    refine h h'.objs.size cc _ ctv _ _ (I.hok.fresh le) (J.hok.fresh (Nat.le_refl _)) (fun b o e n => ?_) (tabs_more hT hP ncc hu) upd_same (J.laid (t' := tk) (fun b o e => Heap.get?_push_of_some _ e) (Nat.le_refl _) (fnO_ok (Heap.get?_push_size _ rfl)))
    rw [upd_ne (ne_of_none e ncc), upd_ne (fun z => n ps (by rw [z, hP] at e; exact (Option.some.inj e).symm)), e]
end
/-- the lambda at fn was made in X; t tells what its body does over X's slots -/
def LamAt (X : Cx) (k : Nat) (H : Hp) (fn : Addr) (t : XK → TE) : Prop := ∃ (params : Arguments) (body : Expr) (scope : Scope) (pm ctv : Value) (cc : Addr),
  H fn = some (FnO fn (PySem.W.kla_obj "<lambda>" (X.env.qual ++ "<lambda>") params body scope (cloFrom X.env.cells scope.names []) pm cc ctv)) ∧ H cc = some (LamX.CodeO cc (X.env.qual ++ "<lambda>")) ∧ LamX.LamS X.env.scope scope ∧
  (∀ (q : Str) (cl : List (Str × Addr)) (pm cv ctv : Value), bindArgs (PySem.W.kla_fn "<lambda>" q params body scope cl pm cv ctv) ⟨[], []⟩ = pure []) ∧
  ∀ (A : Around) (outer : List Env) (r : Shared) (G : Hp) (E : XK) (fn cc : Addr), Room k (A.deeper (LamX.lamEnv X scope r.heap.objs.size fn cc)) → A.guards = X.A.guards → PE (LamX.lamCx X A outer r G E scope fn cc) body (t E)
theorem LamAt.keep {X : Cx} {k : Nat} {H H' : Hp} {fn : Addr} {t : XK → TE} (h : LamAt X k H fn t) (e : ExtK H H') : LamAt X k H' fn t := by
  obtain ⟨p, b, sc, pm, ctv, cc, h1, h2, r⟩ := h
  exact ⟨p, b, sc, pm, ctv, cc, e _ _ h1, e _ _ h2, r⟩
theorem LamAt.some {X : Cx} {k : Nat} {H : Hp} {fn : Addr} {t : XK → TE} (h : LamAt X k H fn t) : ∃ φ, H fn = some (.ext φ) := by
  obtain ⟨p, b, sc, pm, ctv, cc, h1, h2, r⟩ := h
  exact ⟨_, h1⟩
/-- lambda: body, as a value -/
def tLamV (X : Cx) (k : Nat) (T : List (Addr × Str)) (t : XK → TE) : TE := fun _ H Q => LamX.Tabs T H ∧ ∀ (fn : Addr) (H1 : Hp), H fn = none → LamX.ExtN H H1 → LamX.Tabs T H1 → LamAt X k H1 fn t → Q (.ref fn) H1
theorem pe_lamV {X : Cx} {T : List (Addr × Str)} {c P : Addr} {k : Nat} {params : Arguments} {body : Expr} {scope : Scope} {t : XK → TE} {lpos : Pos}
    (TB : LamX.TabB X.base X.mg c P) (hcode : X.env.code = .ref c) (hmT : (P, X.env.qual ++ "<lambda>") ∈ T) (hu : ∀ p ∈ T, p.1 = P → p.2 = X.env.qual ++ "<lambda>") (L : LamX.LamS X.env.scope scope) (hdef : defaultsOf params X.env = ([], []))
    (hbind : ∀ (q : Str) (cl : List (Str × Addr)) (pm cv ctv : Value), bindArgs (PySem.W.kla_fn "<lambda>" q params body scope cl pm cv ctv) ⟨[], []⟩ = pure [])
    (hbody : ∀ (A : Around) (outer : List Env) (r : Shared) (G : Hp) (E : XK) (fn cc : Addr), Room k (A.deeper (LamX.lamEnv X scope r.heap.objs.size fn cc)) → A.guards = X.A.guards → PE (LamX.lamCx X A outer r G E scope fn cc) body (t E)) :
    PE X (.Lambda params body scope lpos) (tLamV X k T t) := by
  refine ⟨fun pins s σ H Q I ⟨hT, told⟩ => lam_keep TB hcode hmT hu hdef (L.has I.ok) I hT fun f cc pm ctv G r nf ng ext tb code J => ?_⟩
  have s1 := same_new (o := FnO f (PySem.W.kla_obj "<lambda>" (X.env.qual ++ "<lambda>") params body scope (cloFrom X.env.cells scope.names []) pm cc ctv)) ng
  exact ⟨.ref f, _, J, rfl, told f _ nf (fun b o e n => s1 _ _ (ext b o e n)) (LamX.Tabs.ext tb fun b o e => s1 _ _ e) ⟨params, body, scope, pm, ctv, cc, upd_same, s1 _ _ code, L, hbind, hbody⟩⟩
/-- the call of what was got, the thing F: it stands in slot i; what it lets out is wished by W there -/
def tActF (i : Nat) (fn cc : Addr) (q : Str) (F : HO) (tl : XK → Hp → VK → Prop) (W : WX) : TE := fun σ H Q =>
  σ[i]? = some (some (.ref fn)) ∧ H cc = some (LamX.CodeO cc q) ∧ H fn = some F ∧ ∃ E : XK, (∀ cls d H', E cls d H' → W cls d σ H') ∧ tl E H Q
section
variable {X : Cx} {pins : List (Addr × Obj)} {σ : L2.St} {H : Hp} {s : Shared}
theorem pe_actF {CXg : CXT} {Eg : XK} {Ng : List Str} {qg : Str} {sg : Scope} {g fn cc : Addr} {cdg pm ctv : Value} {params : Arguments} {body : Expr} {scope : Scope} {k i : Nat} {a : Str} {pn : List (Addr × Obj)} {xe : Value → Shared → Prop} {W : WX} {tb : XK → TE} {p1 p2 : Pos}
    (I : Inv X pins σ H s) (L : LamX.LamS X.env.scope scope)
    (hbind : ∀ (q : Str) (cl : List (Str × Addr)) (pm cv ctv : Value), bindArgs (PySem.W.kla_fn "<lambda>" q params body scope cl pm cv ctv) ⟨[], []⟩ = pure [])
    (tk : Takes ((cxOf CXg X.prog X.w X.K X.mg X.base Ng qg sg g cdg X.A X.stack s H Eg).tr pn xe) W) (hr : Room (k + 1) (X.A.deeper (envOfC qg sg s.heap.objs.size g cdg)))
    (hbody : ∀ (A : Around) (outer : List Env) (r : Shared) (G : Hp) (E : XK) (fn cc : Addr), Room k (A.deeper (LamX.lamEnv X scope r.heap.objs.size fn cc)) → A.guards = X.A.guards → PE (LamX.lamCx X A outer r G E scope fn cc) body (tb E))
    (hN : Ng[i]? = some a) (hv : Vis sg a) (hd : (a == ("__debug__" : Str)) = false := by decide) (hcd : (a == ("__classdict__" : Str)) = false := by decide) :
    PE ((cxOf CXg X.prog X.w X.K X.mg X.base Ng qg sg g cdg X.A X.stack s H Eg).tr pn xe) (.Call (.Name a p1) [] [] p2) (tActF i fn cc (X.env.qual ++ "<lambda>") (FnO fn (PySem.W.kla_obj "<lambda>" (X.env.qual ++ "<lambda>") params body scope (cloFrom X.env.cells scope.names []) pm cc ctv)) (fun E H' Q' => tb E σ H' Q') W) := by
  constructor
  intro pinsZ sZ τ HZ Q IZ ⟨at_i, at_c, at_f, E, toW, told⟩
  refine wpAny_Call_Name_kw (thn ((pe_var (pos := p1) (i := i) hN hv hd hcd).run pinsZ sZ τ HZ (fun v H1 => v = .ref fn ∧ H1 = HZ) IZ ⟨.ref fn, at_i, rfl, rfl⟩) fun u r got => ?_)
  obtain ⟨v, H1, J, rel, ev, eH⟩ := got
  subst ev
  rw [eH] at J
  cases (show u = Value.ref fn from rel)
  have here := fnO_at J at_f
  refine PySem.W.callWith_F0 ⟨_, _, _, _, here⟩ ?_
  have since : Un (frs X.stack) [] H HZ s.heap r.heap := J.base
  obtain ⟨⟨ob, us, tq, c1, c2, c3⟩, _, _⟩ := J.hok cc _ at_c
  have inner : codeAny (model X.prog X.w) (X.A.deeper (envOfC qg sg s.heap.objs.size g cdg)) (.call (.ref fn) ⟨[], []⟩) (CR (L2.CX X.prog X.w) (envOfC qg sg s.heap.objs.size g cdg :: X.stack) X.prog X.w HZ r Q E) r := by
    refine PySem.W.kla_callFunE hr.depth here rfl L.co L.gen rfl ⟨cc, ob, us, tq, rfl, c1, c2, c3⟩ ?_
    rw [hbind]
    refine wpAny_pure (wpAny_newFunctionEnv (fun y hy => (L.own y hy).2) (fun y hy => absurd hy (by simp)) (fun h2 names sub => ⟨J.nolimit.fresh _ sub, ?_⟩) L.kind)
    show codeAny _ _ (.expr body (LamX.lamEnv X scope r.heap.objs.size fn cc)) _ _
    have B := LamX.lam_start2 (HZ := HZ) (E := E) (c' := cc) (f := fn) (tk := r.toks + ([] : List (Str × Value)).length) I L J.env0 hr.hd since names fun b o e => sub.extBut b o (Nat.ne_of_lt (Heap.lt_size e)) (Heap.get?_push_of_some _ e)
    refine PySem.W.kla_codeExpr (wpAny_mono ((hbody _ _ r HZ E fn cc (hr.deeper _) rfl).run [] _ _ HZ Q B told) (fun v r3 z => ?_) fun e r3 z => z)
    obtain ⟨y, H3, J3, ry, q⟩ := z
    exact ⟨y, H3, J3.os, J3.bare, J3.base, J3.hok, ry, q⟩
  refine wpAny_call (codeAny_mono inner fun out r2 ends => ?_)
  · match out, ends with
    | .error e, ends => exact tk e r2 (XE.of_call J (fun cls d H' z => toW cls d H' z) ends)
    | .ok (.ret u), ends => exact J.after ends
    | .ok .next, ends => exact ends.elim
    | .ok .brk, ends => exact ends.elim
    | .ok .cont, ends => exact ends.elim
/-- the def that calls what it got, by its body -/
def GivesF (X : Cx) (Ng : List Str) (x : Str) (sg : Scope) (g : Addr) (cdg : Value) (bg : List Stmt) (a : Str) (q : Str) (k : Nat) (TT : (XK → Hp → VK → Prop) → Hp → VK → Prop) : Prop :=
  ∀ (fn cc : Addr) (F : HO) (s : Shared) (H : Hp) (Q : VK) (tl : XK → Hp → VK → Prop), (∃ φ, F = .ext φ) → Room (k + 1) (X.A.deeper (envOfC x sg s.heap.objs.size g cdg)) →
    (∀ (W : WX) (pn : List (Addr × Obj)) (xe : Value → Shared → Prop) (p1 p2 : Pos), Takes ((cxOf CX0 X.prog X.w X.K X.mg X.base Ng x sg g cdg X.A X.stack s H C8.E0).nox.tr pn xe) W →
      PE ((cxOf CX0 X.prog X.w X.K X.mg X.base Ng x sg g cdg X.A X.stack s H C8.E0).nox.tr pn xe) (.Call (.Name a p1) [] [] p2) (tActF 0 fn cc q F tl W)) →
    H cc = some (LamX.CodeO cc q) → H fn = some F → TT tl H Q →
    ∃ t, PSs (cxOf CX0 X.prog X.w X.K X.mg X.base Ng x sg g cdg X.A X.stack s H C8.E0).nox bg t ∧ t { nx := fun _ H' => Q .non H', rt := Q } (L2.start Ng [.ref fn]) H
/-- the call of such a def, where X's names stand -/
theorem run_kept {TT : (XK → Hp → VK → Prop) → Hp → VK → Prop} {x a : Str} {g fn : Addr} {k : Nat} {st : Stmt} {fd : FuncData} {Ng : List Str} {t : XK → TE} {Q : VK}
    (F : Fun X.K x x st g fd) (hb : L2.Binds X.K fd [a] []) (Sg : FnScope Ng [a] (defScope st)) (hNg : Ng[0]? = some a) (hva : Vis (defScope st) a)
    (hG : ∀ cdv : Value, GivesF X Ng x (defScope st) g cdv (defBody st) a (X.env.qual ++ "<lambda>") k TT) (hr : Room (k + 2) X.A)
    (I : Inv X pins σ H s) (LA : LamAt X k H fn t) (told : TT (fun E H' Q' => t E σ H' Q') H Q)
    (hd : (a == ("__debug__" : Str)) = false := by decide) (hcd : (a == ("__classdict__" : Str)) = false := by decide) :
    codeAny (model X.prog X.w) X.A (.call (.ref g) ⟨[.ref fn], []⟩) (CR CX0 X.stack X.prog X.w H s Q C8.E0) s := by
  obtain ⟨oc, od, kV, doc, pm, an, cdv, ct, osl, rfl, lk, hcg⟩ := F.ex
  obtain ⟨params, body, scope, pm', ctv, cc, at_f, at_c, L, hbind, hbody⟩ := LA
  refine LamX.run_ofS (N := Ng) (ps := [a]) (us := [.ref fn]) (vs := [.ref fn]) lk hcg Sg hr I.env0 (hb s [.ref fn] I.kIn rfl) (.cons rfl .nil) rfl fun hr1 => ?_
  obtain ⟨t1, ht1, hq1⟩ := hG cdv fn cc _ s H Q (fun E H' Q' => t E σ H' Q') ⟨_, rfl⟩ hr1 (fun W pn xe p1 p2 tk => pe_actF (CXg := CX0) (Eg := C8.E0) (i := 0) (tb := t) I L hbind tk hr1 hbody hNg hva hd hcd) at_c at_f told
  exact ⟨t1, ht1.nox, hq1⟩
end
/-- x(e), e a lambda that X made, called in X -/
def tCallL (X : Cx) (k : Nat) (TT : (XK → Hp → VK → Prop) → Hp → VK → Prop) (te : TE) : TE := fun σ H Q => te σ H fun v H1 => ∃ (fn : Addr) (t : XK → TE), v = .ref fn ∧ LamAt X k H1 fn t ∧ TT (fun E H' Q' => t E σ H' Q') H1 Q
theorem pe_callL {X : Cx} {TT : (XK → Hp → VK → Prop) → Hp → VK → Prop} {x a : Str} {g : Addr} {k : Nat} {st : Stmt} {fd : FuncData} {Ng : List Str} {e : Expr} {te : TE} {p pos : Pos}
    (F : Fun X.K x x st g fd) (hb : L2.Binds X.K fd [a] []) (Sg : FnScope Ng [a] (defScope st)) (hg : Gl X x) (hm : X.mg x = some (.ref g)) (hNg : Ng[0]? = some a) (hva : Vis (defScope st) a)
    (hG : ∀ cdv : Value, GivesF X Ng x (defScope st) g cdv (defBody st) a (X.env.qual ++ "<lambda>") k TT) (hr : Room (k + 2) X.A) (he : PE X e te)
    (hs : starEach [e] X.env = (false, eval e X.env) :: starEach [] X.env := by rfl) (hdb : (x == ("__debug__" : Str)) = false := by decide) (hd : (a == ("__debug__" : Str)) = false := by decide) (hcd : (a == ("__classdict__" : Str)) = false := by decide) :
    PE X (.Call (.Name x p) [e] [] pos) (tCallL X k TT te) := by
  constructor
  intro pins s σ H Q I want
  refine wpAny_Call_Name_kw (ld_glob I hg hm (PySem.W.callWith_K (h₀ := X.base) I.ok.mod.kin F.kp ?_ hs (by rfl)) hdb)
  rw [hs]
  show wpAny _ _ (spliced ((false, eval e X.env) :: backTo pos (starEach [] X.env))) _ _ s
  refine Calls.spliced_cons (thn (he.run pins s σ H _ I want) fun u r ⟨v, H1, J, rel, fn, t, ev, LA, told⟩ => Calls.spliced_nil ⟨J.kIn, ?_⟩)
  subst ev
  cases (show u = Value.ref fn from rel)
  refine wpAny_call (codeAny_mono (run_kept F hb Sg hNg hva hG hr J LA told hd hcd) fun out r2 ends => ?_)
  match out, ends with
  | .error e, ends => exact (show False from ends).elim
  | .ok (.ret u), ends => exact J.after ends
  | .ok .next, ends => exact ends.elim
  | .ok .brk, ends => exact ends.elim
  | .ok .cont, ends => exact ends.elim
/-- .. called in the block of one of X's comprehensions -/
def tCallW (X : Cx) (k : Nat) (σ : L2.St) (TT : (XK → Hp → VK → Prop) → Hp → VK → Prop) (te : TE) : TE := fun τ H Q => te τ H fun v H1 => ∃ (fn : Addr) (t : XK → TE), v = .ref fn ∧ LamAt X k H1 fn t ∧ TT (fun E H' Q' => t E σ H' Q') H1 Q
end Mo

set_option exponentiation.threshold 3000
/-! ### how great data is: its ints below 10 ^ B, its signs, its bulk, its depth -/
namespace Mo
open PySem PySem.Spec PyProof.Rows L2
mutual
def okD (B : Nat) : PyData → Prop
  | .none | .bool _ => True
  | .int i => i.natAbs < 10 ^ B
  | .str z => ∀ c ∈ z.cps.toList, c < 128
  | .list ds | .tuple ds => okAll B ds
  | .dict kvs => okKv B kvs
def okAll (B : Nat) : List PyData → Prop
  | [] => True
  | d :: ds => okD B d ∧ okAll B ds
def okKv (B : Nat) : List (PyData × PyData) → Prop
  | [] => True
  | (k, v) :: r => (okD B k ∧ okD B v) ∧ okKv B r
end
theorem okAll_iff {B : Nat} : ∀ {ds : List PyData}, okAll B ds ↔ ∀ d ∈ ds, okD B d
  | [] => by simp [okAll]
  | d :: ds => by
    rw [List.forall_mem_cons, ← okAll_iff (ds := ds)]
    simp only [okAll]
mutual
theorem okD.mono {B C : Nat} (h : B ≤ C) : ∀ {d : PyData}, okD B d → okD C d
  | .none, _ => by simp only [okD]
  | .bool _, _ => by simp only [okD]
  | .int i, q => by
    simp only [okD] at q ⊢
    exact Nat.lt_of_lt_of_le q (Nat.pow_le_pow_right (by decide) h)
  | .str z, q => by
    simp only [okD] at q ⊢
    exact q
  | .list ds, q => by
    simp only [okD] at q ⊢
    exact okAll.mono h q
  | .tuple ds, q => by
    simp only [okD] at q ⊢
    exact okAll.mono h q
  | .dict kvs, q => by
    simp only [okD] at q ⊢
    exact okKv.mono h q
theorem okAll.mono {B C : Nat} (h : B ≤ C) : ∀ {ds : List PyData}, okAll B ds → okAll C ds
  | [], _ => by simp only [okAll]
  | d :: ds, q => by
    simp only [okAll] at q ⊢
    exact ⟨okD.mono h q.1, okAll.mono h q.2⟩
theorem okKv.mono {B C : Nat} (h : B ≤ C) : ∀ {kvs : List (PyData × PyData)}, okKv B kvs → okKv C kvs
  | [], _ => by simp only [okKv]
  | (k, v) :: r, q => by
    simp only [okKv] at q ⊢
    exact ⟨⟨okD.mono h q.1.1, okD.mono h q.1.2⟩, okKv.mono h q.2⟩
end
theorem int_short {B : Nat} {i : Int} (hB : 1 ≤ B) (h : i.natAbs < 10 ^ B) : (PyData.shown (.int i)).length ≤ B + 1 := by
  rw [PyData.shown_int, PySem.ofString_length]
  exact int_text_length_le10 hB h
theorem log_small {B n : Nat} (hB : B ≤ 100) (h : n < 10 ^ B) : n.log2 < 1920 := by
  by_cases h0 : n = 0
  · subst h0
    decide
  · have h1 : n < 2 ^ 1920 := Nat.lt_of_lt_of_le h (Nat.le_trans (Nat.pow_le_pow_right (by decide) hB) (by decide))
    exact (Nat.log2_lt h0).mpr h1
mutual
theorem okD.short {B : Nat} (hB : 1 ≤ B) : ∀ {d : PyData}, okD B d → d.leavesShort (B + 8) = true
  | .none, _ => by simp only [PyData.leavesShort]
  | .bool _, _ => by simp only [PyData.leavesShort]
  | .int i, q => by
    simp only [okD] at q
    have := int_short hB q
    simp only [PyData.leavesShort]
    exact decide_eq_true (by omega)
  | .str z, q => by
    simp only [okD] at q
    simp only [PyData.leavesShort, List.all_eq_true]
    exact fun c hc => decide_eq_true (Nat.lt_trans (q c hc) (by decide))
  | .list ds, q => by
    simp only [okD, PyData.leavesShort] at q ⊢
    exact okAll.short hB q
  | .tuple ds, q => by
    simp only [okD, PyData.leavesShort] at q ⊢
    exact okAll.short hB q
  | .dict kvs, q => by
    simp only [okD, PyData.leavesShort] at q ⊢
    exact okKv.short hB q
theorem okAll.short {B : Nat} (hB : 1 ≤ B) : ∀ {ds : List PyData}, okAll B ds → PyData.leavesShortAll (B + 8) ds = true
  | [], _ => by simp only [PyData.leavesShortAll]
  | d :: ds, q => by
    simp only [okAll, PyData.leavesShortAll, Bool.and_eq_true] at q ⊢
    exact ⟨okD.short hB q.1, okAll.short hB q.2⟩
theorem okKv.short {B : Nat} (hB : 1 ≤ B) : ∀ {kvs : List (PyData × PyData)}, okKv B kvs → PyData.leavesShortKv (B + 8) kvs = true
  | [], _ => by simp only [PyData.leavesShortKv]
  | (k, v) :: r, q => by
    simp only [okKv, PyData.leavesShortKv, Bool.and_eq_true] at q ⊢
    exact ⟨⟨okD.short hB q.1.1, okD.short hB q.1.2⟩, okKv.short hB q.2⟩
end
mutual
theorem okD.show {B : Nat} (hB : B ≤ 100) : ∀ {d : PyData}, okD B d → d.showable = true
  | .none, _ => by simp only [PyData.showable]
  | .bool _, _ => by simp only [PyData.showable]
  | .int i, q => by
    simp only [okD, PyData.showable] at q ⊢
    exact decide_eq_true (log_small hB q)
  | .str z, q => by simp only [PyData.showable]
  | .list ds, q => by
    simp only [okD, PyData.showable] at q ⊢
    exact okAll.show hB q
  | .tuple ds, q => by
    simp only [okD, PyData.showable] at q ⊢
    exact okAll.show hB q
  | .dict kvs, q => by
    simp only [okD, PyData.showable] at q ⊢
    exact okKv.show hB q
theorem okAll.show {B : Nat} (hB : B ≤ 100) : ∀ {ds : List PyData}, okAll B ds → PyData.showableAll ds = true
  | [], _ => by simp only [PyData.showableAll]
  | d :: ds, q => by
    simp only [okAll, PyData.showableAll, Bool.and_eq_true] at q ⊢
    exact ⟨okD.show hB q.1, okAll.show hB q.2⟩
theorem okKv.show {B : Nat} (hB : B ≤ 100) : ∀ {kvs : List (PyData × PyData)}, okKv B kvs → PyData.showableKv kvs = true
  | [], _ => by simp only [PyData.showableKv]
  | (k, v) :: r, q => by
    simp only [okKv, PyData.showableKv, Bool.and_eq_true] at q ⊢
    exact ⟨⟨okD.show hB q.1.1, okD.show hB q.1.2⟩, okKv.show hB q.2⟩
end
theorem bulkAll_app : ∀ (a b : List PyData), PyData.bulkAll (a ++ b) = PyData.bulkAll a + PyData.bulkAll b
  | [], b => by simp [PyData.bulkAll]
  | x :: a, b => by
    rw [List.cons_append]
    simp only [PyData.bulkAll]
    rw [bulkAll_app a b]
    omega
theorem depthAll_le {n : Nat} : ∀ {ds : List PyData}, PyData.depthAll ds ≤ n ↔ ∀ d ∈ ds, d.depth ≤ n
  | [] => by simp [PyData.depthAll]
  | d :: ds => by
    rw [List.forall_mem_cons, ← depthAll_le (ds := ds)]
    simp only [PyData.depthAll]
    exact Nat.max_le
/-- data of these bounds -/
structure Fit (B W D : Nat) (d : PyData) : Prop where
  ok : okD B d
  bulk : d.bulk ≤ W
  deep : d.depth ≤ D
/-- lists of such data, of this bulk together -/
structure FitAll (B W D : Nat) (ds : List PyData) : Prop where
  ok : okAll B ds
  bulk : PyData.bulkAll ds ≤ W
  deep : PyData.depthAll ds ≤ D
theorem Fit.mono {B W D B' W' D' : Nat} {d : PyData} (h : Fit B W D d) (h1 : B ≤ B') (h2 : W ≤ W') (h3 : D ≤ D') : Fit B' W' D' d := ⟨h.ok.mono h1, Nat.le_trans h.bulk h2, Nat.le_trans h.deep h3⟩
theorem FitAll.app {B W D W' : Nat} {a b : List PyData} (h : FitAll B W D a) (g : FitAll B W' D b) : FitAll B (W + W') D (a ++ b) :=
  ⟨okAll_iff.mpr fun d hd => (List.mem_append.mp hd).elim (okAll_iff.mp h.ok d) (okAll_iff.mp g.ok d), by rw [bulkAll_app]; exact Nat.add_le_add h.bulk g.bulk, depthAll_le.mpr fun d hd => (List.mem_append.mp hd).elim (depthAll_le.mp h.deep d) (depthAll_le.mp g.deep d)⟩
theorem FitAll.tup {B W D : Nat} {a : List PyData} (h : FitAll B W D a) : Fit B W (D + 1) (.tuple a) := ⟨by simp only [okD]; exact h.ok, by simp only [PyData.bulk]; exact h.bulk, by simp only [PyData.depth]; exact Nat.succ_le_succ h.deep⟩
theorem FitAll.lst {B W D : Nat} {a : List PyData} (h : FitAll B W D a) : Fit B W (D + 1) (.list a) := ⟨by simp only [okD]; exact h.ok, by simp only [PyData.bulk]; exact h.bulk, by simp only [PyData.depth]; exact Nat.succ_le_succ h.deep⟩
theorem Fit.one {B W D : Nat} {d : PyData} (h : Fit B W D d) : FitAll B (W + 1) D [d] := ⟨by simp only [okAll]; exact ⟨h.ok, trivial⟩, by simp only [PyData.bulkAll]; have := h.bulk; omega, by simp only [PyData.depthAll]; have := h.deep; omega⟩
theorem FitAll.sub {B W D : Nat} {a b : List PyData} (h : FitAll B W D b) (hs : a.Sublist b) : FitAll B (PyData.bulkAll a) D a := ⟨okAll_iff.mpr fun d hd => okAll_iff.mp h.ok d (hs.subset hd), Nat.le_refl _, depthAll_le.mpr fun d hd => depthAll_le.mp h.deep d (hs.subset hd)⟩
theorem FitAll.mono {B W D B' W' D' : Nat} {d : List PyData} (h : FitAll B W D d) (h1 : B ≤ B') (h2 : W ≤ W') (h3 : D ≤ D') : FitAll B' W' D' d := ⟨h.ok.mono h1, Nat.le_trans h.bulk h2, Nat.le_trans h.deep h3⟩
theorem FitAll.len {B W D : Nat} {a : List PyData} (h : FitAll B W D a) : a.length ≤ W := by
  have key : ∀ a : List PyData, a.length ≤ PyData.bulkAll a := by
    intro a
    induction a with
    | nil => exact Nat.zero_le _
    | cons x a ih =>
      simp only [PyData.bulkAll, List.length_cons]
      omega
  exact Nat.le_trans (key a) h.bulk
/-- what repr asks -/
theorem Fit.repr {B W D : Nat} {d : PyData} (h : Fit B W D d) (h1 : 1 ≤ B) (h2 : B ≤ 40) (h3 : W ≤ 300000) (h4 : D ≤ 40) : d.showable = true ∧ d.depth ≤ 40 ∧ d.shown.length ≤ sizeLine := by
  refine ⟨h.ok.show (by omega), Nat.le_trans h.deep h4, ?_⟩
  have q := PyData.shown_le_bulk (B + 8) (by omega) d (h.ok.short h1)
  have hb := h.bulk
  have m : (B + 8 + 2) * d.bulk ≤ 50 * 300000 := Nat.mul_le_mul (by omega) (by omega)
  rw [sizeLine_eq]
  omega
/-! ### kinds -/
def tyD : PyData → String
  | .none => "NoneType"
  | .bool _ => "bool"
  | .int _ => "int"
  | .str _ => "str"
  | .list _ => "list"
  | .tuple _ => "tuple"
  | .dict _ => "dict"
theorem Dx.ty {N : Addr → Prop} {K : PySem.W.Frag} {H : Hp} {x : V} {d : PyData} (h : Dx N H x d) : TyX K H x (.type (tyD d)) := by
  cases h with
  | non => exact .base .non
  | bl b => exact .base (.bl b)
  | int i => exact .base (.int i)
  | str z => exact .base (.str z)
  | lst h _ _ => exact .base (.lst h)
  | tup h _ _ => exact .base (.tup h)
  | dct h _ _ => exact .base (.dK h)
def letterD : PyData → Bool
  | .int i => decide (0 ≤ i) && decide (i ≤ 999999)
  | _ => false
def textD : PyData → Bool
  | .tuple ds => decide (ds.length ≤ 4096) && ds.all letterD
  | _ => false
end Mo

/-! ### data written out: new, and holding nothing that was there -/
namespace Mo
open PySem PySem.Spec PyProof.Rows L2
def Was (H0 : Hp) : Addr → Prop := fun a => H0 a ≠ none
theorem Was.mono {H H' : Hp} (s : Same H H') {b : Addr} (h : Was H b) : Was H' b := by
  cases e : H b with
  | none => exact absurd e h
  | some o =>
    unfold Was
    rw [s _ _ e]
    exact Option.some_ne_none _
def LitE (te : TE) (d : PyData) : Prop := ∀ σ H Q, (∀ H' v, Same H H' → Dx (Was H) H' v d → Q v H') → te σ H Q
def LitA (ta : TA) (ds : List PyData) : Prop := ∀ σ H Q, (∀ H' vs, Same H H' → DxAll (Was H) H' vs ds → Q vs H') → ta σ H Q
theorem LitE.use {te : TE} {d : PyData} (h : LitE te d) {σ : L2.St} {H : Hp} {Q : VK} (q : ∀ H' v, Same H H' → Dx (Was H) H' v d → Q v H') : te σ H Q := h σ H Q q
theorem lit_non : LitE (tC .non) .none := fun _ _ _ q => q _ _ (Same.refl _) .non
theorem lit_int {i : Int} : LitE (tC (.int i)) (.int i) := fun _ _ _ q => q _ _ (Same.refl _) (.int i)
theorem lit_str {x : Str} : LitE (tC (.str x)) (.str x) := fun _ _ _ q => q _ _ (Same.refl _) (.str x)
/-! what stands behind -/
theorem lst_dx {N : Addr → Prop} {H : Hp} {x : V} {ds : List PyData} (h : Dx N H x (.list ds)) : ∃ a xs, x = .ref a ∧ H a = some (.lst xs) ∧ ¬ N a ∧ DxAll N H xs ds := by
  generalize e : PyData.list ds = d at h
  cases h with
  | lst h n t => obtain rfl := PyData.list.inj e; exact ⟨_, _, rfl, h, n, t⟩
  | _ => cases e
theorem tpl_dx {N : Addr → Prop} {H : Hp} {x : V} {ds : List PyData} (h : Dx N H x (.tuple ds)) : ∃ a xs, x = .ref a ∧ H a = some (.tup xs) ∧ ¬ N a ∧ DxAll N H xs ds := by
  generalize e : PyData.tuple ds = d at h
  cases h with
  | tup h n t => obtain rfl := PyData.tuple.inj e; exact ⟨_, _, rfl, h, n, t⟩
  | _ => cases e
theorem keyD_inj : ∀ {a b : Key}, keyD a = keyD b → a = b
  | .inl _, .inl _, h => congrArg Sum.inl (PyData.int.inj h)
  | .inr _, .inr _, h => congrArg Sum.inr (PyData.str.inj h)
  | .inl _, .inr _, h => by cases h
  | .inr _, .inl _, h => by cases h
end Mo

/-! ### kinds of data, counts among data of any kind, tables of code objects kept -/
namespace Mo
open PySem PySem.Spec PyProof.Rows L2
def isIntD : PyData → Bool
  | .int _ | .bool _ => true
  | _ => false
def isBoolD : PyData → Bool
  | .bool _ => true
  | _ => false
def isStrD : PyData → Bool
  | .str _ => true
  | _ => false
def isTupD : PyData → Bool
  | .tuple _ => true
  | _ => false
theorem kit_int : ∀ d : PyData, kitB (tyD d) "int" = some (isIntD d)
  | .none => by show kitB "NoneType" "int" = some false; decide +kernel
  | .bool _ => by show kitB "bool" "int" = some true; decide +kernel
  | .int _ => by show kitB "int" "int" = some true; decide +kernel
  | .str _ => by show kitB "str" "int" = some false; decide +kernel
  | .list _ => by show kitB "list" "int" = some false; decide +kernel
  | .tuple _ => by show kitB "tuple" "int" = some false; decide +kernel
  | .dict _ => by show kitB "dict" "int" = some false; decide +kernel
theorem kit_bool : ∀ d : PyData, kitB (tyD d) "bool" = some (isBoolD d)
  | .none => by show kitB "NoneType" "bool" = some false; decide +kernel
  | .bool _ => by show kitB "bool" "bool" = some true; decide +kernel
  | .int _ => by show kitB "int" "bool" = some false; decide +kernel
  | .str _ => by show kitB "str" "bool" = some false; decide +kernel
  | .list _ => by show kitB "list" "bool" = some false; decide +kernel
  | .tuple _ => by show kitB "tuple" "bool" = some false; decide +kernel
  | .dict _ => by show kitB "dict" "bool" = some false; decide +kernel
theorem kit_str : ∀ d : PyData, kitB (tyD d) "str" = some (isStrD d)
  | .none => by show kitB "NoneType" "str" = some false; decide +kernel
  | .bool _ => by show kitB "bool" "str" = some false; decide +kernel
  | .int _ => by show kitB "int" "str" = some false; decide +kernel
  | .str _ => by show kitB "str" "str" = some true; decide +kernel
  | .list _ => by show kitB "list" "str" = some false; decide +kernel
  | .tuple _ => by show kitB "tuple" "str" = some false; decide +kernel
  | .dict _ => by show kitB "dict" "str" = some false; decide +kernel
theorem kit_tup : ∀ d : PyData, kitB (tyD d) "tuple" = some (isTupD d)
  | .none => by show kitB "NoneType" "tuple" = some false; decide +kernel
  | .bool _ => by show kitB "bool" "tuple" = some false; decide +kernel
  | .int _ => by show kitB "int" "tuple" = some false; decide +kernel
  | .str _ => by show kitB "str" "tuple" = some false; decide +kernel
  | .list _ => by show kitB "list" "tuple" = some false; decide +kernel
  | .tuple _ => by show kitB "tuple" "tuple" = some true; decide +kernel
  | .dict _ => by show kitB "dict" "tuple" = some false; decide +kernel
def plainD (d : PyData) : Bool := isIntD d && !isBoolD d
/-- a question about data -/
def spAsk (f : PyData → Bool) : Sp := fun vs H Q _ => ∃ (N : Addr → Prop) (x : V) (d : PyData), vs = [x] ∧ Dx N H x d ∧ d.bulk ≤ 1000000 ∧ ∀ H', Same H H' → Q (.bl (f d)) H'
theorem plain_int : ∀ {N : Addr → Prop} {H : Hp} {x : V} {d : PyData}, Dx N H x d → plainD d = true → ∃ i : Int, x = .int i ∧ d = .int i := by
  intro N H x d h e
  cases h with
  | int i => exact ⟨i, rfl, rfl⟩
  | _ => exact absurd (show false = true from e) (by decide)
def isListD : PyData → Bool
  | .list _ => true
  | _ => false
def isDictD : PyData → Bool
  | .dict _ => true
  | _ => false
/-- an integer from a to b -/
def cntB (a b : Int) : PyData → Bool
  | .int i => decide (a ≤ i) && decide (i ≤ b)
  | _ => false
/-- check_count: nothing, or InvalidCount with the very value -/
def spCnt (C : Addr) : Sp := fun vs H Q E => ∃ (N : Addr → Prop) (x : V) (d : PyData) (a b : Int), vs = [x, .int a, .int b] ∧ Dx N H x d ∧ d.bulk ≤ 1000000 ∧ (cntB a b d = true → ∀ H', Same H H' → Q .non H') ∧
  (cntB a b d = false → ∀ dd H', H dd = none → Same H H' → H' dd = some (.xd [("value", x)]) → E (.ref C) (some dd) H')
/-! more written data -/
/-! nothing is changed but tables -/
mutual
theorem Dx.tabs {N : Addr → Prop} {H H' : Hp} (s : LamX.ExtN H H') : ∀ {v : V} {d : PyData}, Dx N H v d → Dx N H' v d
  | _, _, .non => .non
  | _, _, .bl b => .bl b
  | _, _, .int i => .int i
  | _, _, .str x => .str x
  | _, _, .lst h n a => .lst (s _ _ h (fun _ z => nomatch z)) n (DxAll.tabs s a)
  | _, _, .tup h n a => .tup (s _ _ h (fun _ z => nomatch z)) n (DxAll.tabs s a)
  | _, _, .dct h n a => .dct (s _ _ h (fun _ z => nomatch z)) n (DxAll.tabs s a)
theorem DxAll.tabs {N : Addr → Prop} {H H' : Hp} (s : LamX.ExtN H H') : ∀ {v : List V} {d : List PyData}, DxAll N H v d → DxAll N H' v d
  | _, _, .nil => .nil
  | _, _, .cons a b => .cons (Dx.tabs s a) (DxAll.tabs s b)
end
theorem Tabs.same {T : List (Addr × Str)} {H H' : Hp} (t : LamX.Tabs T H) (s : Same H H') : LamX.Tabs T H' := t.ext s
theorem Tabs.but {T : List (Addr × Str)} {H H' : Hp} {d : Addr} {kvs : List (Key × V)} (t : LamX.Tabs T H) (hd : H d = some (.dK kvs)) (s : But d H H') : LamX.Tabs T H' := fun p hp => by
  obtain ⟨ps, h1, h2, h3⟩ := t p hp
  refine ⟨ps, s _ _ (fun z => ?_) h1, h2, fun pos cv hc => ?_⟩
  · rw [z, hd] at h1
    cases h1
  · obtain ⟨c, e1, e2⟩ := h3 pos cv hc
    refine ⟨c, e1, s _ _ (fun z => ?_) e2⟩
    rw [z, hd] at e2
    cases e2
theorem tabs_nil {H : Hp} {P : Addr} {q : Str} (h : H P = some (.tbl #[])) : LamX.Tabs [(P, q)] H := fun p hp => by
  rw [List.mem_singleton.mp hp]
  exact LamX.TabS.nil h
end Mo
namespace Mo
open PySem PySem.Spec PyProof.Rows L2
/-- while, by a word and a measure; the test's own reading told as it stands -/
theorem while_raw {c : TT} {tb : TS} {D : Ends} {σ : L2.St} {H : Hp} (Pv : L2.St → Hp → Prop) (μ : L2.St → Hp → Nat) (h0 : Pv σ H)
    (hs : ∀ σ H, Pv σ H → c σ H fun b H1 => if b = true then ∃ N : L2.St → Hp → Prop, (∀ σ' H', N σ' H' → ∃ m', m' < μ σ H ∧ m' = μ σ' H' ∧ Pv σ' H') ∧ tb { D with nx := N, ct := N, bk := D.nx } σ H1 else D.nx σ H1) : tWhile c tb D σ H :=
  ⟨fun m σ H => m = μ σ H ∧ Pv σ H, ⟨_, rfl, h0⟩, fun m σ H p => by
    obtain ⟨rfl, p⟩ := p
    exact hs σ H p⟩
/-- an odd value: small, and no integer from 0 on -/
structure OddD (e : PyData) : Prop where
  fit : Fit 30 100 3 e
  no : ∀ a b : Int, 0 ≤ a → cntB a b e = false
theorem fitI {B W D : Nat} {i : Int} (h : i.natAbs < 10 ^ B) (hW : 1 ≤ W) : Fit B W D (.int i) := ⟨by simp only [okD]; exact h, by simp only [PyData.bulk]; exact Nat.zero_le _, by simp only [PyData.depth]; exact Nat.zero_le _⟩
/-- what was new when the old heap was H0, d being old: nothing of it is at d -/
theorem Dx.keep {H0 H H' : Hp} {d : Addr} {v : V} {e : PyData} (h : Dx (Was H0) H v e) (hd : H0 d ≠ none) (b : But d H H') : Dx (fun x => x = d) H' v e :=
  (h.but fun x o nx hx => b x o (fun z => nx (by rw [z]; exact hd)) hx).more fun x _ z => by rw [z]; exact hd
theorem Dx.pen {H H' : Hp} {d : Addr} {v : V} {e : PyData} (h : Dx (fun x => x = d) H v e) (b : But d H H') : Dx (fun x => x = d) H' v e := h.but fun x o nx hx => b x o nx hx
end Mo

namespace Mo
open PySem PySem.Spec PyProof.Rows L2
/-! ### the pen -/
def srcD (c : Addr) (t r : Int) : List (Key × V) := [(.inr "cells", .ref c), (.inr "index", .int t), (.inr "rest", .int r)]
/-- the pen at d, its cells at c, t draws done -/
def Src (H : Hp) (d c : Addr) (t : Nat) : Prop := ∃ (ns : List Int) (r : Int), H d = some (.dK (srcD c t r)) ∧ H c = some (.lst (ns.map V.int)) ∧ ns.length ≤ 63 ∧ 0 ≤ r
theorem Src.ne {H : Hp} {d c : Addr} {t : Nat} (h : Src H d c t) : d ≠ c := by
  obtain ⟨ns, r, h1, h2, _⟩ := h
  exact ne_of h1 h2 (by intro z; cases z)
theorem Src.new {H : Hp} {d c : Addr} {t : Nat} (h : Src H d c t) {p : Addr} (hp : H p = none) : p ≠ d ∧ p ≠ c := by
  obtain ⟨ns, r, h1, h2, _⟩ := h
  exact ⟨(ne_of_none h1 hp).symm, (ne_of_none h2 hp).symm⟩
theorem Src.upd {H : Hp} {d c : Addr} {t : Nat} (h : Src H d c t) {p : Addr} {o : HO} (h1 : p ≠ d) (h2 : p ≠ c) : Src (upd H p o) d c t := by
  obtain ⟨ns, r, e1, e2, e3⟩ := h
  exact ⟨ns, r, by rw [upd_ne h1.symm]; exact e1, by rw [upd_ne h2.symm]; exact e2, e3⟩
theorem Src.same {H H' : Hp} {d c : Addr} {t : Nat} (h : Src H d c t) (s : Same H H') : Src H' d c t := by
  obtain ⟨ns, r, e1, e2, e3⟩ := h
  exact ⟨ns, r, s _ _ e1, s _ _ e2, e3⟩
def spSDraw : Sp := fun vs H Q _ => ∃ (d c : Addr) (n : Int) (t : Nat), vs = [.ref d, .int n] ∧ Src H d c t ∧ 0 < n ∧ n < 1073741824 ∧ t < 1073741824 ∧
  ∀ H' k t', But d H H' → Src H' d c t' → t' ≤ t + 1 → 0 ≤ k → k < n → Q (.int k) H'
def spSPick (K : PySem.W.Frag) : Sp := fun vs H Q _ => ∃ (d c l : Addr) (xs : List V) (t : Nat), vs = [.ref d, .ref l] ∧ Src H d c t ∧ SqL K H l xs ∧ l ≠ d ∧ 0 < xs.length ∧ xs.length < 1073741824 ∧ t < 1073741824 ∧
  ∀ H' v t', But d H H' → Src H' d c t' → t' ≤ t + 1 → v ∈ xs → Q v H'
end Mo

namespace Mo
open PySem PySem.Spec PyProof.Rows L2
section
variable {K : PySem.W.Frag}
end
end Mo

namespace Mo
open PySem PySem.Spec PyProof.Rows L2
section
variable {X : Cx}
/-- a tuple whose object has no dict -/
def Tpl (H : Hp) (p : Addr) (xs : List V) : Prop := ∃ o : Obj, o.dict = none ∧ H p = some (.frz o (.tup xs))
theorem Tpl.same {H H' : Hp} {p : Addr} {xs : List V} (h : Tpl H p xs) (s : Same H H') : Tpl H' p xs := by
  obtain ⟨o, d, e⟩ := h
  exact ⟨o, d, s _ _ e⟩
theorem Tpl.ne {H : Hp} {p q : Addr} {xs : List V} {o : HO} (h : Tpl H p xs) (hq : H q = some o) (n : ∀ a b, o ≠ .frz a b) : p ≠ q := by
  obtain ⟨o', d, e⟩ := h
  exact ne_of e hq (fun z => n _ _ z.symm)
/-- a tuple's method -/
def tTM (r : V → List V → Hp → VK → Prop) (to : TE) (t : TA) : TE := fun σ H Q => to σ H fun x H1 => (∃ p ys, x = .ref p ∧ Tpl H1 p ys) ∧ t σ H1 fun xs H2 => r x xs H2 Q
theorem ix_tupK {K : PySem.W.Frag} (h : X.K = K) : IxR X (rIxT K) := by
  subst h
  exact ix_tup
end
end Mo

namespace Mo
open PySem PySem.Spec PyProof.Rows L2
theorem vals_app : ∀ {vs : List V} {us : List Value} {zs : List V} {ws : List Value}, Vals vs us → Vals zs ws → Vals (vs ++ zs) (us ++ ws)
  | _, _, _, _, .nil, h => h
  | _, _, _, _, .cons a r, h => .cons a (vals_app r h)
end Mo

/-! ### own error classes over any of Python's errors -/
namespace Mo
open PySem PySem.Spec PyProof.Rows L2
open Builtin Builtin.ObjectAttr in
section
variable {prog : Program} {w : World} {A : Around} {E : Value → Shared → Prop} {R : Result → Shared → Prop} {hp : Heap} {g : Array GenState} {d : Drawn} {t : Nat} {os : OsState}
end
/-- what the written part says of an own error class at C over Python's B -/
structure OvC (K : PySem.W.Frag) (C : Addr) (B newId initId : String) (bmB : List Value) : Prop where
  cls : ∃ nm q N bs bm sn sub ab col dd k0 k1 k2 k3 k5, K.lookup C = some (excClassObj nm q C N bs bm true sn sub ab col dd k0 k1 k2 k3 k5 newId) ∧ PySem.W.excTail bmB bm = true
  bas : ExcBaseFacts B newId initId bmB
  obj : bmB.contains (.type "object") = true
  pas : ∀ self, refuseLoop self "__setattr__" bmB = pure ()
  sa : PySem.W.findIn K (.ref C) "__setattr__" = some (some (.builtin "object.__setattr__"))
  exC : PySem.W.subIn K (.ref C) (.type "BaseException") = some true
  tyC : PySem.W.typeIn K (.ref C) = some (.type "type")
  kC : PySem.W.keepIn K (.ref C) = true
section
variable {X : Cx} {pins : List (Addr × Obj)} {σ : L2.St} {H : Hp} {s : Shared} {a C : Addr} {f : Str} {y : V} {u : Value} {Q : Unit → Shared → Prop} {E : Value → Shared → Prop} {A : Around} {B newId initId : String} {bmB : List Value}
end
/-- self.f = e, the one field of such an error -/
def tFieldG (K : PySem.W.Frag) (f : Str) (to te : TE) : TS := fun D σ H => te σ H fun y H1 => to σ H1 fun x H2 => ∃ (a C : Addr) (B newId initId : String) (bmB : List Value), x = .ref a ∧ OvC K C B newId initId bmB ∧ PySem.W.findIn K (.ref C) f = some none ∧
  H2 a = some (exo a C none) ∧ ∀ dx, H2 dx = none → dx ≠ a → D.nx σ (upd (upd H2 dx (exd dx [(f, y)])) a (exo a C (some dx)))
section
variable {X : Cx} {o e : Expr} {es : List Expr} {to te : TE} {ta : TA} {f : Str} {p q1 pos : Pos} {B newId initId : String} {bmB : List Value}
end
/-- such a class with one field f, its __init__ at fI -/
structure ErrG (K : PySem.W.Frag) (C fI : Addr) (f : Str) (B newId initId : String) (bmB : List Value) : Prop where
  ov : OvC K C B newId initId bmB
  xf : XfC K C
  exc : ExcC K C
  no : PySem.W.findIn K (.ref C) f = some none
  te : PySem.W.exmOne K (.ref C) (.ref C) = some true
  iC : PySem.W.findIn K (.ref C) "__init__" = some (some (.ref fI))
  tI : PySem.W.typeIn K (.ref fI) = some (.type "function")
end Mo

/-! ### several 'except x as n: ..', each with its own suite -/
namespace Mo
open PySem PySem.Spec PyProof.Rows L2
/-- a clause: the class, the slot of its name, what its suite does -/
abbrev Cls3 := Value × Nat × (Addr → Value → Option Addr → TS)
/-- what the clauses wish of an error of the body, one after the other -/
def wEach (K : PySem.W.Frag) (Wout : WX) (D : Ends) : List Cls3 → WX
  | [] => Wout
  | (c, i, ts) :: r => fun cls d σ H => ∃ b, PySem.W.exmOne K cls c = some b ∧
      (b = true → ∀ a, H a = none → ts a cls d { nx := fun σ' H' => D.nx (σ'.set i none) H', rt := D.rt, bk := fun σ' H' => D.bk (σ'.set i none) H', ct := fun σ' H' => D.ct (σ'.set i none) H' } (σ.set i (some (.ref a))) H) ∧ (b = false → wEach K Wout D r cls d σ H)
inductive HdsAs (X : Cx) : List ExceptHandler → List Cls3 → Prop
  | nil : HdsAs X [] []
  | cons {x n : Str} {c : Value} {i : Nat} {ts : Addr → Value → Option Addr → TS} {b₀ : Stmt} {rest : List Stmt} {np ep : Pos} {hds : List ExceptHandler} {l : List Cls3} (hc : Names X x c) (hi : X.N[i]? = some n) (hln : X.env.kindOf n = some .local)
      (hsu : ∀ (a : Addr) (oe : Obj) (cls : Value) (d : Option Addr) (pn : List (Addr × Obj)), Zc cls d oe → (∃ vs, oe.data = .fields vs) → PSs (X.suite a ((a, oe) :: pn)) (b₀ :: rest) (ts a cls d)) (r : HdsAs X hds l) : HdsAs X (.ExceptHandler (some (.Name x np)) (some n) (b₀ :: rest) ep :: hds) ((c, i, ts) :: l)
section
variable {X : Cx} {body : List Stmt} {h₀ : ExceptHandler} {hds : List ExceptHandler} {l : List Cls3} {pos : Pos} {tb : WX → TS} {Wout : WX}
theorem ps_try_each (hs : X.stack = X.env :: X.outer) (hf : X.env.frame = some X.env.locals) (hN : X.N.Nodup) (tk : Takes X Wout)
    (hb : ∀ (W : WX) (pn : List (Addr × Obj)) (xe : Value → Shared → Prop), Takes (X.tr pn xe) W → PassesOwn (model X.prog X.w) X.A X.env xe → PSs (X.tr pn xe) body (tb W)) (hh : HdsAs X (h₀ :: hds) l) :
    PS X (.Try body (h₀ :: hds) [] [] pos) (fun D σ H => tb (wEach X.K Wout D l) D σ H) := by
  refine ⟨fun pins s σ H D I h => ?_⟩
  have ok := I.ok
  have hfr : X.A.frames = some (X.env :: X.outer) := ok.frames.trans (by rw [hs])
  refine wpAny_Try_except (wpAny_mono ((hb (wEach X.K Wout D l) (X.pn ++ pins) (fun e s₁ => wpAny (model X.prog X.w) X.A (noteFrame e X.env) (fun _ s₂ => wpAny (model X.prog X.w) X.A (setFlight e none) (fun _ s₃ => wpAny (model X.prog X.w) X.A (handleBy e X.env (h₀ :: hds)) (SP X pins D) X.xe s₃) X.xe s₂) X.xe s₁)
    (fun u s' xx => ?_) PassesOwn.looking).run [] s σ H D (I.toTry _) h) (fun f s1 hsp => ?_) (fun e s1 he => he))
  · obtain ⟨a, B, sI, pins', σ', H', cls, d, rfl, J', nb, up, sky, na, os, ag, w⟩ := xx
    have J : Inv X pins σ' H' sI := J'.ofTry ok
    show wpAny (model X.prog X.w) X.A (noteFrame (.ref a) X.env) _ _ _
    refine Sky.land Zc.steady hfr hf (hs ▸ sky) fun h3 fl3 up3 => ?_
    have J3 : Inv X pins σ' H' { s' with heap := h3 } := J.landed nb fl3.1 (up.trans up3) os ag
    obtain ⟨oe3, vs3, he3, hz3, hd3⟩ := fl3.there
    have nfr : a ∉ frs (X.env :: X.outer) := fun hm => by
      obtain ⟨_, o2, e2, hnf⟩ := fl3.2.2.1.mem hm
      rw [he3] at e2
      cases e2
      exact hnf _ hd3
    have nL : a ≠ X.env.locals := fun z => nfr (List.mem_filterMap.mpr ⟨X.env, List.mem_cons_self, hf.trans (congrArg some z.symm)⟩)
    have nF : a ∉ X.fs := fun hm => (List.mem_filterMap.mp hm).elim fun e z => nfr (List.mem_filterMap.mpr ⟨e, List.mem_cons_of_mem _ z.1, z.2⟩)
    have S3 := J3.suite he3 hd3 na nL nF
    have LT : PySem.W.Looks (model X.prog X.w) h3 (typeOf (.ref a)) cls := fun A Q E s k q => wpAny_typeOf_ref (k _ _ he3) (hz3.1 ▸ q)
    have go : ∀ {hs2 : List ExceptHandler} {l2 : List Cls3}, HdsAs X hs2 l2 → wEach X.K Wout D l2 cls d σ' H' → wpAny (model X.prog X.w) X.A (handleBy (.ref a) X.env hs2) (SP X pins D) X.xe { s' with heap := h3 } := by
      intro hs2 l2 hk
      induction hk with
      | nil =>
        intro w
        refine wpAny_handleBy_nil ?_
        obtain ⟨k1, k2, k3, oe, vs, T, oT, t2, he, hz, hd, h1, hr⟩ := id fl3
        unfold PySem.passOn
        refine wpAny_bind (wpAny_field he hd h1 ?_)
        rw [if_neg (show ¬ ((Value.ref T == Value.none) = true) from by simp)]
        have fin : wpAny (model X.prog X.w) X.A (setFlight (.ref a) X.env.frame) (fun _ s4 => wpAny (model X.prog X.w) X.A (throw (.ref a) : Sem Flow) (SP X pins D) X.xe s4) X.xe { s' with heap := h3 } := by
          rw [hf]
          refine HandSPX.setFlight_upZ fl3 fun h4 hh4 up4 => wpAny_throw (tk _ _ ⟨a, B, sI, pins, σ', H', cls, d, rfl, J, nb, (up.trans up3).trans up4, .inr (.inr (hs ▸ hh4)), na, os, ag, w⟩)
        first
          | exact wpAny_bind (wpAny_pure (wpAny_bind fin))
          | exact wpAny_bind fin
      | @cons x n c i ts b₀ rest np ep hds' l' hc hi hln hsu r ih =>
        rintro ⟨b, hb1, hyes, hno⟩
        refine wpAny_handleBy_cons (codeAny_handlers_test ?_) (by intro q; cases q)
        have test : ∀ {Q : Value → Shared → Prop} {E : Value → Shared → Prop}, Q c { s' with heap := h3 } → wpAny (model X.prog X.w) (X.A.mark (some (.ref a))) (eval (.Name x np) X.env) Q E { s' with heap := h3 } := fun {Q E} q => by
          rcases hc with ⟨hg, hdbg, hm | ⟨hm, hv, hnn⟩⟩
          · exact ld_glob (X := X.suite a ((a, oe3) :: (X.pn ++ pins))) S3 hg hm q hdbg
          · exact ld_blt (X := X.suite a ((a, oe3) :: (X.pn ++ pins))) S3 hg hm hv q hnn hdbg
        refine test ((PySem.W.exm_one (M := model X.prog X.w) J3.kIn LT hb1).here ?_)
        cases b with
        | false => exact ih (hno rfl)
        | true =>
          refine codeAny_handlers_suite_as (HandSPX.lands_againZ fl3 fun h4 fl4 up4 => ?_)
          have J4 : Inv X pins σ' H' { s' with heap := h4 } := J.landed nb fl4.1 ((up.trans up3).trans up4) os ag
          obtain ⟨oe4, vs4, he4, hz4, hd4⟩ := fl4.there
          refine store_ok (X := X.suite a ((a, oe4) :: (X.pn ++ pins))) (v := .ref a) (J4.suite he4 hd4 na nL nF) hN hi (.inl hln) rfl (fun s5 S5 => ?_) (.inr hln)
          refine wpAny_mono ((hsu a oe4 cls d (X.pn ++ pins) hz4 ⟨_, hd4⟩).run [] s5 _ H' _ S5 (hyes rfl a na)) (fun f s6 hsp => ?_) (fun _ _ z => False.elim z)
          cases f with
          | next => exact hsp.elim fun σ6 z => z.elim fun H6 z => gone_ok (z.1.unsuite ok) hN hi hln fun s7 J7 => ⟨_, _, J7, z.2⟩
          | brk => exact hsp.elim fun σ6 z => z.elim fun H6 z => gone_ok (z.1.unsuite ok) hN hi hln fun s7 J7 => ⟨_, _, J7, z.2⟩
          | cont => exact hsp.elim fun σ6 z => z.elim fun H6 z => gone_ok (z.1.unsuite ok) hN hi hln fun s7 J7 => ⟨_, _, J7, z.2⟩
          | ret u => exact hsp.elim fun v z => z.elim fun σ6 z => z.elim fun H6 z => gone_ok (z.1.unsuite ok) hN hi hln fun s7 J7 => ⟨v, _, _, J7, z.2.1, z.2.2⟩
    exact go hh w
  · cases f with
    | next => exact hsp.elim fun σ1 z => z.elim fun H1 z => wpAny_execs_nil ⟨σ1, H1, z.1.ofTry ok, z.2⟩
    | brk => exact hsp.elim fun σ1 z => z.elim fun H1 z => ⟨σ1, H1, z.1.ofTry ok, z.2⟩
    | cont => exact hsp.elim fun σ1 z => z.elim fun H1 z => ⟨σ1, H1, z.1.ofTry ok, z.2⟩
    | ret u => exact hsp.elim fun v z => z.elim fun σ1 z => z.elim fun H1 z => ⟨v, σ1, H1, z.1.ofTry ok, z.2⟩
end
/-! isinstance(e, c) in the suite, e an error with its own dict -/
/-- the error at a, its class at C, its dict at dd -/
def rIsS (K : PySem.W.Frag) (a : Addr) (cls : Value) (d : Option Addr) : List V → Hp → VK → Prop := fun xs H Q => ∃ (C dd : Addr) (fs : List (Str × V)) (c : V) (u : Value) (b : Bool), xs = [.ref a, c] ∧ cls = .ref C ∧ d = some dd ∧ H dd = some (.xd fs) ∧ ExcC K C ∧ ClsV c u ∧ PySem.W.kitOne K (.ref C) u = some b ∧ Q (.bl b) H
theorem cr_isS {X : Cx} {a : Addr} {oe : Obj} {cls : Value} {d : Option Addr} {pn : List (Addr × Obj)} (hz : Zc cls d oe) (hf : ∃ vs, oe.data = .fields vs) : CallR (X.suite a ((a, oe) :: pn)) (.builtin "isinstance") (rIsS X.K a cls d) := by
  intro pins s σ H xs us Q I r h
  obtain ⟨C, dd, fs, c, u, b, rfl, rfl, rfl, hd, T, k, e, q⟩ := h
  obtain ⟨u1, u2, rfl, r1, r2⟩ := vals2 r
  cases r1
  obtain rfl := k.eq r2
  obtain ⟨ha, _⟩ := I.pin (a, oe) (List.mem_append_left _ List.mem_cons_self)
  obtain ⟨vs, hv⟩ := hf
  obtain ⟨mA, hns, hr⟩ := (show ObjOk X.prog X.w H s.heap dd (.xd fs) from I.hok dd _ hd)
  obtain ⟨od, ho, hl⟩ := lookIn_ns hns
  exact PySem.W.kia_one (err_kit T) I.kIn ⟨oe, od, ha, hz.1, by unfold PySem.W.notCls; rw [hv] <;> rfl, by rw [hz.2]; exact ho⟩ e (fun z => nomatch z) fun tk => ⟨.bl b, H, I.tok tk, rfl, q⟩
/-- e.f in the suite -/
def tXs (K : PySem.W.Frag) (a : Addr) (cls : Value) (d : Option Addr) (f : Str) (te : TE) : TE := fun σ H Q => te σ H fun x H1 => ∃ (C dd : Addr) (fs : List (Str × V)) (v : V), x = .ref a ∧ cls = .ref C ∧ d = some dd ∧ H1 dd = some (.xd fs) ∧ XfC K C ∧ PySem.W.findIn K (.ref C) f = some none ∧ fs.lookup f = some v ∧ Q v H1
theorem pe_xs {X : Cx} {a : Addr} {oe : Obj} {cls : Value} {d : Option Addr} {pn : List (Addr × Obj)} {e : Expr} {te : TE} {pos : Pos} {f : Str} (hz : Zc cls d oe) (hf : ∃ vs, oe.data = .fields vs) (he : PE (X.suite a ((a, oe) :: pn)) e te)
    (hb : attributeBase e f X.env (eval e X.env) = eval e X.env := by rfl) : PE (X.suite a ((a, oe) :: pn)) (.Attribute e f pos) (tXs X.K a cls d f te) := by
  refine ⟨fun pins s σ H Q I h => attr_of hb (thn (he.run pins s σ H _ I h) fun u s1 hh => ?_)⟩
  obtain ⟨x, H1, I1, rx, C, dd, fs, v, rfl, rfl, rfl, ea, T, hno, l, q⟩ := hh
  obtain rfl : u = Value.ref a := rx
  obtain ⟨ha, _⟩ := I1.pin (a, oe) (List.mem_append_left _ List.mem_cons_self)
  obtain ⟨vs, hv⟩ := hf
  obtain ⟨mA, hns, hr⟩ := (show ObjOk X.prog X.w H1 s1.heap dd (.xd fs) from I1.hok dd _ ea)
  obtain ⟨od, ho, hl⟩ := lookIn_ns hns
  obtain ⟨u, hu, ru⟩ := RelO.some_of (v := v) (o := mA f) (l ▸ hr f)
  exact HandSPX.exc_get I1.kIn ⟨ha, hz.1, by unfold PySem.W.notCls; rw [hv] <;> rfl, by rw [hz.2]; exact ho⟩ T.ga T.gg T.exC (PySem.W.findObj_own T.hdC hno rfl (by rw [hl, hu])) (handed_of ru) ⟨v, H1, I1.tok _, ru, q⟩
end Mo

/-! ### dicts of anything -/
namespace Mo
open PySem PySem.Spec PyProof.Rows L2
section
variable {X : Cx}
/-- a dict of anything == {} -/
def rEqNilD : R2 := fun x y H Q => ∃ a b ks, x = .ref a ∧ y = .ref b ∧ H a = some (.dK ks) ∧ H b = some (.dK []) ∧ Q (.bl ks.isEmpty) H
theorem op_neNilTK {K : PySem.W.Frag} (h : X.K = K) (hu : X.A.units + 64 < cLine) : OpR X (compareOp .NotEq) (rNeNilT K) := by
  subst h
  exact op_neNilT hu
/-- list(a text) -/
theorem cr_lstS (hc : X.calm = true) : CallR X (.type "list") (fun xs H Q => ∃ cs : List Nat, xs = [.str (tx cs)] ∧ cs.length ≤ 100000 ∧ ∀ p, H p = none → Q (.ref p) (upd H p (.lst (cs.map sg)))) := by
  intro pins s σ H xs us Q I r h
  obtain ⟨cs, rfl, hz, q⟩ := h
  obtain ⟨u, rfl, t, rfl⟩ := vals1 r
  refine call_list_str (I.ok.hd hc) (tx cs) t (fun h' tk acc c' hk hS hacc => ?_) (by rw [tx_size]; exact fits5 hz)
  have I2 := I.laid (t' := tk) (o := .lst (cs.map sg)) (h' := h') (a := s.heap.objs.size) hk (Nat.le_refl _) ⟨by rw [List.length_map]; exact fits5 hz, acc.toList, c', vals_signs cs acc.toList (by have := hacc.1; rw [tx_size] at this; simpa using this) (fun j v e => by
    obtain ⟨c, u, e1, e2⟩ := hacc.2 j v (by simpa using e)
    exact ⟨c, u, tx_get.symm.trans e1, e2⟩), by simpa using hS⟩
  exact ⟨.ref s.heap.objs.size, _, I2, rfl, q _ (I.hok.fresh (Nat.le_refl _))⟩
theorem pi_tupK {K : PySem.W.Frag} {tg l : Expr} {tl : TE} (h : X.K = K) (hl : PE X l tl) : PI X tg l (iTup K tl) := by
  subst h
  exact pi_tup hl
/-- the turns of a walk, whatever is done in one -/
theorem turns_it {J : It} {n : Nat} {G : Hp → Prop} {Y : Nat → Hp → V → Hp → Prop} (w : Walk J n G Y) {S : V → Hp → (Hp → Prop) → Prop} {H0 : Hp} {Qd : Hp → Prop} (Pv : Nat → Hp → Prop) (h0 : Pv 0 H0) (hG : ∀ i H, i ≤ n → Pv i H → G H)
    (hs : ∀ i x H H', i < n → Pv i H → Y i H x H' → S x H' (Pv (i + 1))) (hd : ∀ H, Pv n H → Qd H) :
    ∃ W : Nat → Nat → Hp → Prop, (∃ m, W 0 m H0) ∧ ∀ i m H, W i m H → (J.stop i H ∧ Qd H) ∨ (J.go i H ∧ ∃ Nx : Hp → Prop, (∀ H', Nx H' → ∃ m', m' < m ∧ W (i + 1) m' H') ∧ ∀ x H', J.yld i H x H' → S x H' Nx) := by
  refine ⟨fun i m H => m = n - i ∧ i ≤ n ∧ Pv i H, ⟨n, by simp, Nat.zero_le _, h0⟩, fun i m H z => ?_⟩
  obtain ⟨rfl, hi, p⟩ := z
  have g := hG i H hi p
  rcases Nat.lt_or_ge i n with lt | ge
  · exact .inr ⟨w.goes i H lt g, Pv (i + 1), fun H' p' => ⟨n - (i + 1), by omega, rfl, lt, p'⟩, fun x H' y => hs i x H H' lt p (w.yields i H x H' lt g y)⟩
  · obtain rfl : i = n := Nat.le_antisymm hi ge
    exact .inl ⟨w.stops H g, hd H p⟩
end
end Mo

namespace Mo
open PySem PySem.Spec PyProof.Rows L2
section
variable {X : Cx}
theorem sl_tupAK {K : PySem.W.Frag} (h : X.K = K) : SlR X (rSlA K) := by
  subst h
  exact sl_tupA
end
end Mo

/-! ### kept lambdas, handed to a def together with more values -/
namespace Mo
open PySem PySem.Spec PyProof.Rows L2
section
variable {X : Cx} {pins : List (Addr × Obj)} {σ : L2.St} {H : Hp} {s : Shared}
def GivesM (X : Cx) (Ng : List Str) (x : Str) (sg : Scope) (g : Addr) (cdg : Value) (bg : List Stmt) (a : Str) (q : Str) (k : Nat) (TT : List V → (XK → Hp → VK → Prop) → Hp → VK → Prop) : Prop :=
  ∀ (fn cc : Addr) (F : HO) (s : Shared) (H : Hp) (Q : VK) (tl : XK → Hp → VK → Prop) (ws : List V), (∃ φ, F = .ext φ) → Room (k + 1) (X.A.deeper (envOfC x sg s.heap.objs.size g cdg)) →
    (∀ (W : WX) (pn : List (Addr × Obj)) (xe : Value → Shared → Prop) (p1 p2 : Pos), Takes ((cxOf CX0 X.prog X.w X.K X.mg X.base Ng x sg g cdg X.A X.stack s H C8.E0).nox.tr pn xe) W →
      PE ((cxOf CX0 X.prog X.w X.K X.mg X.base Ng x sg g cdg X.A X.stack s H C8.E0).nox.tr pn xe) (.Call (.Name a p1) [] [] p2) (tActF 0 fn cc q F tl W)) →
    H cc = some (LamX.CodeO cc q) → H fn = some F → TT ws tl H Q →
    ∃ t, PSs (cxOf CX0 X.prog X.w X.K X.mg X.base Ng x sg g cdg X.A X.stack s H C8.E0).nox bg t ∧ t { nx := fun _ H' => Q .non H', rt := Q } (L2.start Ng (.ref fn :: ws)) H
end
/-- x(e, ..), e a lambda that X made, called in X -/
def tCallM (X : Cx) (k m : Nat) (TT : List V → (XK → Hp → VK → Prop) → Hp → VK → Prop) (ta : TA) : TE := fun σ H Q => ta σ H fun vs H1 => ∃ (fn : Addr) (t : XK → TE) (ws : List V), vs = .ref fn :: ws ∧ ws.length = m ∧ LamAt X k H1 fn t ∧ TT ws (fun E H' Q' => t E σ H' Q') H1 Q
/-- .. called in the block of one of X's comprehensions -/
def tCallWM (X : Cx) (k m : Nat) (σ : L2.St) (TT : List V → (XK → Hp → VK → Prop) → Hp → VK → Prop) (ta : TA) : TE := fun τ H Q => ta τ H fun vs H1 => ∃ (fn : Addr) (t : XK → TE) (ws : List V), vs = .ref fn :: ws ∧ ws.length = m ∧ LamAt X k H1 fn t ∧ TT ws (fun E H' Q' => t E σ H' Q') H1 Q
end Mo

namespace Mo
open PySem PySem.Spec PyProof.Rows L2
theorem ints_dx {N : Addr → Prop} {H : Hp} : ∀ ns : List Int, DxAll N H (ns.map V.int) (ns.map PyData.int)
  | [] => .nil
  | n :: r => .cons (.int n) (ints_dx r)
theorem same_ne (x : V) : V.bl (!decide (x = x)) = V.bl false := by simp
/-- two equal tuples of flat values are not unlike -/
theorem neFl_self {K : PySem.W.Frag} {H : Hp} {p r : Addr} {xs : List V} {Q : VK} (hp : H p = some (.tup xs)) (hr : H r = some (.tup xs)) (hf : xs.all flatV = true) (q : Q (.bl false) H) : rNeFl K (.ref p) (.ref r) H Q :=
  ⟨xs, xs, ⟨p, r, rfl, rfl, hf, hf, .inr ⟨SqT.of hp, SqT.of hr⟩⟩, by rw [eqLs_self hf]; exact q⟩
theorem eqFl_self {K : PySem.W.Frag} {H : Hp} {p r : Addr} {xs : List V} {Q : VK} (hp : H p = some (.tup xs)) (hr : H r = some (.tup xs)) (hf : xs.all flatV = true) (q : Q (.bl true) H) : rEqFl K (.ref p) (.ref r) H Q :=
  ⟨xs, xs, ⟨p, r, rfl, rfl, hf, hf, .inr ⟨SqT.of hp, SqT.of hr⟩⟩, by rw [eqLs_self hf]; exact q⟩
theorem cnt_out {a b i : Int} (h : i < a ∨ b < i) : cntB a b (.int i) = false := by
  show (decide (a ≤ i) && decide (i ≤ b)) = false
  rcases h with h | h
  · rw [decide_eq_false (show ¬ a ≤ i by omega)]
    rfl
  · rw [decide_eq_false (show ¬ i ≤ b by omega), Bool.and_false]
end Mo

/-! ### texts among data of any kind -/
namespace Mo
open PySem PySem.Spec PyProof.Rows L2
theorem bulk_mem : ∀ {ds : List PyData} {d : PyData}, d ∈ ds → d.bulk ≤ PyData.bulkAll ds
  | x :: ds, d, h => by
    simp only [PyData.bulkAll]
    rcases List.mem_cons.mp h with rfl | h
    · omega
    · have := bulk_mem h
      omega
theorem bulk_len (a : List PyData) : a.length ≤ PyData.bulkAll a := by
  induction a with
  | nil => exact Nat.zero_le _
  | cons x a ih =>
    simp only [PyData.bulkAll, List.length_cons]
    omega
theorem tup_dx : ∀ {N : Addr → Prop} {H : Hp} {x : V} {d : PyData}, Dx N H x d → isTupD d = true → ∃ a xs ds, x = .ref a ∧ d = .tuple ds ∧ H a = some (.tup xs) ∧ ¬ N a ∧ DxAll N H xs ds := by
  intro N H x d h e
  cases h with
  | tup h n t => exact ⟨_, _, _, rfl, rfl, h, n, t⟩
  | _ => exact absurd (show false = true from e) (by decide)
theorem str_dx : ∀ {N : Addr → Prop} {H : Hp} {x : V} {d : PyData}, Dx N H x d → isStrD d = true → ∃ cs : List Nat, x = .str (tx cs) ∧ d = .str (tx cs) := by
  intro N H x d h e
  cases h with
  | str z => exact ⟨z.cps.toList, rfl, rfl⟩
  | _ => exact absurd (show false = true from e) (by decide)
theorem notTup {d : PyData} (h : isTupD d = false) : textD d = false := by
  cases d <;> first | rfl | exact absurd (show true = false from h) (by decide)
/-- check_text: nothing, or InvalidText with the very value -/
def spChkT (C : Addr) : Sp := fun vs H Q E => ∃ (N : Addr → Prop) (x : V) (d : PyData), vs = [x] ∧ Dx N H x d ∧ d.bulk ≤ 1000000 ∧ (textD d = true → ∀ H', Same H H' → Q .non H') ∧
  (textD d = false → ∀ dd H', H dd = none → Same H H' → H' dd = some (.xd [("value", x)]) → E (.ref C) (some dd) H')
theorem bulk_ints (ns : List Int) : PyData.bulkAll (ns.map PyData.int) = ns.length := by
  induction ns with
  | nil => rfl
  | cons n r ih =>
    rw [List.map_cons]
    simp only [PyData.bulkAll, PyData.bulk, List.length_cons]
    omega
end Mo
namespace Mo
open PySem PySem.Spec PyProof.Rows L2
/-- an error of the class C with the field f, value x, is let out -/
def Errs (C : Addr) (f : Str) (x : V) (H : Hp) (E : XK) : Prop := ∀ dd H', H dd = none → Same H H' → H' dd = some (.xd [(f, x)]) → E (.ref C) (some dd) H'
theorem Errs.same {C : Addr} {f : Str} {x : V} {H H1 : Hp} {E : XK} (h : Errs C f x H E) (s : Same H H1) : Errs C f x H1 E := fun dd H' nd s2 hd => h dd H' (s.free nd) (s.trans s2) hd
end Mo
namespace Mo
open PySem PySem.Spec PyProof.Rows L2
end Mo

/-! ### lists of texts, written texts, pens and tables -/
namespace Mo
open PySem PySem.Spec PyProof.Rows L2
theorem Src.here {H : Hp} {d c : Addr} {t : Nat} (h : Src H d c t) : H d ≠ none := by
  obtain ⟨_, _, h, _⟩ := h
  rw [h]
  exact Option.some_ne_none _
theorem Src.tabs {H H' : Hp} {d c : Addr} {t : Nat} (h : Src H d c t) (s : LamX.ExtN H H') : Src H' d c t := by
  obtain ⟨ns, r, h1, h2, h3⟩ := h
  exact ⟨ns, r, s _ _ h1 (fun _ z => nomatch z), s _ _ h2 (fun _ z => nomatch z), h3⟩
theorem Src.dict {H : Hp} {d c : Addr} {t : Nat} (h : Src H d c t) : ∃ kvs, H d = some (.dK kvs) := by
  obtain ⟨ns, r, h1, _⟩ := h
  exact ⟨_, h1⟩
theorem Src.tab {T : List (Addr × Str)} {H H' : Hp} {d c : Addr} {t : Nat} (h : Src H d c t) (tb : LamX.Tabs T H) (b : But d H H') : LamX.Tabs T H' := h.dict.elim fun _ e => Tabs.but tb e b
theorem Tabs.put {T : List (Addr × Str)} {H : Hp} {l : Addr} {xs : List V} {o : HO} (t : LamX.Tabs T H) (hl : H l = some (.lst xs)) : LamX.Tabs T (upd H l o) := fun p hp => by
  obtain ⟨ps, h1, h2, h3⟩ := t p hp
  have n1 : p.1 ≠ l := fun z => by
    rw [z, hl] at h1
    cases h1
  refine ⟨ps, by rw [upd_ne n1]; exact h1, h2, fun pos cv hc => ?_⟩
  obtain ⟨c, e1, e2⟩ := h3 pos cv hc
  have n2 : c ≠ l := fun z => by
    rw [z, hl] at e2
    cases e2
  exact ⟨c, e1, by rw [upd_ne n2]; exact e2⟩
def nat2 (ns : List Nat) : List Int := ns.map fun n : Nat => (n : Int)
/-- letters as they may be, in a text as long as it may be -/
def Okn (ns : List Nat) : Prop := (∀ n ∈ ns, n ≤ 999999) ∧ ns.length ≤ 4096
/-- v is a text -/
def TxtAt (H : Hp) (v : V) : Prop := ∃ (p : Addr) (ns : List Nat), v = .ref p ∧ H p = some (.tup ((nat2 ns).map V.int)) ∧ Okn ns
theorem TxtAt.same {H H' : Hp} {v : V} (h : TxtAt H v) (s : Same H H') : TxtAt H' v := h.elim fun p z => z.elim fun ns z => ⟨p, ns, z.1, s _ _ z.2.1, z.2.2⟩
theorem TxtAt.tabs {H H' : Hp} {v : V} (h : TxtAt H v) (s : LamX.ExtN H H') : TxtAt H' v := h.elim fun p z => z.elim fun ns z => ⟨p, ns, z.1, s _ _ z.2.1 (fun _ z => nomatch z), z.2.2⟩
theorem TxtAt.but {H H' : Hp} {v : V} {d c : Addr} {t : Nat} (h : TxtAt H v) (src : Src H d c t) (s : But d H H') : TxtAt H' v := by
  obtain ⟨p, ns, e, hp, ok⟩ := h
  obtain ⟨kvs, hd⟩ := src.dict
  exact ⟨p, ns, e, s _ _ (ne_of hp hd (by intro z; cases z)) hp, ok⟩
theorem TxtAt.put {H : Hp} {v : V} {l : Addr} {xs : List V} {o : HO} (h : TxtAt H v) (hl : H l = some (.lst xs)) : TxtAt (upd H l o) v := by
  obtain ⟨p, ns, e, hp, ok⟩ := h
  exact ⟨p, ns, e, by rw [upd_ne (ne_of hp hl (by intro z; cases z))]; exact hp, ok⟩
def repD (n : Nat) (ds : List PyData) : PyData := .tuple (List.replicate n ds).flatten
/-! what repr says of texts and lists of one text -/
end Mo

/-! ### rule sets: the mathematics -/
namespace Mo
/-- images of letters: none empty, of letters that have images -/
structure Ims (ims : List (List Nat)) : Prop where
  ne : ∀ im ∈ ims, im ≠ []
  lt : ∀ im ∈ ims, ∀ l ∈ im, l < ims.length
  few : ∀ im ∈ ims, im.length ≤ 64
  n1 : 1 ≤ ims.length
  n2 : ims.length ≤ 400
def img (ims : List (List Nat)) (l : Nat) : List Nat := ims.getD l []
/-- what a letter becomes -/
def word (ims : List (List Nat)) : Nat → Nat → List Nat
  | 0, l => [l]
  | s + 1, l => (img ims l).flatMap (word ims s)
def len (ims : List (List Nat)) (s l : Nat) : Nat := (word ims s l).length
theorem img_at {ims : List (List Nat)} {l : Nat} (h : l < ims.length) : ims[l]? = some (img ims l) := by
  unfold img
  rw [List.getD_eq_getElem?_getD, List.getElem?_eq_getElem h]
  rfl
/-- the letter of the image that holds an index, and the index in it -/
def within (r : Nat → Nat) : List Nat → Nat → Nat × Nat
  | [], i => (0, i)
  | a :: t, i => if i < r a then (a, i) else within r t (i - r a)
def letAt (ims : List (List Nat)) : Nat → Nat → Nat → Nat
  | 0, l, _ => l
  | s + 1, l, i => letAt ims s (within (len ims s) (img ims l) i).1 (within (len ims s) (img ims l) i).2
/-- the row of s replacements -/
def rowL (ims : List (List Nat)) (s : Nat) : List Nat := (List.range ims.length).map (len ims s)
/-- where the image of the letter at m begins after the last replacement -/
def hereL (ims : List (List Nat)) (W : List Nat) (m : Nat) : Nat := ((W.take m).map fun a => (img ims a).length).sum
/-- where the letters after the first k parts begin -/
def partL (ims : List (List Nat)) (s : Nat) (im : List Nat) (k : Nat) : Nat := ((im.take k).map (len ims s)).sum
end Mo

/-! ### max of a tuple of ints -/
namespace Mo
open PySem PySem.Spec PyProof.Rows L2
def rMaxT (K : PySem.W.Frag) : List V → Hp → VK → Prop := fun vs H Q => ∃ (a : Addr) (ns : List Int), vs = [V.ref a] ∧ SqT K H a (ns.map V.int) ∧ 0 < ns.length ∧ ∀ m, m ∈ ns → (∀ y, y ∈ ns → y ≤ m) → Q (.int m) H
end Mo

/-! ### all but the pen's dict and the tables stands: one relation for what is made, drawn and called -/
namespace Mo
open PySem PySem.Spec PyProof.Rows L2
def Kp (d : Addr) (H H' : Hp) : Prop := ∀ b o, b ≠ d → H b = some o → (∀ ps, o ≠ .tbl ps) → H' b = some o
theorem Kp.refl (d : Addr) (H : Hp) : Kp d H H := fun _ _ _ e _ => e
theorem Kp.trans {d : Addr} {H H' H2 : Hp} (h : Kp d H H') (g : Kp d H' H2) : Kp d H H2 := fun b o n e t => g b o n (h b o n e t) t
theorem Kp.same {d : Addr} {H H' : Hp} (s : Same H H') : Kp d H H' := fun b o _ e _ => s b o e
theorem Kp.but {d : Addr} {H H' : Hp} (s : But d H H') : Kp d H H' := fun b o n e _ => s b o n e
theorem Kp.tabs {d : Addr} {H H' : Hp} (s : LamX.ExtN H H') : Kp d H H' := fun b o _ e t => s b o e t
theorem Kp.lst {d b : Addr} {H H' : Hp} {xs : List V} (s : Kp d H H') (n : b ≠ d) (h : H b = some (.lst xs)) : H' b = some (.lst xs) := s _ _ n h fun _ z => nomatch z
theorem Kp.tup {d b : Addr} {H H' : Hp} {xs : List V} (s : Kp d H H') (n : b ≠ d) (h : H b = some (.tup xs)) : H' b = some (.tup xs) := s _ _ n h fun _ z => nomatch z
mutual
theorem Dx.kp {d : Addr} {H H' : Hp} (s : Kp d H H') : ∀ {v : V} {e : PyData}, Dx (fun x => x = d) H v e → Dx (fun x => x = d) H' v e
  | _, _, .non => .non
  | _, _, .bl b => .bl b
  | _, _, .int i => .int i
  | _, _, .str x => .str x
  | _, _, .lst h n t => .lst (s _ _ n h fun _ z => nomatch z) n (DxAll.kp s t)
  | _, _, .tup h n t => .tup (s _ _ n h fun _ z => nomatch z) n (DxAll.kp s t)
  | _, _, .dct h n t => .dct (s _ _ n h fun _ z => nomatch z) n (DxAll.kp s t)
theorem DxAll.kp {d : Addr} {H H' : Hp} (s : Kp d H H') : ∀ {v : List V} {e : List PyData}, DxAll (fun x => x = d) H v e → DxAll (fun x => x = d) H' v e
  | _, _, .nil => .nil
  | _, _, .cons h t => .cons (Dx.kp s h) (DxAll.kp s t)
end
theorem ne_dk {d b : Addr} {H : Hp} {kvs : List (Key × V)} {o : HO} (h : H d = some (.dK kvs)) (hb : H b = some o) (n : ∀ kvs, o ≠ .dK kvs) : b ≠ d := fun z => by
  rw [z, h] at hb
  exact n _ (Option.some.inj hb).symm
end Mo

/-! ### rule sets: where they stand -/
namespace Mo
open PySem PySem.Spec PyProof.Rows L2
/-- tuples (or lists) of letters, one after the other -/
structure ImsAt (H : Hp) (ps : List Addr) (ims : List (List Nat)) : Prop where
  len : ps.length = ims.length
  el : ∀ (k : Nat) (p : Addr) (im : List Nat), ps[k]? = some p → ims[k]? = some im → H p = some (.tup ((nat2 im).map V.int))
theorem ImsAt.same {H H' : Hp} {ps : List Addr} {ims : List (List Nat)} (h : ImsAt H ps ims) (s : Same H H') : ImsAt H' ps ims := ⟨h.len, fun k p im a b => s _ _ (h.el k p im a b)⟩
theorem ImsAt.by {H H' : Hp} {ps : List Addr} {ims : List (List Nat)} (h : ImsAt H ps ims) (s : ∀ p xs, H p = some (.tup xs) → H' p = some (.tup xs)) : ImsAt H' ps ims := ⟨h.len, fun k p im a b => s _ _ (h.el k p im a b)⟩
/-- the tuple of letter l -/
theorem ImsAt.at {H : Hp} {ps : List Addr} {ims : List (List Nat)} (h : ImsAt H ps ims) {l : Nat} (hl : l < ims.length) : ∃ p, ps[l]? = some p ∧ H p = some (.tup ((nat2 (img ims l)).map V.int)) := by
  have e : ps[l]? = some (ps[l]'(by rw [h.len]; exact hl)) := List.getElem?_eq_getElem (by rw [h.len]; exact hl)
  exact ⟨_, e, h.el l _ _ e (img_at hl)⟩
/-- a rule set -/
def RlsAt (C : Addr) (H : Hp) (r : Addr) (ims : List (List Nat)) : Prop := ∃ (dx t : Addr) (ps : List Addr), H r = some (.ins C dx [(("table" : Str), .ref t)]) ∧ H t = some (.tup (ps.map V.ref)) ∧ ImsAt H ps ims
theorem RlsAt.same {C : Addr} {H H' : Hp} {r : Addr} {ims : List (List Nat)} (h : RlsAt C H r ims) (s : Same H H') : RlsAt C H' r ims := by
  obtain ⟨dx, t, ps, h1, h2, h3⟩ := h
  exact ⟨dx, t, ps, s _ _ h1, s _ _ h2, h3.same s⟩
theorem RlsAt.but {C d c : Addr} {n : Nat} {H H' : Hp} {r : Addr} {ims : List (List Nat)} (h : RlsAt C H r ims) (x : Nxt H d c n) (s : But d H H') : RlsAt C H' r ims := by
  obtain ⟨dx, t, ps, h1, h2, h3⟩ := h
  obtain ⟨_, _, hd, _⟩ := x
  exact ⟨dx, t, ps, s _ _ (ne_dk hd h1 (fun _ z => nomatch z)) h1, s _ _ (ne_dk hd h2 (fun _ z => nomatch z)) h2, h3.by fun p xs e => s _ _ (ne_dk hd e (fun _ z => nomatch z)) e⟩
/-- lists of rows, one after the other -/
structure RowsAt (H : Hp) (qs : List Addr) (rows : List (List Nat)) : Prop where
  len : qs.length = rows.length
  el : ∀ (k : Nat) (p : Addr) (row : List Nat), qs[k]? = some p → rows[k]? = some row → H p = some (.lst ((nat2 row).map V.int))
theorem RowsAt.same {H H' : Hp} {qs : List Addr} {rows : List (List Nat)} (h : RowsAt H qs rows) (s : Same H H') : RowsAt H' qs rows := ⟨h.len, fun k p im a b => s _ _ (h.el k p im a b)⟩
/-- the rows of 0 to s replacements -/
def rowsL (ims : List (List Nat)) (s : Nat) : List (List Nat) := (List.range (s + 1)).map (rowL ims)
end Mo

/-! ### growing letters; images cut to four letters -/
namespace Mo
open PySem PySem.Spec PyProof.Rows L2
def growB (ims : List (List Nat)) (l : Nat) : Bool := decide ((img ims l)[0]? = some l) && decide (1 < (img ims l).length)
/-- what is refused -/
structure Ref (d : Addr) (H : Hp) (v : V) (e : PyData) (a b : Int) : Prop where
  dx : Dx (fun x => x = d) H v e
  fit : Fit 30 100 3 e
  no : cntB a b e = false
theorem Ref.bulk {d : Addr} {H : Hp} {v : V} {e : PyData} {a b : Int} (h : Ref d H v e a b) : e.bulk ≤ 1000000 := Nat.le_trans h.fit.bulk (by decide)
theorem Ref.kp {d : Addr} {H H' : Hp} {v : V} {e : PyData} {a b : Int} (h : Ref d H v e a b) (s : Kp d H H') : Ref d H' v e a b := ⟨h.dx.kp s, h.fit, h.no⟩
theorem Ref.int {d : Addr} {H : Hp} {i a b : Int} (h : i.natAbs < 10 ^ 30) (ho : i < a ∨ b < i) : Ref d H (.int i) (.int i) a b := ⟨.int i, fitI h (by decide), cnt_out ho⟩
theorem Nxt.tabs {H H' : Hp} {d c : Addr} {t : Nat} (h : Nxt H d c t) (s : LamX.ExtN H H') : Nxt H' d c t := by
  obtain ⟨ns, r, h1, h2, h3⟩ := h
  exact ⟨ns, r, s _ _ h1 (fun _ z => nomatch z), s _ _ h2 (fun _ z => nomatch z), h3⟩
theorem Nxt.dict {H : Hp} {d c : Addr} {t : Nat} (h : Nxt H d c t) : ∃ kvs, H d = some (.dK kvs) := by
  obtain ⟨ns, r, h1, _⟩ := h
  exact ⟨_, h1⟩
/-- a rule set kept, its instance and tuples not the pen's dict -/
theorem RlsAt.kp {C d : Addr} {kvs : List (Key × V)} {H H' : Hp} {r : Addr} {ims : List (List Nat)} (h : RlsAt C H r ims) (hd : H d = some (.dK kvs)) (s : Kp d H H') : RlsAt C H' r ims := by
  obtain ⟨dx, t, ps, h1, h2, h3⟩ := h
  refine ⟨dx, t, ps, s _ _ (ne_dk hd h1 (fun _ z => nomatch z)) h1 (fun _ z => nomatch z), s.tup (ne_dk hd h2 (fun _ z => nomatch z)) h2, h3.by fun p xs e => s.tup (ne_dk hd e (fun _ z => nomatch z)) e⟩
theorem ImsAt.kp {d : Addr} {kvs : List (Key × V)} {H H' : Hp} {ps : List Addr} {ims : List (List Nat)} (h : ImsAt H ps ims) (hd : H d = some (.dK kvs)) (s : Kp d H H') : ImsAt H' ps ims :=
  h.by fun p xs e => s.tup (ne_dk hd e (fun _ z => nomatch z)) e
/-- the first four letters of each image -/
def cut4 (ims : List (List Nat)) : List (List Nat) := ims.map fun im => im.take 4
end Mo

/-! ### a list that grows by kept lambdas, each in a pair with a value -/
namespace Mo
open PySem PySem.Spec PyProof.Rows L2
/-- nothing but a table, perhaps, stood at L -/
def NoT (H : Hp) (L : Addr) : Prop := ∀ o, H L = some o → ∃ ps, o = .tbl ps
theorem extN_put {H0 H : Hp} {L : Addr} {o : HO} (e : LamX.ExtN H0 H) (n : NoT H0 L) : LamX.ExtN H0 (upd H L o) := fun b u h t => by
  have ne : b ≠ L := fun z => by
    rw [z] at h
    obtain ⟨ps, e1⟩ := n u h
    exact t ps e1
  rw [upd_ne ne]
  exact e b u h t
theorem extN_same {H H' : Hp} (s : Same H H') : LamX.ExtN H H' := fun b o h _ => s b o h
theorem ExtK.put {H : Hp} {L : Addr} {xs : List V} {o : HO} (h : H L = some (.lst xs)) : ExtK H (upd H L o) := fun b φ e => by
  rw [upd_ne (ne_of e h (fun z => by cases z))]
  exact e
theorem tabs_put {T : List (Addr × Str)} {H : Hp} {L : Addr} {xs ys : List V} (tb : LamX.Tabs T H) (h : H L = some (.lst xs)) : LamX.Tabs T (upd H L (.lst ys)) := fun p hp => by
  obtain ⟨ps, a1, a2, a3⟩ := tb p hp
  refine ⟨ps, by rw [upd_ne (ne_of a1 h (fun z => by cases z))]; exact a1, a2, fun pos cv hc => ?_⟩
  obtain ⟨c, e1, e2⟩ := a3 pos cv hc
  refine ⟨c, e1, ?_⟩
  rw [upd_ne (ne_of e2 h (fun z => by unfold LamX.CodeO at z; cases z))]
  exact e2
structure PairsAt (X : Cx) (k : Nat) (T : List (Addr × Str)) (H0 H : Hp) (L : Addr) (ps : List (Addr × V × (XK → TE))) : Prop where
  ext : LamX.ExtN H0 H
  tb : LamX.Tabs T H
  hL : H L = some (.lst (ps.map fun p => V.ref p.1))
  el : ∀ p ∈ ps, ∃ fn, H p.1 = some (.tup [.ref fn, p.2.1]) ∧ LamAt X k H fn p.2.2
section
variable {X : Cx} {k : Nat} {T : List (Addr × Str)} {H0 H H' H1 : Hp} {L p fn : Addr} {ps : List (Addr × V × (XK → TE))} {v : V} {t : XK → TE}
theorem PairsAt.same (a : PairsAt X k T H0 H L ps) (s : Same H H') : PairsAt X k T H0 H' L ps :=
  ⟨a.ext.trans (extN_same s), Tabs.same a.tb s, s _ _ a.hL, fun q hq => (a.el q hq).elim fun f z => ⟨f, s _ _ z.1, z.2.keep (.same s)⟩⟩
theorem PairsAt.one (ext : LamX.ExtN H0 H1) (tb : LamX.Tabs T H1) (la : LamAt X k H1 fn t) (np : H1 p = none) (nL : upd H1 p (.tup [.ref fn, v]) L = none) :
    PairsAt X k T H0 (upd (upd H1 p (.tup [.ref fn, v])) L (.lst [V.ref p])) L [(p, v, t)] := by
  have s1 := same_new (o := .tup [.ref fn, v]) np
  have s2 := same_new (o := .lst [V.ref p]) nL
  refine ⟨ext.trans (extN_same (s1.trans s2)), Tabs.same tb (s1.trans s2), upd_same, fun q hq => ?_⟩
  cases List.mem_singleton.mp hq
  exact ⟨fn, s2 _ _ upd_same, la.keep (.same (s1.trans s2))⟩
theorem PairsAt.list (a : PairsAt X k T H0 H L ps) (ext : LamX.ExtN H H1) (np : H1 p = none) : upd H1 p (.tup [.ref fn, v]) L = some (.lst (ps.map fun p => V.ref p.1)) :=
  same_new np _ _ (ext _ _ a.hL (fun _ z => by cases z))
theorem PairsAt.push (a : PairsAt X k T H0 H L ps) (n0 : NoT H0 L) (ext : LamX.ExtN H H1) (tb : LamX.Tabs T H1) (la : LamAt X k H1 fn t) (np : H1 p = none) :
    PairsAt X k T H0 (upd (upd H1 p (.tup [.ref fn, v])) L (.lst ((ps.map fun p => V.ref p.1) ++ [V.ref p]))) L (ps ++ [(p, v, t)]) := by
  have s1 := same_new (o := .tup [.ref fn, v]) np
  have hL := a.list (v := v) (fn := fn) ext np
  refine ⟨extN_put ((a.ext.trans ext).trans (extN_same s1)) n0, tabs_put (Tabs.same tb s1) hL, by rw [upd_same, List.map_append]; rfl, fun q hq => ?_⟩
  have far : ∀ {b : Addr} {xs : List V}, upd H1 p (.tup [.ref fn, v]) b = some (.tup xs) → b ≠ L := fun h => ne_of h hL (fun z => by cases z)
  rcases List.mem_append.mp hq with hq | hq
  · obtain ⟨f, z1, z2⟩ := a.el q hq
    have z3 := s1 _ _ (ext _ _ z1 (fun _ z => by cases z))
    exact ⟨f, by rw [upd_ne (far z3)]; exact z3, ((z2.keep (.of ext)).keep (.same s1)).keep (.put hL)⟩
  · cases List.mem_singleton.mp hq
    exact ⟨fn, by rw [upd_ne (far upd_same), upd_same], (la.keep (.same s1)).keep (.put hL)⟩
theorem PairsAt.with {R : Addr × V × (XK → TE) → Prop} (a : PairsAt X k T H0 H L ps) (h : ∀ q ∈ ps, R q) : ∃ ps' : List (Addr × V × (XK → TE)), (∀ q ∈ ps', R q) ∧ PairsAt X k T H0 H L ps' := ⟨ps, h, a⟩
end
end Mo

/-! ### a list that grows by kept lambdas -/
namespace Mo
open PySem PySem.Spec PyProof.Rows L2
structure LamsAt (X : Cx) (k : Nat) (T : List (Addr × Str)) (H0 H : Hp) (L : Addr) (fs : List (Addr × (XK → TE))) : Prop where
  ext : LamX.ExtN H0 H
  tb : LamX.Tabs T H
  hL : H L = some (.lst (fs.map fun q => V.ref q.1))
  el : ∀ q ∈ fs, LamAt X k H q.1 q.2
section
variable {X : Cx} {k : Nat} {T : List (Addr × Str)} {H0 H H' H1 : Hp} {L fn : Addr} {fs : List (Addr × (XK → TE))} {t : XK → TE}
theorem LamsAt.same (a : LamsAt X k T H0 H L fs) (s : Same H H') : LamsAt X k T H0 H' L fs :=
  ⟨a.ext.trans (extN_same s), Tabs.same a.tb s, s _ _ a.hL, fun q hq => (a.el q hq).keep (.same s)⟩
theorem LamsAt.one (ext : LamX.ExtN H0 H1) (tb : LamX.Tabs T H1) (la : LamAt X k H1 fn t) (nL : H1 L = none) : LamsAt X k T H0 (upd H1 L (.lst [V.ref fn])) L [(fn, t)] := by
  have s1 := same_new (o := .lst [V.ref fn]) nL
  refine ⟨ext.trans (extN_same s1), Tabs.same tb s1, upd_same, fun q hq => ?_⟩
  cases List.mem_singleton.mp hq
  exact la.keep (.same s1)
theorem LamsAt.list (a : LamsAt X k T H0 H L fs) (ext : LamX.ExtN H H1) : H1 L = some (.lst (fs.map fun q => V.ref q.1)) := ext _ _ a.hL (fun _ z => by cases z)
theorem LamsAt.push (a : LamsAt X k T H0 H L fs) (n0 : NoT H0 L) (ext : LamX.ExtN H H1) (tb : LamX.Tabs T H1) (la : LamAt X k H1 fn t) :
    LamsAt X k T H0 (upd H1 L (.lst ((fs.map fun q => V.ref q.1) ++ [V.ref fn]))) L (fs ++ [(fn, t)]) := by
  have hL := a.list ext
  refine ⟨extN_put (a.ext.trans ext) n0, tabs_put tb hL, by rw [upd_same, List.map_append]; rfl, fun q hq => ?_⟩
  rcases List.mem_append.mp hq with hq | hq
  · exact ((a.el q hq).keep (.of ext)).keep (.put hL)
  · cases List.mem_singleton.mp hq
    exact la.keep (.put hL)
theorem LamsAt.with {R : Addr × (XK → TE) → Prop} (a : LamsAt X k T H0 H L fs) (h : ∀ q ∈ fs, R q) : ∃ fs' : List (Addr × (XK → TE)), (∀ q ∈ fs', R q) ∧ LamsAt X k T H0 H L fs' := ⟨fs, h, a⟩
end
end Mo

/-! ### several tables of code objects at once -/
namespace Mo
open PySem PySem.Spec PyProof.Rows L2
end Mo

/-! ### list(d.items()) -/
namespace Mo
open PySem PySem.Spec PyProof.Rows L2
/-- the pairs of a dict, at ps -/
def kvsH : List Addr → List (Key × V) → Hp
  | p :: ps, kv :: r => fun b => if b = p then some (.tup [kV kv.1, kv.2]) else kvsH ps r b
  | _, _ => fun _ => none
/-- the new things of list(d.items()) -/
def itmH (l : Addr) (ps : List Addr) (kvs : List (Key × V)) : Hp := fun b => if b = l then some (.lst (ps.map V.ref)) else kvsH ps kvs b
def tLitems (te : TE) : TE := fun σ H Q => te σ H fun x H1 => ∃ (d : Addr) (kvs : List (Key × V)), x = .ref d ∧ H1 d = some (.dK kvs) ∧
  ∀ (l : Addr) (ps : List Addr) (H' : Hp), ps.length = kvs.length → Same H1 H' → H1 l = none → H' l = some (.lst (ps.map V.ref)) → (∀ (j : Nat) (p : Addr) (kv : Key × V), ps[j]? = some p → kvs[j]? = some kv → H1 p = none ∧ H' p = some (.tup [kV kv.1, kv.2])) → Q (.ref l) H'
section
variable {X : Cx}
end
end Mo

/-! ### lists of tuples of texts as data -/
namespace Mo
open PySem PySem.Spec PyProof.Rows L2
/-- a tuple of texts, a list of such -/
def tupD (ss : List Str) : PyData := .tuple (ss.map PyData.str)
def tpsD {α : Type} (g : α → List Str) (qs : List α) : PyData := .list (qs.map fun q => tupD (g q))
theorem Edges.iff {es : List (Nat × Nat)} {E F : Nat × Nat → Prop} (h : Edges es E) (e : ∀ x, E x ↔ F x) : Edges es F := ⟨fun x => (h.mem x).trans (e x), h.asc⟩
/-- each part has but names, none twice -/
theorem Parts.in {es : List (Nat × Nat)} {ns : List Nat} {ps : List Pt} (h : Parts es ns ps) (he : ∀ e ∈ es, e.1 ∈ ns ∧ e.2 ∈ ns) {p : Pt} (hp : p ∈ ps) : (∀ c ∈ p.1, c ∈ ns) ∧ ∀ c ∈ p.2, c ∈ ns := by
  obtain ⟨v, hv, c⟩ := h.cmp p hp
  exact ⟨fun x hx => ((c.all (false, x)).mp hx).in hv he, fun x hx => ((c.all (true, x)).mp hx).in hv he⟩
theorem Parts.few {es : List (Nat × Nat)} {ns : List Nat} {ps : List Pt} (h : Parts es ns ps) : ps.length ≤ 2 * ns.length := by
  -- to each part a node of its own
  have key : ∀ qs : List Pt, qs.Nodup → (∀ q ∈ qs, q ∈ ps) → ∃ vs : List Nd, vs.length = qs.length ∧ vs.Nodup ∧ ∀ v ∈ vs, v.2 ∈ ns ∧ ∃ q ∈ qs, At q v := by
    intro qs
    induction qs with
    | nil => exact fun _ _ => ⟨[], rfl, List.nodup_nil, fun _ h => absurd h (by simp)⟩
    | cons q qs ih =>
      intro nd hs
      have nd2 := List.nodup_cons.mp nd
      obtain ⟨vs, h1, h2, h3⟩ := ih nd2.2 fun r hr => hs r (List.mem_cons_of_mem _ hr)
      obtain ⟨v, hv, c⟩ := h.cmp q (hs q List.mem_cons_self)
      refine ⟨v :: vs, by rw [List.length_cons, List.length_cons, h1], List.nodup_cons.mpr ⟨fun z => ?_, h2⟩, fun u hu => ?_⟩
      · obtain ⟨_, r, hr, ha⟩ := h3 v z
        obtain ⟨u, _, c2⟩ := h.cmp r (hs r (List.mem_cons_of_mem _ hr))
        rw [c.eq c2 c.self ha] at nd2
        exact nd2.1 hr
      · rcases List.mem_cons.mp hu with rfl | hu
        · exact ⟨hv, q, List.mem_cons_self, c.self⟩
        · obtain ⟨a, r, hr, b⟩ := h3 u hu
          exact ⟨a, r, List.mem_cons_of_mem _ hr, b⟩
  obtain ⟨vs, h1, h2, h3⟩ := key ps h.nd fun q h => h
  have := nd_sub vs (ns.map (fun c => (false, c)) ++ ns.map fun c => (true, c)) h2 fun v hv => by
    obtain ⟨s, c⟩ := v
    have := (h3 _ hv).1
    cases s
    · exact List.mem_append_left _ (List.mem_map.mpr ⟨c, this, rfl⟩)
    · exact List.mem_append_right _ (List.mem_map.mpr ⟨c, this, rfl⟩)
  rw [List.length_append, List.length_map, List.length_map] at this
  omega
/-! ### small data -/
/-- small data that stands for good -/
structure VD (K : PySem.W.Frag) (H : Hp) (v : V) (d : PyData) : Prop where
  dx : Dx (fun _ => False) H v d
  dp : Dp K H v d
  sh : SeqAt.shaped d = true
  fit : Fit 20 1000 5 d
/-! ### the signs of a repr -/
/-! ### free sets -/
/-- no left node of a member is joined with a right node of one -/
def Free (es : List (Nat × Nat)) (ls : List Nat) : Prop := ∀ a ∈ ls, ∀ b ∈ ls, ¬ Cn es (false, a) (true, b)
theorem Free.iff {es fs : List (Nat × Nat)} {ls : List Nat} (h : ∀ e, e ∈ es ↔ e ∈ fs) : Free es ls ↔ Free fs ls :=
  ⟨fun f a ha b hb c => f a ha b hb (c.mono fun e he => (h e).mpr he), fun f a ha b hb c => f a ha b hb (c.mono fun e he => (h e).mp he)⟩
theorem Free.sub {es : List (Nat × Nat)} {ls ms : List Nat} (h : Free es ls) (s : ∀ c ∈ ms, c ∈ ls) : Free es ms := fun a ha b hb => h a (s a ha) b (s b hb)
def bothB (q : Pt) (ls : List Nat) : Bool := (q.1.any fun c => decide (c ∈ ls)) && (q.2.any fun c => decide (c ∈ ls))
def keepsB (qs : List Pt) (ls : List Nat) : Bool := !qs.any fun q => bothB q ls
end Mo

/-! ### all free sets: made letter by letter, or sifted from all sets -/
namespace Mo
open PySem PySem.Spec PyProof.Rows L2
def setF (keep : List Nat → Bool) (ns : List Nat) : List (List Nat) := ns.foldl (fun F c => F ++ (F.map (· ++ [c])).filter keep) [[]]
theorem setF_snoc (keep : List Nat → Bool) (ns : List Nat) (c : Nat) : setF keep (ns ++ [c]) = setF keep ns ++ ((setF keep ns).map (· ++ [c])).filter keep := by
  unfold setF
  rw [List.foldl_append]
  rfl
theorem setF_len (keep : List Nat → Bool) : ∀ n, ∀ ns : List Nat, ns.length = n → (setF keep ns).length ≤ 2 ^ n
  | 0, ns, h => by
    rw [List.length_eq_zero_iff.mp h]
    exact Nat.le_refl _
  | n + 1, ns, h => by
    rcases List.eq_nil_or_concat ns with e | ⟨m, c, e⟩
    · rw [e] at h
      cases h
    · rw [List.concat_eq_append] at e
      subst e
      rw [List.length_append, List.length_singleton] at h
      have ih := setF_len keep n m (by omega)
      rw [setF_snoc, List.length_append]
      have h2 := List.length_filter_le keep ((setF keep m).map (· ++ [c]))
      rw [List.length_map] at h2
      rw [Nat.pow_succ]
      omega
theorem sub_one {l : List Nat} {c : Nat} (h : l.Sublist [c]) : l = [] ∨ l = [c] := by
  cases h with
  | cons _ h => exact .inl (List.sublist_nil.mp h)
  | cons_cons _ h => exact .inr (by rw [List.sublist_nil.mp h])
theorem sub_snoc {l ns : List Nat} {c : Nat} : l.Sublist (ns ++ [c]) ↔ l.Sublist ns ∨ ∃ m, l = m ++ [c] ∧ m.Sublist ns := by
  rw [List.sublist_append_iff]
  constructor
  · rintro ⟨a, b, rfl, h1, h2⟩
    rcases sub_one h2 with rfl | rfl
    · rw [List.append_nil]
      exact .inl h1
    · exact .inr ⟨a, rfl, h1⟩
  · rintro (h | ⟨m, rfl, h⟩)
    · exact ⟨l, [], (List.append_nil _).symm, h, List.nil_sublist _⟩
    · exact ⟨m, [c], rfl, h, List.Sublist.refl _⟩
theorem setF_mem {keep : List Nat → Bool} (cl : ∀ l c, keep (l ++ [c]) = true → keep l = true) (k0 : keep [] = true) : ∀ n, ∀ ns : List Nat, ns.length = n → ∀ l, l ∈ setF keep ns ↔ l.Sublist ns ∧ keep l = true
  | 0, ns, h, l => by
    rw [List.length_eq_zero_iff.mp h]
    show l ∈ [[]] ↔ _
    rw [List.mem_singleton, List.sublist_nil]
    exact ⟨fun e => by rw [e]; exact ⟨rfl, k0⟩, fun h => h.1⟩
  | n + 1, ns, h, l => by
    rcases List.eq_nil_or_concat ns with e | ⟨m, c, e⟩
    · rw [e] at h
      cases h
    · rw [List.concat_eq_append] at e
      subst e
      rw [List.length_append, List.length_singleton] at h
      have ih := setF_mem cl k0 n m (by omega)
      rw [setF_snoc, List.mem_append, ih, List.mem_filter, List.mem_map, sub_snoc]
      constructor
      · rintro (⟨h1, h2⟩ | ⟨⟨a, ha, rfl⟩, h2⟩)
        · exact ⟨.inl h1, h2⟩
        · exact ⟨.inr ⟨a, rfl, ((ih a).mp ha).1⟩, h2⟩
      · rintro ⟨h1 | ⟨a, rfl, h1⟩, h2⟩
        · exact .inl ⟨h1, h2⟩
        · exact .inr ⟨⟨a, (ih a).mpr ⟨h1, cl _ _ h2⟩, rfl⟩, h2⟩
/-- texts in order -/
def LeT (a b : List Nat) : Prop := sltB (tx b) (tx a) = false
theorem LeT.anti {a b : List Nat} (h : LeT a b) (k : LeT b a) : a = b := (tx_inj (slt_eq h k)).symm
/-- all non-empty free sets of these names, in order -/
structure FSets (es : List (Nat × Nat)) (cs : List Nat) (fs : List (List Nat)) : Prop where
  mem : ∀ l, l ∈ fs ↔ l ≠ [] ∧ l.Pairwise (· < ·) ∧ (∀ c ∈ l, c ∈ cs) ∧ Free es l
  nd : fs.Nodup
  ord : fs.Pairwise LeT
theorem FSets.eq {es es' : List (Nat × Nat)} {cs cs' : List Nat} {fs gs : List (List Nat)} (h : FSets es cs fs) (k : FSets es' cs' gs) (e : ∀ e, e ∈ es ↔ e ∈ es') (c : ∀ c, c ∈ cs ↔ c ∈ cs') : fs = gs := by
  refine perm_le_eq (fun _ _ => LeT.anti) (perm_of_nodup h.nd k.nd fun l => ?_) h.ord k.ord
  rw [h.mem, k.mem, Free.iff e]
  exact ⟨fun z => ⟨z.1, z.2.1, fun x hx => (c x).mp (z.2.2.1 x hx), z.2.2.2⟩, fun z => ⟨z.1, z.2.1, fun x hx => (c x).mpr (z.2.2.1 x hx), z.2.2.2⟩⟩
/-! ### lists of texts sorted -/
theorem tzs_sort {zs : List Str} {ys : List (List Nat)} (p : zs.Perm (ys.map tx)) (o : zs.Pairwise fun x y => sltB y x = false) : ∃ ls : List (List Nat), zs = ls.map tx ∧ ls.Perm ys ∧ ls.Pairwise LeT := by
  obtain ⟨ls, pl, rfl⟩ := perm_of_map p rfl
  exact ⟨ls, rfl, pl, (List.pairwise_map (f := tx)).mp o⟩
end Mo

/-! ### rules over K, for use inside comprehensions -/
namespace Mo
open PySem PySem.Spec PyProof.Rows L2
section
variable {X : Cx} {K : PySem.W.Frag}
end
end Mo

/-! ### patterns that deletions of free sets lead to, in the order in which they are met -/
namespace Mo
open PySem PySem.Spec PyProof.Rows L2
/-- the pattern without some letters -/
def wo (cs ls : List Nat) : List Nat := cs.filter fun c => !decide (c ∈ ls)
theorem mem_wo {cs ls : List Nat} {c : Nat} : c ∈ wo cs ls ↔ c ∈ cs ∧ c ∉ ls := by
  unfold wo
  rw [List.mem_filter]
  simp
theorem wo_nil (cs : List Nat) : wo cs [] = cs := by
  unfold wo
  simp
theorem wo_len (cs ls : List Nat) : (wo cs ls).length ≤ cs.length := List.length_filter_le ..
theorem wo_pat {cs ls : List Nat} (p : Pat cs) : Pat (wo cs ls) :=
  ⟨Nat.le_trans (wo_len _ _) p.len, fun x hx => p.low x (mem_wo.mp hx).1, Nat.le_trans (nd_sub _ (met cs) (met_nodup _) fun x hx => mem_met.mpr (mem_wo.mp (mem_met.mp hx)).1) p.few⟩
theorem wo_wo (cs a b : List Nat) : wo (wo cs a) b = wo cs (a ++ b) := by
  unfold wo
  rw [List.filter_filter]
  refine List.filter_congr fun c _ => ?_
  rw [Bool.eq_iff_iff]
  simp
  exact And.comm
noncomputable def Fs (cs : List Nat) : List (List Nat) := Classical.epsilon (FSets (nbr cs) cs)
/-- steps that lead from one pattern to another -/
inductive Steps (c : List Nat) : List (List Nat) → List Nat → Prop
  | nil : Steps c [] c
  | snoc {w : List (List Nat)} {p ls : List Nat} : Steps c w p → ls ≠ [] → ls.Pairwise (· < ·) → (∀ x ∈ ls, x ∈ p) → Free (nbr p) ls → Steps c (w ++ [ls]) (wo p ls)
theorem Steps.gone {c p : List Nat} {w : List (List Nat)} (h : Steps c w p) : p = wo c w.flatten := by
  induction h with
  | nil => exact (wo_nil c).symm
  | snoc _ _ _ _ _ ih =>
    rw [List.flatten_append, List.flatten_cons, List.flatten_nil, List.append_nil, ← wo_wo, ← ih]
theorem Steps.sub {c p : List Nat} {w : List (List Nat)} (h : Steps c w p) : ∀ ls ∈ w, ls ≠ [] ∧ ls.Pairwise (· < ·) ∧ ∀ x ∈ ls, x ∈ c := by
  induction h with
  | nil => exact fun _ h => absurd h (by simp)
  | @snoc w p ls hw h1 h2 h3 _ ih =>
    intro l hl
    rcases List.mem_append.mp hl with z | z
    · exact ih l z
    · rw [List.mem_singleton.mp z]
      refine ⟨h1, h2, fun x hx => ?_⟩
      have := h3 x hx
      rw [hw.gone] at this
      exact (mem_wo.mp this).1
theorem Steps.flat {c p : List Nat} {w : List (List Nat)} (h : Steps c w p) : w.flatten.Nodup := by
  induction h with
  | nil => exact List.nodup_nil
  | @snoc w p ls hw h1 h2 h3 _ ih =>
    rw [List.flatten_append, List.flatten_cons, List.flatten_nil, List.append_nil]
    refine List.nodup_append.mpr ⟨ih, asc_nodup h2, fun a ha b hb e => ?_⟩
    subst e
    have := h3 a hb
    rw [hw.gone] at this
    exact (mem_wo.mp this).2 ha
theorem flat_ge : ∀ {w : List (List Nat)}, (∀ l ∈ w, l ≠ []) → w.length ≤ w.flatten.length
  | [], _ => Nat.le_refl _
  | l :: w, h => by
    rw [List.length_cons, List.flatten_cons, List.length_append]
    have := flat_ge fun x hx => h x (List.mem_cons_of_mem l hx)
    have := List.length_pos_iff.mpr (h l List.mem_cons_self)
    omega
theorem Steps.len {c p : List Nat} {w : List (List Nat)} (h : Steps c w p) : w.length ≤ (met c).length := by
  refine Nat.le_trans (flat_ge fun l hl => (h.sub l hl).1) (nd_sub _ _ h.flat fun x hx => ?_)
  obtain ⟨l, hl, hx⟩ := List.mem_flatten.mp hx
  exact mem_met.mpr ((h.sub l hl).2.2 x hx)
abbrev Wz := List (List Nat × List (List Nat))
def keysZ (Z : Wz) : List (List Nat) := Z.map (·.1)
def growZ (here : List Nat) (way : List (List Nat)) (Z : Wz) (ls : List Nat) : Wz := if wo here ls ∈ keysZ Z then Z else Z ++ [(wo here ls, way ++ [ls])]
noncomputable def stepZ (Z : Wz) (i : Nat) : Wz := match Z[i]? with
  | some z => (Fs z.1).foldl (growZ z.1 z.2) Z
  | none => Z
noncomputable def runZ (c : List Nat) : Nat → Wz
  | 0 => [(c, [])]
  | n + 1 => stepZ (runZ c n) n
theorem runZ_stop {c : List Nat} {n : Nat} (h : (runZ c n).length ≤ n) : ∀ k, runZ c (n + k) = runZ c n
  | 0 => rfl
  | k + 1 => by
    show stepZ (runZ c (n + k)) (n + k) = _
    rw [runZ_stop h k]
    unfold stepZ
    rw [List.getElem?_eq_none (by omega)]
theorem runZ_eq {c : List Nat} {n m : Nat} (h : (runZ c n).length ≤ n) (k : (runZ c m).length ≤ m) : runZ c n = runZ c m := by
  by_cases e : n ≤ m
  · rw [← runZ_stop h (m - n), show n + (m - n) = m by omega]
  · rw [← runZ_stop k (n - m), show m + (n - m) = n by omega]
/-- as far as the search has come: i patterns are done, and j free sets of the next one -/
structure Way (c : List Nat) (Z : Wz) (i : Nat) : Prop where
  nd : (keysZ Z).Nodup
  ok : ∀ z ∈ Z, Steps c z.2 z.1
  dn : ∀ k z, k < i → Z[k]? = some z → FSets (nbr z.1) z.1 (Fs z.1) ∧ ∀ ls ∈ Fs z.1, wo z.1 ls ∈ keysZ Z
  st : Z[0]? = some (c, [])
theorem Way.one {c : List Nat} : Way c [(c, [])] 0 := ⟨by simp [keysZ], fun z hz => by rw [List.mem_singleton.mp hz]; exact .nil, fun k z h => absurd h (Nat.not_lt_zero _), rfl⟩
/-- how many there can be -/
theorem Way.few {c : List Nat} {Z : Wz} {i : Nat} (h : Way c Z i) (p : Pat c) : Z.length ≤ 256 := by
  -- the letters that are left determine the pattern
  have asc : ∀ ns : List Nat, ∃ ms : List Nat, ms.Pairwise (· < ·) ∧ ∀ x, x ∈ ms ↔ x ∈ ns := fun ns => by
    induction ns with
    | nil => exact ⟨[], .nil, fun _ => Iff.rfl⟩
    | cons a ns ih =>
      obtain ⟨ms, h1, h2⟩ := ih
      refine ⟨(ms.filter fun x => decide (x < a)) ++ [a] ++ ms.filter fun x => decide (a < x), ?_, fun x => ?_⟩
      · refine List.pairwise_append.mpr ⟨List.pairwise_append.mpr ⟨h1.filter _, by simp, fun x hx y hy => ?_⟩, h1.filter _, fun x hx y hy => ?_⟩
        · rw [List.mem_singleton.mp hy]
          exact of_decide_eq_true (List.mem_filter.mp hx).2
        · have hy2 := of_decide_eq_true (List.mem_filter.mp hy).2
          rcases List.mem_append.mp hx with z | z
          · exact Nat.lt_trans (of_decide_eq_true (List.mem_filter.mp z).2) hy2
          · rw [List.mem_singleton.mp z]
            exact hy2
      · rw [List.mem_append, List.mem_append, List.mem_filter, List.mem_filter, List.mem_singleton, List.mem_cons, ← h2]
        simp only [decide_eq_true_eq]
        constructor
        · rintro ((⟨z, _⟩ | z) | ⟨z, _⟩)
          · exact .inr z
          · exact .inl z
          · exact .inr z
        · rintro (z | z)
          · exact .inl (.inr z)
          · rcases Nat.lt_trichotomy x a with l | l | l
            · exact .inl (.inl ⟨z, l⟩)
            · exact .inl (.inr l)
            · exact .inr ⟨z, l⟩
  obtain ⟨ns, n1, n2⟩ := asc c
  have nlen : ns.length ≤ 8 := Nat.le_trans (nd_sub ns (met c) (asc_nodup n1) fun x hx => mem_met.mpr ((n2 x).mp hx)) p.few
  have back : ∀ q ∈ keysZ Z, q = c.filter fun x => decide (x ∈ q) := fun q hq => by
    obtain ⟨z, hz, rfl⟩ := List.mem_map.mp hq
    have e := (h.ok z hz).gone
    have e2 : ∀ x ∈ c, (x ∈ z.1 ↔ x ∉ z.2.flatten) := fun x hx => by
      rw [e, mem_wo]
      exact ⟨fun y => (mem_wo.mp (by rw [← e]; rw [e]; exact mem_wo.mpr y)).2, fun y => ⟨hx, y⟩⟩
    refine e.trans ?_
    unfold wo
    refine List.filter_congr fun x hx => ?_
    rw [Bool.eq_iff_iff]
    simp only [Bool.not_eq_true', decide_eq_false_iff_not, decide_eq_true_eq]
    exact (e2 x hx).symm
  have key := nd_sub ((keysZ Z).map fun q => ns.filter fun x => decide (x ∈ q)) (setF (fun _ => true) ns) ?_ ?_
  · rw [List.length_map] at key
    have l1 : (keysZ Z).length = Z.length := List.length_map ..
    have l2 := setF_len (fun _ => true) _ ns rfl
    have l3 : 2 ^ ns.length ≤ 2 ^ 8 := Nat.pow_le_pow_right (by decide) nlen
    omega
  · refine List.pairwise_map.mpr (List.Pairwise.imp_of_mem (fun {a b} ha hb hab e => hab ?_) h.nd)
    rw [back a ha, back b hb]
    refine List.filter_congr fun x hx => ?_
    have hx2 := (n2 x).mpr hx
    have : x ∈ (ns.filter fun x => decide (x ∈ a)) ↔ x ∈ (ns.filter fun x => decide (x ∈ b)) := by rw [e]
    rw [List.mem_filter, List.mem_filter, decide_eq_true_eq, decide_eq_true_eq] at this
    exact decide_eq_decide.mpr ⟨fun z => (this.mp ⟨hx2, z⟩).2, fun z => (this.mpr ⟨hx2, z⟩).2⟩
  · intro l hl
    obtain ⟨q, _, rfl⟩ := List.mem_map.mp hl
    exact (setF_mem (keep := fun _ => true) (fun _ _ _ => rfl) rfl _ ns rfl _).mpr ⟨List.filter_sublist, rfl⟩
/-! ### dicts whose keys are patterns -/
theorem room1 {k : Nat} {A : Around} (r : Room k A) : A.units + 1 < cLine := by have := r.un; omega
def dk (D : List (List Nat × V)) : List (Key × V) := D.map fun z => (Sum.inr (tx z.1), z.2)
theorem dget_t {H : Hp} {a : Addr} {kvs : List (Key × V)} {p : List Nat} (e : H a = some (.dK kvs)) : DGet H a (.str (tx p)) (valV kvs (Sum.inr (tx p))) := DGet.k (k := Sum.inr (tx p)) e
theorem dk_len (D : List (List Nat × V)) : (dk D).length = D.length := List.length_map ..
theorem key_ne {p q : List Nat} (h : p ≠ q) : ¬ ((Sum.inr (tx p) : Key) = Sum.inr (tx q)) := fun e => h (tx_inj (Sum.inr.inj e))
theorem dk_none : ∀ {D : List (List Nat × V)} {p : List Nat}, p ∉ D.map (·.1) → valV (dk D) (Sum.inr (tx p)) = none
  | [], _, _ => rfl
  | (q, v) :: D, p, h => by
    have n : q ≠ p := fun e => h (by simp [e])
    show valV ((Sum.inr (tx q), v) :: dk D) _ = none
    rw [valV_neg (key_ne n)]
    exact dk_none fun z => h (by simp [z])
theorem dk_some : ∀ {D : List (List Nat × V)} {p : List Nat} {v : V} {k : Nat}, (D.map (·.1)).Nodup → D[k]? = some (p, v) → valV (dk D) (Sum.inr (tx p)) = some v
  | [], _, _, _, _, h => by simp at h
  | (q, u) :: D, p, v, 0, _, h => by
    have h : (q, u) = (p, v) := by simpa using h
    obtain ⟨rfl, rfl⟩ := Prod.mk.inj h
    exact valV_pos rfl
  | (q, u) :: D, p, v, k + 1, nd, h => by
    have h : D[k]? = some (p, v) := by simpa using h
    have nd2 := List.nodup_cons.mp nd
    have n : q ≠ p := fun e => nd2.1 (e ▸ List.mem_map.mpr ⟨(p, v), List.mem_of_getElem? h, rfl⟩)
    show valV ((Sum.inr (tx q), u) :: dk D) _ = _
    rw [valV_neg (key_ne n)]
    exact dk_some nd2.2 h
theorem dk_put {D : List (List Nat × V)} {p : List Nat} {v : V} (h : p ∉ D.map (·.1)) : putK (dk D) (Sum.inr (tx p)) v = dk (D ++ [(p, v)]) := by
  have e : ((dk D).any fun q => decide (q.1 = (Sum.inr (tx p) : Key))) = false := by
    rw [List.any_eq_false]
    intro q hq
    obtain ⟨z, hz, rfl⟩ := List.mem_map.mp hq
    have n : z.1 ≠ p := fun e => h (e ▸ List.mem_map.mpr ⟨z, hz, rfl⟩)
    simpa using key_ne n
  unfold putK
  rw [e, if_neg Bool.false_ne_true]
  unfold dk
  rw [List.map_append]
  rfl
end Mo

set_option pp.maxSteps 600
/-! ### a dict keyed by tuples of tuples, asked for None too -/
namespace Mo
open PySem PySem.Spec PyProof.Rows L2
section
variable {prog : Program} {w : World} {A : Around} {E : Value → Shared → Prop} {s : Shared}
abbrev NX := List (NestedKey × Addr × Value)
end
/-- a dict keyed by tuples: its entries, as they stand -/
def nkHO (P : Program) (w : World) (a : Addr) (xs : NX) : HO := .ext fun h => (a == sysModules) = false ∧ ∃ (o : Obj) (es : Array DictEntry) (ep : Nat), h.get? a = some o ∧ o.ExactDict ∧ o.data = .dict es ep ∧ es.toList = xs.map (entryOfKey (nestedKind P w)) ∧ (xs.map (·.1)).Nodup
mutual
/-- a value that is a key -/
inductive NkV (H : Hp) : NestedKey → V → Prop
  | num (i : Int) : NkV H (.num i) (.int i)
  | tup {a : Addr} {vs : List V} {ks : List NestedKey} : H a = some (.tup vs) → NkVs H ks vs → NkV H (.tup ks) (.ref a)
inductive NkVs (H : Hp) : List NestedKey → List V → Prop
  | nil : NkVs H [] []
  | cons {k : NestedKey} {v : V} {ks : List NestedKey} {vs : List V} : NkV H k v → NkVs H ks vs → NkVs H (k :: ks) (v :: vs)
end
mutual
theorem NkV.by {H H' : Hp} (s : ∀ b xs, H b = some (.tup xs) → H' b = some (.tup xs)) : ∀ {k : NestedKey} {v : V}, NkV H k v → NkV H' k v
  | _, _, .num i => .num i
  | _, _, .tup h t => .tup (s _ _ h) (NkVs.by s t)
theorem NkVs.by {H H' : Hp} (s : ∀ b xs, H b = some (.tup xs) → H' b = some (.tup xs)) : ∀ {ks : List NestedKey} {vs : List V}, NkVs H ks vs → NkVs H' ks vs
  | _, _, .nil => .nil
  | _, _, .cons h t => .cons (NkV.by s h) (NkVs.by s t)
end
mutual
theorem NkV.is {P : Program} {w : World} {H : Hp} {h : Heap} (ok : HOk P w H h) : ∀ {k : NestedKey} {v : V} {u : Value}, NkV H k v → RelV v u → NestedIs h k u
  | _, _, _, .num i, r => by
    obtain ⟨t, rfl⟩ := r
    exact .int i t
  | _, _, _, .tup (a := a) ha t, r => by
    cases r
    obtain ⟨_, its, rv, o, h1, h2, n, h3⟩ := (show ObjOk P w H h a (.tup _) from ok a _ ha)
    exact .tup h1 h2 h3 (by simpa using NkVs.is ok t rv)
theorem NkVs.is {P : Program} {w : World} {H : Hp} {h : Heap} (ok : HOk P w H h) : ∀ {ks : List NestedKey} {vs : List V} {us : List Value}, NkVs H ks vs → Vals vs us → NestedAll h ks us
  | _, _, _, .nil, r => by
    cases r
    exact .nil
  | _, _, _, .cons hk t, r => by
    cases r with
    | cons r1 r2 => exact .cons (NkV.is ok hk r1) (NkVs.is ok t r2)
end
/-- the keys stand -/
def NkOk (H : Hp) (xs : NX) : Prop := ∀ z ∈ xs, NkV H z.1 (.ref z.2.1) ∧ z.1.depth ≤ 8
theorem NkOk.by {H H' : Hp} {xs : NX} (h : NkOk H xs) (s : ∀ b xs, H b = some (.tup xs) → H' b = some (.tup xs)) : NkOk H' xs := fun z hz => ⟨(h z hz).1.by s, (h z hz).2⟩
def tNin (P : Program) (w : World) (ty td : TE) : TE := fun σ H Q => ty σ H fun y H1 => td σ H1 fun x H2 => ∃ (d : Addr) (xs : NX), x = .ref d ∧ H2 d = some (nkHO P w d xs) ∧ NkOk H2 xs ∧
  ((y = .non ∧ Q (.bl false) H2) ∨ ∃ (b : Addr) (k : NestedKey), y = .ref b ∧ NkV H2 k (.ref b) ∧ k.depth ≤ 8 ∧ Q (.bl (atKey xs k).isSome) H2)
def sNPut (P : Program) (w : World) (td ty tv : TE) : TS := fun D σ H => tv σ H fun v H1 => td σ H1 fun x H2 => ty σ H2 fun y H3 => ∃ (d : Addr) (xs : NX) (b : Addr) (k : NestedKey) (t : Bool), x = .ref d ∧ H3 d = some (nkHO P w d xs) ∧ NkOk H3 xs ∧
  y = .ref b ∧ NkV H3 k (.ref b) ∧ k.depth ≤ 8 ∧ v = .bl t ∧ xs.length ≤ sizeLine ∧ D.nx σ (upd H3 d (nkHO P w d (storedH xs k b (.bool t))))
def tDNewN (P : Program) (w : World) : TE := fun _ H Q => ∀ p, H p = none → Q (.ref p) (upd H p (nkHO P w p []))
section
variable {X : Cx} {pos pos' : Pos} {i o value : Expr} {ty td tv : TE}
end
end Mo

set_option pp.maxSteps 600
/-! ### {**d, k: v} -/
namespace Mo
open PySem PySem.Spec PyProof.Rows L2
section
variable {prog : Program} {w : World} {K : Type} [DecidableEq K] {knd : KeyKind prog w K} {A : Around} {E : Value → Shared → Prop} {s : Shared}
end
/-- {**a, k: v}; the new dict stands while the parts are made, and a second one keeps the pair -/
def tStar (ta tk tv : TE) : TE := fun σ H Q => ∀ p, H p = none → ta σ (upd H p (.dK [])) fun x H1 => ∃ (a : Addr) (kvs : List (Key × V)), x = .ref a ∧ a ≠ p ∧ Rd H1 a (.dK kvs) ∧ H1 p = some (.dK []) ∧ kvs.length < sizeLine ∧
  ∀ p2, upd H1 p (.dK kvs) p2 = none → tk σ (upd (upd H1 p (.dK kvs)) p2 (.dK [])) fun y H2 => tv σ H2 fun z H3 => ∃ k : Key, y = kV k ∧ H3 p = some (.dK kvs) ∧ H3 p2 = some (.dK []) ∧
    Q (.ref p) (upd (upd H3 p2 (.dK [(k, z)])) p (.dK (putK kvs k z)))
section
variable {X : Cx}
end
end Mo

/-! ### `is`, `is not` of truth values -/
namespace Mo
open PySem PySem.Spec PyProof.Rows L2
variable {X : Cx}
def rIsB : R2 := fun x y H Q => ∃ a b, x = .bl a ∧ y = .bl b ∧ Q (.bl (decide (a = b))) H
def rNotB : R2 := fun x y H Q => ∃ a b, x = .bl a ∧ y = .bl b ∧ Q (.bl (!decide (a = b))) H
end Mo

/-! ### t[::-1], t a tuple -/
namespace Mo
open PySem PySem.Spec PyProof.Rows L2
section
variable {prog : Program} {w : World} {A : Around} {E : Value → Shared → Prop} {s : Shared}
end
section
variable {X : Cx}
def tRevT (K : PySem.W.Frag) (te : TE) : TE := fun σ H Q => te σ H fun x H1 => ∃ a xs, x = .ref a ∧ SqT K H1 a xs ∧ ∀ p, H1 p = none → Q (.ref p) (upd H1 p (.tup xs.reverse))
end
end Mo

/-! ### what is met first has the fewest steps: the first step -/
namespace Mo
open PySem PySem.Spec PyProof.Rows L2
end Mo

/-! ### patterns without a free set; a new dict that is walked -/
namespace Mo
open PySem PySem.Spec PyProof.Rows L2
def NoFree (cs : List Nat) : Prop := ∀ ls, ls ≠ [] → ls.Pairwise (· < ·) → (∀ x ∈ ls, x ∈ cs) → ¬ Free (nbr cs) ls
/-- the search's end: every pattern that is reached, with the steps that lead to it -/
structure EndZ (cs : List Nat) (Z : Wz) : Prop where
  run : ∃ n, Z = runZ cs n ∧ Z.length ≤ n
  way : Way cs Z Z.length
theorem EndZ.eq {cs : List Nat} {Z Y : Wz} (h : EndZ cs Z) (k : EndZ cs Y) : Z = Y := by
  obtain ⟨n, e, l⟩ := h.run
  obtain ⟨m, f, j⟩ := k.run
  rw [e, f]
  exact runZ_eq (by rw [← e]; exact l) (by rw [← f]; exact j)
/-- the patterns that are reached, in order -/
structure Rch (cs : List Nat) (ds : List (List Nat)) : Prop where
  z : ∃ Z, EndZ cs Z ∧ ds.Perm (keysZ Z)
  ord : ds.Pairwise LeT
theorem Rch.eq {cs : List Nat} {ds es : List (List Nat)} (h : Rch cs ds) (k : Rch cs es) : ds = es := by
  obtain ⟨Z, e, p⟩ := h.z
  obtain ⟨Y, f, r⟩ := k.z
  rw [f.eq e] at r
  exact perm_le_eq (fun _ _ => LeT.anti) (p.trans r.symm) h.ord k.ord
theorem Rch.pat {cs : List Nat} {ds : List (List Nat)} (h : Rch cs ds) (pat : Pat cs) : ∀ p ∈ ds, Pat p := fun p hp => by
  obtain ⟨Z, e, pm⟩ := h.z
  obtain ⟨z, hz, rfl⟩ := List.mem_map.mp (pm.mem_iff.mp hp)
  rw [(e.way.ok z hz).gone]
  exact wo_pat pat
theorem Rch.len {cs : List Nat} {ds : List (List Nat)} (h : Rch cs ds) (pat : Pat cs) : ds.length ≤ 256 := by
  obtain ⟨Z, e, pm⟩ := h.z
  rw [pm.length_eq]
  unfold keysZ
  rw [List.length_map]
  exact e.way.few pat
section
variable {X : Cx}
/-- a value that is a dict: it stands still from here on -/
def tFrz (te : TE) : TE := fun σ H Q => te σ H fun v H1 => ∃ (d : Addr) (kvs : List (Key × V)), v = .ref d ∧ H1 d = some (.dK kvs) ∧ ∀ od, Q v (upd H1 d (.frz od (.dK kvs)))
end
/-- the patterns without a free set, of a list -/
noncomputable def lockF (ls : List (List Nat)) : List (List Nat) := by
  classical exact ls.filter fun p => decide (p ≠ [] ∧ NoFree p)
end Mo

/-! ### sorted(a dict whose keys are texts), any number of them -/
namespace Mo
open PySem PySem.Spec PyProof.Rows L2
section
variable {X : Cx}
/-- sorted(d): the keys in order, in a new list -/
def rSortDk : List V → Hp → VK → Prop := fun xs H Q => ∃ (a : Addr) (D : List (List Nat × V)), xs = [V.ref a] ∧ H a = some (.dK (dk D)) ∧
  ∀ (ls : List (List Nat)) (p : Addr), ls.Perm (D.map (·.1)) → ls.Pairwise LeT → H p = none → Q (.ref p) (upd H p (.lst (tzs ls)))
end
end Mo

/-! ### a dict's comprehension over what walks; a dict of texts, all True -/
namespace Mo
open PySem PySem.Spec PyProof.Rows L2
section
variable {J : It} {n : Nat} {G : Hp → Prop} {Y : Nat → Hp → V → Hp → Prop}
theorem dc_it (w : Walk J n G Y) {g : TG} {tt : TT} {tk tv : TE} {vs : List Nat} {σ : L2.St} {H1 : Hp} {D : Addr} {Qd : Hp → Prop} (Pv : Nat → Hp → Prop) (h0 : Pv 0 (upd H1 D (.dK []))) (hG : ∀ i H, i ≤ n → Pv i H → G H)
    (hs : ∀ i x H H', i < n → Pv i H → Y i H x H' → g x (wipe σ vs) H' fun σ2 H2 => wipe σ2 vs = wipe σ vs ∧ tt σ2 H2 fun b H3 =>
      if b = true then tk σ2 H3 fun y H4 => tv σ2 H4 fun z H5 => ∃ kvs k, y = kV k ∧ H5 D = some (.dK kvs) ∧ kvs.length < sizeLine ∧ Pv (i + 1) (upd H5 D (.dK (putK kvs k z))) else Pv (i + 1) H3) (hd : ∀ H, Pv n H → Qd H) :
    ∃ W : Nat → Nat → Hp → Prop, (∃ m, W 0 m (upd H1 D (.dK []))) ∧ ∀ i m H, W i m H →
      (J.stop i H ∧ Qd H) ∨ (J.go i H ∧ ∃ Nx : Hp → Prop, (∀ H', Nx H' → ∃ m', m' < m ∧ W (i + 1) m' H') ∧ ∀ x H', J.yld i H x H' → g x (wipe σ vs) H' fun σ2 H2 => wipe σ2 vs = wipe σ vs ∧ tt σ2 H2 fun b H3 =>
        if b = true then tk σ2 H3 fun y H4 => tv σ2 H4 fun z H5 => ∃ kvs k, y = kV k ∧ H5 D = some (.dK kvs) ∧ kvs.length < sizeLine ∧ Nx (upd H5 D (.dK (putK kvs k z))) else Nx H3) := by
  refine ⟨fun i m H => m = n - i ∧ i ≤ n ∧ Pv i H, ⟨n, by simp, Nat.zero_le _, h0⟩, ?_⟩
  rintro i m H ⟨rfl, hi, p⟩
  have q := hG i H hi p
  by_cases hlt : i < n
  · refine .inr ⟨w.goes i H hlt q, Pv (i + 1), fun H' p' => ⟨n - (i + 1), by omega, rfl, hlt, p'⟩, fun x H' y => hs i x H H' hlt p (w.yields i H x H' hlt q y)⟩
  · have e : i = n := by omega
    subst e
    exact .inl ⟨w.stops H q, hd H p⟩
end
theorem lock_samE {H H' : Hp} {a : Addr} {u : HO} {od : Obj} (ha : H a = some u) (s : Same (upd H a (.frz od u)) H') : Same H (upd H' a u) := fun b o e => by
  by_cases h : b = a
  · subst h
    rw [upd_same]
    rw [ha] at e
    exact e
  · rw [upd_ne h]
    exact s b o (by rw [upd_ne h]; exact e)
/-- each text to True -/
def yesD (ps : List (List Nat)) : List (List Nat × V) := ps.map fun p => (p, .bl true)
theorem dget_r {H : Hp} {a : Addr} {kvs : List (Key × V)} {p : List Nat} (e : Rd H a (.dK kvs)) : DGet H a (.str (tx p)) (valV kvs (Sum.inr (tx p))) := .inl ⟨kvs, Sum.inr (tx p), e, rfl, rfl⟩
theorem rd_keep {H H' : Hp} {a : Addr} {u : HO} (r : Rd H a u) (s : Same H H') : Rd H' a u := r.elim (fun e => .inl (s _ _ e)) fun ⟨o, e⟩ => .inr ⟨o, s _ _ e⟩
end Mo

/-! ### sorted(a dict whose keys are texts, reverse=True), any number of them -/
namespace Mo
open PySem PySem.Spec PyProof.Rows L2
section
variable {X : Cx}
/-- sorted(d, reverse=True): the keys in some order, in a new list -/
def rSortDkR : List V → List V → Hp → VK → Prop := fun xs zs H Q => ∃ (a : Addr) (D : List (List Nat × V)), xs = [V.ref a] ∧ zs = [.bl true] ∧ H a = some (.dK (dk D)) ∧
  ∀ (ls : List (List Nat)) (p : Addr), ls.Perm (D.map (·.1)) → H p = none → Q (.ref p) (upd H p (.lst (tzs ls)))
end
end Mo

/-! ### sorted(a dict whose keys are ints, reverse=b), any number of them -/
namespace Mo
open PySem PySem.Spec PyProof.Rows L2
theorem ints_byE {vs : List Value} {ys : List Int} (hl : vs.length = ys.length) (h : ∀ (j : Nat) (v : Value), vs[j]? = some v → ∃ y t, ys[j]? = some y ∧ v = .int y t) : IntsAre vs ys := by
  induction vs generalizing ys with
  | nil =>
    cases ys with
    | nil => exact .nil
    | cons y ys => cases hl
  | cons v vs ih =>
    cases ys with
    | nil => cases hl
    | cons y ys =>
      obtain ⟨y', t, hy, rfl⟩ := h 0 v rfl
      obtain rfl : y = y' := Option.some.inj hy
      exact .cons y t (ih (Nat.succ.inj hl) fun j v hv => h (j + 1) v hv)
section
variable {X : Cx}
/-- sorted(d, reverse=b) of int keys: a new list, ordered -/
def rSortDiR (b : Bool) : List V → List V → Hp → VK → Prop := fun xs zs H Q => ∃ (a : Addr) (kvs : List (Key × V)) (ns : List Int), xs = [V.ref a] ∧ zs = [.bl b] ∧ H a = some (.dK kvs) ∧ kvs.map (·.1) = ns.map (fun n => (Sum.inl n : Key)) ∧
  ∀ (ns' : List Int) (p : Addr), ns'.Perm ns → OrdB b ns' → H p = none → Q (.ref p) (upd H p (.lst (ns'.map V.int)))
theorem cr_sortDiR {b : Bool} (hc : X.calm = true) : CallRK X (.builtin "sorted") [Str.ofString "reverse"] (rSortDiR b) := by
  intro pins s σ H xs ys us vs0 Q I r rz h
  obtain ⟨d, kvs, ns, rfl, rfl, hD, hk, q⟩ := h
  obtain rfl := Vals.ref1 r
  obtain ⟨w1, rfl, e1⟩ := vals1 rz
  obtain rfl : w1 = Value.bool b := e1
  obtain ⟨room, lo, ws, rel, at_⟩ := dk_of I.hok hD
  obtain ⟨ep, stands⟩ := at_.dictAt
  have keys : ws.map (·.1) = ns.map fun n => (Sum.inl n : Key) := rel.keys.symm.trans hk
  have many : ws.length = ns.length := by simpa using congrArg List.length keys
  have room2 : ns.length ≤ sizeLine := by
    have := congrArg List.length hk
    rw [List.length_map, List.length_map] at this
    omega
  refine call_function_entry_kw kind_sorted plain_sorted entry_sorted (PyProof.Rows.args_sorted_rev _ _) ?_
  unfold Builtin.«sorted»
  refine wpAny_bind (m := checkCount "sorted" 1 1 _) (wpAny_pure ?_)
  refine wpAny_bind (PySem.W.kdu_collect (A := X.A.in1) (PySem.W.kdl_dict (ep := ep) lo) (I.ok.hd hc) stands (by rw [many]; exact room2) fun hp2 tk got kept items => ?_)
  have size : got.toList.length = ns.length := by rw [Array.length_toList, items.1, many]
  have texts : IntsAre got.toList ns := ints_byE size fun j v hv => by
    obtain ⟨k, x, hk, is⟩ := items.2 j v (by rw [← Array.getElem?_toList]; exact hv)
    have e : (ws.map (·.1))[j]? = some k := by
      rw [List.getElem?_map, hk]
      rfl
    rw [keys, List.getElem?_map] at e
    obtain ⟨y, hy, rfl⟩ := Option.map_eq_some_iff.mp e
    rcases keyIs_shape (show keyIs (Sum.inl y) v = true from is) with ⟨i, t, e1, e2⟩ | ⟨x, t, e1, e2⟩
    · obtain rfl : y = i := Sum.inl.inj e1
      exact ⟨y, t, hy, e2⟩
    · cases e1
  have I2 : Inv X pins σ H { s with heap := hp2, toks := tk } := I.kept kept
  refine wpAny_bind (wpAny_newList ?_ (by rw [size]; exact room2))
  have fresh : (hp2.push (seqObj "list" got.toList.toArray 0)).get? hp2.objs.size = some (seqObj "list" got.toList.toArray 0) := Heap.get?_push_size _ rfl
  refine wpAny_bind (wpAny_holding (wpAny_call_entry_kw slot_list_sort ⟨_, fresh, rfl⟩ entry_list_sort
    (SrtR.list_sort_ordR (b := b) (s := { s with heap := hp2.push (seqObj "list" got.toList.toArray 0), toks := tk }) SrtO.swo_int fresh (by rw [size]; exact room2) (fun h2 => SrtO.ints_sortable texts h2) fun out hs hb => ⟨_, rfl, ?_⟩) (PyProof.Rows.args_list_sort_rev _ _)))
  obtain ⟨ns', k1, k2, k3⟩ := SrtR.ints_outR texts hs hb
  generalize (if b = true then out.toArray.reverse else out.toArray) = res at *
  obtain ⟨n, stood⟩ := sortedHeap_at (vs := got.toList) (out := res) fresh
  have fit : (ns'.map V.int).length ≤ sizeLine := by
    rw [List.length_map, k2.length_eq]
    exact room2
  refine wpAny_pure ⟨_, rfl, .ref hp2.objs.size, upd H hp2.objs.size (.lst (ns'.map V.int)), I2.laid (t' := tk) (fun c u e => ?_) (Nat.le_refl _) ⟨fit, res.toList, n, vals_of_ints k1, by rw [Array.toArray_toList]; exact stood⟩, rfl, q ns' _ k2 k3 (I2.hok.fresh (Nat.le_refl _))⟩
  have lt := Heap.lt_size e
  rw [sortedHeap_old (Nat.ne_of_lt lt) (by rw [size_push']; exact Nat.lt_succ_of_lt lt)]
  exact Heap.get?_push_of_some _ e
end
end Mo

/-! ### sorted(a dict whose keys are pairs of a text and an int) -/
namespace Mo
open PySem PySem.Spec PyProof.Rows L2
/-- pairs of a text and an int: by the first, then by the second -/
def lexI (p q : Str × Int) : Bool := if p.1 = q.1 then decide (p.2 < q.2) else sltB p.1 q.1
theorem lexI_asym {p q : Str × Int} (h : lexI p q = true) : lexI q p = false := by
  unfold lexI at h ⊢
  by_cases e : p.1 = q.1
  · rw [if_pos e] at h
    rw [if_pos e.symm]
    have := of_decide_eq_true h
    exact decide_eq_false (by omega)
  · rw [if_neg e] at h
    rw [if_neg (fun z => e z.symm)]
    exact slt_asym h
theorem lexI_ntr {p q r : Str × Int} (h1 : lexI q p = false) (h2 : lexI r q = false) : lexI r p = false := by
  unfold lexI at h1 h2 ⊢
  by_cases e1 : q.1 = p.1
  · rw [if_pos e1] at h1
    by_cases e2 : r.1 = q.1
    · rw [if_pos e2] at h2
      rw [if_pos (e2.trans e1)]
      have a := of_decide_eq_false h1
      have b := of_decide_eq_false h2
      exact decide_eq_false (by omega)
    · rw [if_neg e2] at h2
      rw [if_neg (fun z => e2 (z.trans e1.symm)), ← e1]
      exact h2
  · rw [if_neg e1] at h1
    by_cases e2 : r.1 = q.1
    · rw [if_neg (fun z => e1 (e2.symm.trans z)), e2]
      exact h1
    · rw [if_neg e2] at h2
      have t := slt_ntr h1 h2
      by_cases e3 : r.1 = p.1
      · exfalso
        rw [e3] at h2
        exact e1 (slt_eq h1 h2)
      · rw [if_neg e3]
        exact t
theorem swo_lexI (k : Value → Str × Int) : SrtO.Swo fun v u => lexI (k v) (k u) := ⟨fun _ _ => lexI_asym, fun _ _ _ => lexI_ntr⟩
/-- v is such a pair -/
def IsPI (h : Heap) (v : Value) (k : Str × Int) : Prop := ∃ a o t u n, v = .ref a ∧ h.get? a = some o ∧ o.cls = .type "tuple" ∧ o.data = .seq #[.str k.1 t, .int k.2 u] n
theorem IsPI.keeps {h h' : Heap} {v : Value} {x : Str × Int} (p : IsPI h v x) (k : ∀ b o, h.get? b = some o → o.cls = .type "tuple" → h'.get? b = some o) : IsPI h' v x := by
  obtain ⟨a, o, t, u, n, e, ho, hc, hd⟩ := p
  exact ⟨a, o, t, u, n, e, k _ _ ho hc, hc, hd⟩
theorem first_textsI {h : Heap} : ∀ {vs : List Value}, (∀ v ∈ vs, ∃ k, IsPI h v k) → ∃ fs : List Value, PySem.W.KatTups h vs fs ∧ fs.length = vs.length ∧ ∀ f ∈ fs, ∃ x t, f = Value.str x t
  | [], _ => ⟨[], PySem.W.KatTups.nil, rfl, fun _ hm => absurd hm List.not_mem_nil⟩
  | v :: vs, hp => by
    obtain ⟨fs, h1, h2, h3⟩ := first_textsI (vs := vs) fun u hm => hp u (List.mem_cons_of_mem _ hm)
    obtain ⟨k, a, o, t, u, n, rfl, ho, hc, hd⟩ := hp v List.mem_cons_self
    refine ⟨.str k.1 t :: fs, PySem.W.KatTups.cons ho hc hd rfl h1, by rw [List.length_cons, List.length_cons, h2], fun f hm => ?_⟩
    rcases List.mem_cons.mp hm with e | hm
    · exact ⟨k.1, t, e⟩
    · exact h3 f hm
section
variable {prog : Program} {w : World} {A : Around} {E : Value → Shared → Prop} {s : Shared}
theorem pi_cmp {vs : List Value} {k : Value → Str × Int} (hp : ∀ v ∈ vs, IsPI s.heap v (k v)) : SrtO.Cmp prog w A s (tuples' true) (fun p => p.1 ∈ vs) (SrtO.lt2 fun v u => lexI (k v) (k u)) := by
  intro p q hm hm'
  have h1 := hp _ hm
  have h2 := hp _ hm'
  show wpAny (model prog w) A (keyLt' (tuples' true) p.1 q.1) (fun r s' => s' = s ∧ r = lexI (k p.1) (k q.1)) (fun _ _ => False) s
  unfold lexI
  obtain ⟨a, o, t, u, n, e, ho, hc, hd⟩ := h1
  obtain ⟨a', o', t', u', n', e', ho', hc', hd'⟩ := h2
  generalize k p.1 = x at *
  generalize k q.1 = y at *
  rw [e, e']
  refine PySem.W.kat_lt ho hd ho' hd' ?_
  show PySem.W.KatLex prog w A true (decide (2 < 2)) _ [(.str x.1 t, .str y.1 t'), (.int x.2 u, .int y.2 u')] 0 s
  refine PySem.W.kat_cons (SeqAt.EqAt.str_str x.1 t y.1 t' prog w _ _ ?_)
  refine PySem.W.kat_go (fun e1 => ?_) (fun e1 => ?_)
  · have ex : x.1 = y.1 := by simpa using e1
    rw [if_pos ex]
    refine PySem.W.kat_yes (PySem.W.kat_cons (SeqAt.EqAt.int_int x.2 u y.2 u' prog w _ _ ?_))
    refine PySem.W.kat_go (fun e2 => ?_) (fun e2 => ?_)
    · have ey : x.2 = y.2 := by simpa using e2
      refine PySem.W.kat_yes (PySem.W.kat_nil ⟨rfl, ?_⟩)
      rw [ey]
      exact (decide_eq_false (Int.lt_irrefl _)).symm
    · exact PySem.W.kat_no (PySem.W.kat_one _ _ (PyProof.Rows.lt_int ⟨rfl, rfl⟩))
  · have ex : ¬ x.1 = y.1 := by simpa using e1
    rw [if_neg ex]
    exact PySem.W.kat_no (oneLt_str ⟨rfl, rfl⟩)
theorem pi_sortable {a : Addr} {vs : List Value} {k : Value → Str × Int} (h0 : 0 < vs.length) (hp : ∀ v ∈ vs, IsPI s.heap v (k v)) (ha : ∀ o, s.heap.get? a = some o → o.cls ≠ .type "tuple") : SrtO.SortableO prog w A s a vs fun v u => lexI (k v) (k u) := by
  intro h' keep
  have hp' : ∀ v ∈ vs, IsPI h' v (k v) := fun v hm => (hp v hm).keeps fun b o e c => keep b o (fun z => ha o (by rw [← z]; exact e) c) e
  obtain ⟨fs, h1, h2, h3⟩ := first_textsI fun v hm => ⟨_, hp' v hm⟩
  refine ⟨tuples' true, fun Q E hq => ?_, pi_cmp hp'⟩
  refine PySem.W.kat_kind (T := .type "str") h1 (by omega) (fun f hm => ?_) (by rfl) ?_
  · obtain ⟨x, t, rfl⟩ := h3 f hm
    exact PySem.W.Looks.now
  · have e : (Value.type "str" != Value.type "tuple") = true := by first | decide +kernel | rfl | decide
    rw [e]
    exact hq
end
theorem paired_r {α β : Type} {R : α → β → Prop} {as : List α} {bs : List β} (h : Paired R as bs) : ∀ (i : Nat) (y : β), bs[i]? = some y → ∃ x, as[i]? = some x ∧ R x y := by
  induction h with
  | nil => intro i y e; simp at e
  | cons r _ ih =>
    intro i y e
    cases i with
    | zero =>
      have e := Option.some.inj e
      subst e
      exact ⟨_, rfl, r⟩
    | succ i => exact ih i y e
section
variable {X : Cx}
open Classical in
noncomputable def pairI (h : Heap) (v : Value) : Str × Int := if c : ∃ k, IsPI h v k then c.choose else (Str.ofString "", 0)
theorem IsPI.at {h : Heap} {v : Value} {k : Str × Int} (x : IsPI h v k) : IsPI h v (pairI h v) := by
  have c : ∃ k, IsPI h v k := ⟨k, x⟩
  unfold pairI
  rw [dif_pos c]
  exact c.choose_spec
/-- sorted(d): the keys, in some order, in a new list -/
def rSortDt : List V → Hp → VK → Prop := fun xs H Q => ∃ (a : Addr) (kvs : List (List Key × V)), xs = [V.ref a] ∧ H a = some (.dT kvs) ∧ (∀ kv ∈ kvs, ∃ x i, kv.1 = [Sum.inr x, Sum.inl i]) ∧
  ∀ (L : List (Addr × List Key)) (p : Addr), (L.map (·.2)).Perm (kvs.map (·.1)) → (∀ q ∈ L, H q.1 = some (.tup (q.2.map kV))) → H p = none → Q (.ref p) (upd H p (.lst (L.map fun q => V.ref q.1)))
theorem cr_sortDt (hc : X.calm = true) : CallR X (.builtin "sorted") rSortDt := by
  intro pins s σ H xs us Q I r h
  obtain ⟨d, kvs, rfl, hD, two, q⟩ := h
  rw [Vals.ref1 r]
  obtain ⟨room, lo, ws, rel, dh⟩ := dt_of I.hok hD
  obtain ⟨es, ep, raw, el0, he⟩ := dh.raw
  have wl : ws.length = kvs.length := (Paired.length rel).symm
  have el : es.size = kvs.length := by omega
  have keys : ∀ (i : Nat) (y : List Key × Addr × Value), ws[i]? = some y → ∃ kv : List Key × V, kvs[i]? = some kv ∧ kv.1 = y.1 ∧ H y.2.1 = some (.tup (y.1.map kV)) := fun i y hy => by
    obtain ⟨kv, hk, e⟩ := paired_r rel i y hy
    exact ⟨kv, hk, e.1, by rw [← e.1]; exact e.2.1⟩
  refine Calls.call_function_entry kind_sorted plain_sorted entry_sorted (args_sorted1 _) ?_
  unfold Builtin.«sorted»
  refine wpAny_bind (m := checkCount "sorted" 1 1 _) (wpAny_pure ?_)
  refine wpAny_bind (PySem.W.kdu_collect (A := X.A.in1) (KdlSrc.rawDict (es := es) (ep := ep) lo) (I.ok.hd hc) raw (by rw [el]; exact room) fun hp2 tk got kept items => ?_)
  have size : got.toList.length = kvs.length := by rw [Array.length_toList, items.1, el]
  have each : ∀ (j : Nat) (v : Value), got.toList[j]? = some v → ∃ y, ws[j]? = some y ∧ v = .ref y.2.1 := fun j v hv => by
    obtain ⟨hi, rfl⟩ := items.2 j v (by rw [← Array.getElem?_toList]; exact hv)
    obtain ⟨y, hy, e1, _⟩ := he j hi
    exact ⟨y, hy, e1⟩
  have eg : got.toList = ws.map fun y => Value.ref y.2.1 := by
    apply List.ext_getElem?
    intro j
    rw [List.getElem?_map]
    cases e : got.toList[j]? with
    | none =>
      have h1 := List.getElem?_eq_none_iff.mp e
      rw [List.getElem?_eq_none (by omega)]
      rfl
    | some v =>
      obtain ⟨y, hy, rfl⟩ := each j v e
      rw [hy]
      rfl
  have I2 : Inv X pins σ H { s with heap := hp2, toks := tk } := I.kept kept
  have isp : ∀ v ∈ got.toList, ∃ k, IsPI hp2 v k := fun v hv => by
    rw [eg] at hv
    obtain ⟨y, hy, rfl⟩ := List.mem_map.mp hv
    obtain ⟨i, hi⟩ := List.getElem?_of_mem hy
    obtain ⟨kv, hk, e1, e2⟩ := keys i y hi
    obtain ⟨x, n, e3⟩ := two kv (List.mem_of_getElem? hk)
    rw [← e1, e3] at e2
    obtain ⟨_, its, r2, o, ho, hcl, m, hd⟩ := (show ObjOk X.prog X.w H hp2 y.2.1 (.tup [V.str x, V.int n]) from I2.hok _ _ e2)
    obtain ⟨u1, u2, rfl, ⟨t1, rfl⟩, ⟨t2, rfl⟩⟩ := vals2 r2
    exact ⟨(x, n), _, o, t1, t2, m, rfl, ho, hcl, hd⟩
  refine wpAny_bind (wpAny_newList ?_ (by rw [size]; exact room))
  have fresh : (hp2.push (seqObj "list" got.toList.toArray 0)).get? hp2.objs.size = some (seqObj "list" got.toList.toArray 0) := Heap.get?_push_size _ rfl
  have isp2 : ∀ v ∈ got.toList, IsPI (hp2.push (seqObj "list" got.toList.toArray 0)) v (pairI (hp2.push (seqObj "list" got.toList.toArray 0)) v) := fun v hv => by
    obtain ⟨k, hk⟩ := isp v hv
    exact (hk.keeps (h' := hp2.push (seqObj "list" got.toList.toArray 0)) fun b o e _ => Heap.get?_push_of_some _ e).at
  refine wpAny_bind (wpAny_holding (wpAny_call_entry slot_list_sort ⟨_, fresh, rfl⟩ entry_list_sort
    (SrtO.list_sort_ord (s := { s with heap := hp2.push (seqObj "list" got.toList.toArray 0), toks := tk }) (swo_lexI _) fresh (by rw [size]; exact room) (fun h2 => pi_sortable (s := { s with heap := hp2.push (seqObj "list" got.toList.toArray 0), toks := tk }) (by omega) isp2 fun o e => by
      obtain rfl := Option.some.inj (e.symm.trans fresh)
      exact fun c => absurd (Value.type.inj c) (by decide)) fun out hs hb => ⟨_, rfl, ?_⟩) (args_list_sort _)))
  have pm : out.Perm (ws.map fun y => Value.ref y.2.1) := by
    rw [← eg]
    exact hb.perm
  obtain ⟨L0, pl, rfl⟩ := perm_of_map pm rfl
  obtain ⟨n, stood⟩ := sortedHeap_at (vs := got.toList) (out := (L0.map fun y => Value.ref y.2.1).toArray) fresh
  have wm : ws.map (·.1) = kvs.map (·.1) := by
    apply List.ext_getElem?
    intro j
    rw [List.getElem?_map, List.getElem?_map]
    cases e : ws[j]? with
    | none =>
      have h1 := List.getElem?_eq_none_iff.mp e
      rw [List.getElem?_eq_none (by omega)]
      rfl
    | some y =>
      obtain ⟨kv, hk, e1, _⟩ := keys j y e
      rw [hk]
      show some y.1 = some kv.1
      rw [e1]
  have ll : L0.length = kvs.length := by rw [pl.length_eq, wl]
  have q2 := q (L0.map fun y => (y.2.1, y.1)) hp2.objs.size (by
    rw [List.map_map, ← wm]
    exact pl.map _) (fun z hz => by
    obtain ⟨y, hy, rfl⟩ := List.mem_map.mp hz
    obtain ⟨i, hi⟩ := List.getElem?_of_mem (pl.mem_iff.mp hy)
    obtain ⟨_, _, _, e2⟩ := keys i y hi
    exact e2) (I2.hok.fresh (Nat.le_refl _))
  rw [List.map_map] at q2
  refine wpAny_pure ⟨_, rfl, .ref hp2.objs.size, upd H hp2.objs.size (.lst (L0.map ((fun q => V.ref q.1) ∘ fun y => (y.2.1, y.1)))), I2.laid (t' := tk) (fun c u e => ?_) (Nat.le_refl _) ⟨by rw [List.length_map, ll]; exact room, L0.map fun y => Value.ref y.2.1, n, ?_, stood⟩, rfl, q2⟩
  · have lt := Heap.lt_size e
    rw [sortedHeap_old (Nat.ne_of_lt lt) (by rw [size_push']; exact Nat.lt_succ_of_lt lt)]
    exact Heap.get?_push_of_some _ e
  · clear q2 pl stood pm ll hs hb
    induction L0 with
    | nil => exact .nil
    | cons y L0 ih => exact .cons rfl ih
end
end Mo

/-! ### own errors with two fields; isinstance with several classes in a suite -/
namespace Mo
open PySem PySem.Spec PyProof.Rows L2
open Builtin Builtin.ObjectAttr in
section
variable {prog : Program} {w : World} {A : Around} {E : Value → Shared → Prop} {R : Result → Shared → Prop} {hp : Heap} {g : Array GenState} {d : Drawn} {t : Nat} {os : OsState}
end
section
variable {X : Cx} {pins : List (Addr × Obj)} {σ : L2.St} {H : Hp} {s : Shared} {a C dx : Addr} {f : Str} {y : V} {u : Value} {fs : List (Str × V)} {Q : Unit → Shared → Prop} {E : Value → Shared → Prop} {A : Around} {B newId initId : String} {bmB : List Value}
end
/-- self.f = e, a further field of such an error -/
def tFieldG2 (K : PySem.W.Frag) (f : Str) (to te : TE) : TS := fun D σ H => te σ H fun y H1 => to σ H1 fun x H2 => ∃ (a C dx : Addr) (fs : List (Str × V)) (B newId initId : String) (bmB : List Value), x = .ref a ∧ OvC K C B newId initId bmB ∧ PySem.W.findIn K (.ref C) f = some none ∧
  H2 a = some (exo a C (some dx)) ∧ H2 dx = some (exd dx fs) ∧ fs.length ≤ 900 ∧ D.nx σ (upd H2 dx (exd dx ((f, y) :: fs)))
section
variable {X : Cx} {o e : Expr} {to te : TE} {f : Str} {q1 pos : Pos}
end
/-- __init__ of such an error: self.f = y; self.g = z -/
def spInit2 (C : Addr) (f g : Str) : Sp := fun vs H Q _ => ∃ (a : Addr) (y z : V), vs = [.ref a, y, z] ∧ H a = some (exo a C none) ∧ ∀ dx, H dx = none → dx ≠ a → Q .non (upd (upd (upd H dx (exd dx [(f, y)])) a (exo a C (some dx))) dx (exd dx [(g, z), (f, y)]))
/-- isinstance(e, (c1, c2, ..)) in the suite -/
def rIsST (K : PySem.W.Frag) (a : Addr) (cls : Value) (d : Option Addr) : List V → Hp → VK → Prop := fun xs H Q => ∃ (C dd tp : Addr) (fs : List (Str × V)) (cs : List V) (us : List Value) (b : Bool), xs = [.ref a, .ref tp] ∧ cls = .ref C ∧ d = some dd ∧ H dd = some (.xd fs) ∧ ExcC K C ∧ H tp = some (.tup cs) ∧ Paired ClsV cs us ∧
  PySem.W.kitAny K (.ref C) us = some b ∧ Q (.bl b) H
theorem cr_isST {X : Cx} {a : Addr} {oe : Obj} {cls : Value} {d : Option Addr} {pn : List (Addr × Obj)} (hz : Zc cls d oe) (hf : ∃ vs, oe.data = .fields vs) : CallR (X.suite a ((a, oe) :: pn)) (.builtin "isinstance") (rIsST X.K a cls d) := by
  intro pins s σ H xs ws Q I r h
  obtain ⟨C, dd, tp, fs, cs, us, b, rfl, rfl, rfl, hd, T, hT, k, e, q⟩ := h
  obtain ⟨u1, u2, rfl, r1, r2⟩ := vals2 r
  cases r1
  cases (show u2 = Value.ref tp from r2)
  obtain ⟨ha, _⟩ := I.pin (a, oe) (List.mem_append_left _ List.mem_cons_self)
  obtain ⟨vs, hv⟩ := hf
  obtain ⟨mA, hns, hr⟩ := (show ObjOk X.prog X.w H s.heap dd (.xd fs) from I.hok dd _ hd)
  obtain ⟨od, ho, hl⟩ := lookIn_ns hns
  obtain ⟨_, its, rv, ⟨oc, od', dt, sl⟩, h1, h2, n, h3⟩ := (show ObjOk X.prog X.w H s.heap tp (.tup cs) from I.hok tp _ hT)
  obtain rfl := ClsV.all k rv
  simp only at h2 h3
  subst h2 h3
  exact PySem.W.kia_tup (err_kit T) I.kIn ⟨oe, od, ha, hz.1, by unfold PySem.W.notCls; rw [hv] <;> rfl, by rw [hz.2]; exact ho⟩ h1 e (fun z => nomatch z) fun tk => ⟨.bl b, H, I.tok tk, rfl, q⟩
end Mo

/-! ### unavoidable patterns: what stays so, and what does not -/
namespace Mo
open PySem PySem.Spec PyProof.Rows L2
/-- deletions of free sets lead to the empty pattern -/
inductive Una : List Nat → Prop
  | nil : Una []
  | step {p ls : List Nat} : (∃ x ∈ ls, x ∈ p) → Free (nbr p) ls → Una (wo p ls) → Una p
/-! blocks, other letters, turned around -/
/-! a new letter between, ahead, behind -/
/-! each letter twice -/
end Mo

/-! ### how long an unavoidable pattern is, and the words that nest -/
namespace Mo
open PySem PySem.Spec PyProof.Rows L2
def nestW (w ns : List Nat) : List Nat := ns.foldl (fun w x => w ++ [x] ++ w) w
theorem take_nx {α : Type} {l : List α} {i : Nat} {q : α} (h : l[i]? = some q) : l.take (i + 1) = l.take i ++ [q] := by
  rw [List.take_add_one, h]
  rfl
/-- the step at i -/
theorem Steps.nth {c p : List Nat} {w : List (List Nat)} (h : Steps c w p) : ∀ (i : Nat) (ls : List Nat), w[i]? = some ls → ls ≠ [] ∧ ls.Pairwise (· < ·) ∧ (∀ x ∈ ls, x ∈ wo c (w.take i).flatten) ∧ Free (nbr (wo c (w.take i).flatten)) ls ∧ wo c (w.take (i + 1)).flatten = wo (wo c (w.take i).flatten) ls := by
  induction h with
  | nil => exact fun i ls h => by simp at h
  | @snoc w p l0 hw a b d e ih =>
    intro i ls hi
    have last : wo c ((w ++ [l0]).take (i + 1)).flatten = wo (wo c ((w ++ [l0]).take i).flatten) ls := by
      rw [take_nx hi, List.flatten_append, List.flatten_cons, List.flatten_nil, List.append_nil, wo_wo]
    by_cases g : i < w.length
    · rw [List.getElem?_append_left g] at hi
      obtain ⟨h1, h2, h3, h4, _⟩ := ih i ls hi
      rw [List.take_append_of_le_length (by omega), List.take_append_of_le_length (by omega)] at last
      rw [List.take_append_of_le_length (by omega), List.take_append_of_le_length (by omega)]
      exact ⟨h1, h2, h3, h4, last⟩
    · have lt := (List.getElem?_eq_some_iff.mp hi).1
      rw [List.length_append, List.length_singleton] at lt
      have ei : i = w.length := by omega
      subst ei
      rw [List.getElem?_append_right (Nat.le_refl _), Nat.sub_self] at hi
      obtain rfl := Option.some.inj hi
      have tl : (w ++ [l0]).take w.length = w := List.take_left
      rw [tl, ← hw.gone] at last
      rw [tl, ← hw.gone]
      exact ⟨a, b, d, e, last⟩
end Mo

namespace Mo
open PySem PySem.Spec PyProof.Rows L2
def topS (i : Nat) : Stmt := PySem.Challenge.pw_mustoccur_k53_descents_step_by_step.main.body.getD i (.Pass ⟨0, 0, 0, 0⟩)
abbrev sIsPattern : Stmt := topS 15
theorem scIsPattern : FnScope ["value", "name"] ["value"] (defScope sIsPattern) := ⟨rfl, rfl, rfl, by decide +kernel, rfl, by decide +kernel, by decide +kernel⟩
abbrev sIsPlainInteger : Stmt := topS 16
theorem scIsPlainInteger : FnScope ["value"] ["value"] (defScope sIsPlainInteger) := ⟨rfl, rfl, rfl, by decide +kernel, rfl, by decide +kernel, by decide +kernel⟩
abbrev sIsLetter : Stmt := topS 17
theorem scIsLetter : FnScope ["value"] ["value"] (defScope sIsLetter) := ⟨rfl, rfl, rfl, by decide +kernel, rfl, by decide +kernel, by decide +kernel⟩
abbrev sIsText : Stmt := topS 18
theorem scIsText : FnScope ["value", "letter"] ["value"] (defScope sIsText) := ⟨rfl, rfl, rfl, by decide +kernel, rfl, by decide +kernel, by decide +kernel⟩
abbrev sIsVariableSet : Stmt := topS 19
theorem scIsVariableSet : FnScope ["value", "name"] ["value"] (defScope sIsVariableSet) := ⟨rfl, rfl, rfl, by decide +kernel, rfl, by decide +kernel, by decide +kernel⟩
abbrev sAreValues : Stmt := topS 20
theorem scAreValues : FnScope ["pattern", "value", "names", "name"] ["pattern", "value"] (defScope sAreValues) := ⟨rfl, rfl, rfl, by decide +kernel, rfl, by decide +kernel, by decide +kernel⟩
abbrev sCheckPattern : Stmt := topS 21
theorem scCheckPattern : FnScope ["value"] ["value"] (defScope sCheckPattern) := ⟨rfl, rfl, rfl, by decide +kernel, rfl, by decide +kernel, by decide +kernel⟩
abbrev sCheckFilledPattern : Stmt := topS 22
theorem scCheckFilledPattern : FnScope ["value"] ["value"] (defScope sCheckFilledPattern) := ⟨rfl, rfl, rfl, by decide +kernel, rfl, by decide +kernel, by decide +kernel⟩
abbrev sCheckVariableSet : Stmt := topS 23
theorem scCheckVariableSet : FnScope ["value"] ["value"] (defScope sCheckVariableSet) := ⟨rfl, rfl, rfl, by decide +kernel, rfl, by decide +kernel, by decide +kernel⟩
abbrev sCheckCount : Stmt := topS 24
theorem scCheckCount : FnScope ["value", "least", "most"] ["value", "least", "most"] (defScope sCheckCount) := ⟨rfl, rfl, rfl, by decide +kernel, rfl, by decide +kernel, by decide +kernel⟩
abbrev sVariables : Stmt := topS 25
theorem scVariables : FnScope ["pattern", "at", "name"] ["pattern"] (defScope sVariables) := ⟨rfl, rfl, rfl, by decide +kernel, rfl, by decide +kernel, by decide +kernel⟩
abbrev sDelete : Stmt := topS 26
theorem scDelete : FnScope ["pattern", "letters", "name"] ["pattern", "letters"] (defScope sDelete) := ⟨rfl, rfl, rfl, by decide +kernel, rfl, by decide +kernel, by decide +kernel⟩
abbrev sSubstitute : Stmt := topS 27
theorem scSubstitute : FnScope ["pattern", "values", "name", "letter"] ["pattern", "values"] (defScope sSubstitute) := ⟨rfl, rfl, rfl, by decide +kernel, rfl, by decide +kernel, by decide +kernel⟩
abbrev sIsPrime : Stmt := topS 30
theorem scIsPrime : FnScope ["number", "divisor"] ["number"] (defScope sIsPrime) := ⟨rfl, rfl, rfl, by decide +kernel, rfl, by decide +kernel, by decide +kernel⟩
abbrev sModulus : Stmt := topS 31
theorem scModulus : FnScope ["count", "number"] ["count"] (defScope sModulus) := ⟨rfl, rfl, rfl, by decide +kernel, rfl, by decide +kernel, by decide +kernel⟩
abbrev sLetterWithin : Stmt := topS 32
theorem scLetterWithin : FnScope ["size", "letter", "index"] ["size", "letter", "index"] (defScope sLetterWithin) := ⟨rfl, rfl, rfl, by decide +kernel, rfl, by decide +kernel, by decide +kernel⟩
abbrev sStretch : Stmt := topS 33
theorem scStretch : FnScope ["size", "start", "length", "low", "high", "letters", "letter", "index"] ["size", "start", "length"] (defScope sStretch) := ⟨rfl, rfl, rfl, by decide +kernel, rfl, by decide +kernel, by decide +kernel⟩
abbrev sAvoidingText : Stmt := topS 34
theorem scAvoidingText : FnScope ["count", "length", "start", "size"] ["count", "length", "start"] (defScope sAvoidingText) := ⟨rfl, rfl, rfl, by decide +kernel, rfl, by decide +kernel, by decide +kernel⟩
abbrev sLetterOf : Stmt := topS 35
theorem scLetterOf : FnScope ["count", "index", "first", "second", "size", "at", "letter", "low", "high"] ["count", "index", "first", "second"] (defScope sLetterOf) := ⟨rfl, rfl, rfl, by decide +kernel, rfl, by decide +kernel, by decide +kernel⟩
abbrev sIsAvoidingPlace : Stmt := topS 37
theorem scIsAvoidingPlace : FnScope ["pattern", "value", "start", "values", "size", "name"] ["pattern", "value"] (defScope sIsAvoidingPlace) := ⟨rfl, rfl, rfl, by decide +kernel, rfl, by decide +kernel, by decide +kernel⟩
abbrev sCheckAvoidingPlace : Stmt := topS 38
theorem scCheckAvoidingPlace : FnScope ["pattern", "place"] ["pattern", "place"] (defScope sCheckAvoidingPlace) := ⟨rfl, rfl, rfl, by decide +kernel, rfl, by decide +kernel, by decide +kernel⟩
abbrev sDescend : Stmt := topS 39
theorem scDescend : FnScope ["pattern", "place"] ["pattern", "place"] (defScope sDescend) := ⟨rfl, rfl, rfl, by decide +kernel, rfl, by decide +kernel, by decide +kernel⟩
abbrev sDescendOnce : Stmt := topS 40
theorem scDescendOnce : FnScope ["count", "pattern", "place", "start", "values", "size", "starts", "mark", "inner", "name", "steps", "rest"] ["count", "pattern", "place"] (defScope sDescendOnce) := ⟨rfl, rfl, rfl, by decide +kernel, rfl, by decide +kernel, by decide +kernel⟩
abbrev sValueStarts : Stmt := topS 41
theorem scValueStarts : FnScope ["pattern", "start", "values", "starts", "here", "name"] ["pattern", "start", "values"] (defScope sValueStarts) := ⟨rfl, rfl, rfl, by decide +kernel, rfl, by decide +kernel, by decide +kernel⟩
abbrev sUncutIndex : Stmt := topS 42
theorem scUncutIndex : FnScope ["size", "starts", "values", "cuts", "name", "mark"] ["size", "starts", "values"] (defScope sUncutIndex) := ⟨rfl, rfl, rfl, by decide +kernel, rfl, by decide +kernel, by decide +kernel⟩
abbrev sParents : Stmt := topS 43
theorem scParents : FnScope ["count", "mark", "start", "text", "size", "first", "at"] ["count", "mark", "start", "text"] (defScope sParents) := ⟨rfl, rfl, rfl, by decide +kernel, rfl, by decide +kernel, by decide +kernel⟩
abbrev sFreeSteps : Stmt := topS 44
theorem scFreeSteps : FnScope ["names", "size", "mark", "starts", "groups", "name", "distance"] ["names", "size", "mark", "starts"] (defScope sFreeSteps) := ⟨rfl, rfl, rfl, by decide +kernel, rfl, by decide +kernel, by decide +kernel⟩
abbrev sLPen : Stmt := topS 46
theorem scLPen : FnScope ["_law_script"] ["_law_script"] (defScope sLPen) := ⟨rfl, rfl, rfl, by decide +kernel, rfl, by decide +kernel, by decide +kernel⟩
abbrev sLDraw : Stmt := topS 47
theorem scLDraw : FnScope ["_law_pen_here", "_law_many", "_law_digit", "_law_index", "_law_cell", "_law_mix"] ["_law_pen_here", "_law_many"] (defScope sLDraw) := ⟨rfl, rfl, rfl, by decide +kernel, rfl, by decide +kernel, by decide +kernel⟩
abbrev sLPick : Stmt := topS 48
theorem scLPick : FnScope ["_law_pen_here", "_law_choices"] ["_law_pen_here", "_law_choices"] (defScope sLPick) := ⟨rfl, rfl, rfl, by decide +kernel, rfl, by decide +kernel, by decide +kernel⟩
abbrev sLShuffled : Stmt := topS 49
theorem scLShuffled : FnScope ["_law_pen_here", "_law_values", "_law_rest", "_law_found"] ["_law_pen_here", "_law_values"] (defScope sLShuffled) := ⟨rfl, rfl, rfl, by decide +kernel, rfl, by decide +kernel, by decide +kernel⟩
abbrev sLFar : Stmt := topS 50
theorem scLFar : FnScope ["_law_pen_here", "_law_pieces", "_law_number", "_law_k"] ["_law_pen_here", "_law_pieces"] (defScope sLFar) := ⟨rfl, rfl, rfl, by decide +kernel, rfl, by decide +kernel, by decide +kernel⟩
abbrev sLQ : Stmt := topS 51
theorem scLQ : FnScope ["_law_count", "_law_q_here", "_law_k"] ["_law_count"] (defScope sLQ) := ⟨rfl, rfl, rfl, by decide +kernel, rfl, by decide +kernel, by decide +kernel⟩
abbrev sLBlock : Stmt := topS 52
theorem scLBlock : FnScope ["_law_q_here", "_law_letter_here", "_law_k"] ["_law_q_here", "_law_letter_here"] (defScope sLBlock) := ⟨rfl, rfl, rfl, by decide +kernel, rfl, by decide +kernel, by decide +kernel⟩
abbrev sLLetter : Stmt := topS 53
theorem scLLetter : FnScope ["_law_q_here", "_law_index", "_law_above", "_law_letter_here", "_law_here"] ["_law_q_here", "_law_index"] (defScope sLLetter) := ⟨rfl, rfl, rfl, by decide +kernel, rfl, by decide +kernel, by decide +kernel⟩
abbrev sLText : Stmt := topS 54
theorem scLText : FnScope ["_law_q_here", "_law_start", "_law_length", "_law_found", "_law_index"] ["_law_q_here", "_law_start", "_law_length"] (defScope sLText) := ⟨rfl, rfl, rfl, by decide +kernel, rfl, by decide +kernel, by decide +kernel⟩
abbrev sLPlaced : Stmt := topS 55
theorem scLPlaced : FnScope ["_law_pen_here", "_law_count", "_law_q_here", "_law_start", "_law_size", "_law_window", "_law_at", "_law_gaps", "_law_ends", "_law_word", "_law_k", "_law_names", "_law_pattern", "_law_values", "_law_name", "_law_last", "_law_long"] ["_law_pen_here", "_law_count"] (defScope sLPlaced) := ⟨rfl, rfl, rfl, by decide +kernel, rfl, by decide +kernel, by decide +kernel⟩
abbrev sLIsNumber : Stmt := topS 56
theorem scLIsNumber : FnScope ["_law_value", "_law_low", "_law_high"] ["_law_value", "_law_low", "_law_high"] (defScope sLIsNumber) := ⟨rfl, rfl, rfl, by decide +kernel, rfl, by decide +kernel, by decide +kernel⟩
abbrev sLFilled : Stmt := topS 57
theorem scLFilled : FnScope ["_law_pattern", "_law_values", "_law_found", "_law_sign"] ["_law_pattern", "_law_values"] (defScope sLFilled) := ⟨rfl, rfl, rfl, by decide +kernel, rfl, by decide +kernel, by decide +kernel⟩
abbrev sLComponents : Stmt := topS 58
theorem scLComponents : FnScope ["_law_pattern", "_law_signs", "_law_label", "_law_k", "_law_node", "_law_one", "_law_other"] ["_law_pattern"] (defScope sLComponents) := ⟨rfl, rfl, rfl, by decide +kernel, rfl, by decide +kernel, by decide +kernel⟩
abbrev sLIsFree : Stmt := topS 59
theorem scLIsFree : FnScope ["_law_pattern", "_law_letters", "_law_label", "_law_sign", "_law_left", "_law_right", "_law_number"] ["_law_pattern", "_law_letters"] (defScope sLIsFree) := ⟨rfl, rfl, rfl, by decide +kernel, rfl, by decide +kernel, by decide +kernel⟩
abbrev sLWithout : Stmt := topS 60
theorem scLWithout : FnScope ["_law_pattern", "_law_letters", "_law_sign"] ["_law_pattern", "_law_letters"] (defScope sLWithout) := ⟨rfl, rfl, rfl, by decide +kernel, rfl, by decide +kernel, by decide +kernel⟩
abbrev sLBehindSteps : Stmt := topS 61
theorem scLBehindSteps : FnScope ["_law_pattern", "_law_steps", "_law_letters"] ["_law_pattern", "_law_steps"] (defScope sLBehindSteps) := ⟨rfl, rfl, rfl, by decide +kernel, rfl, by decide +kernel, by decide +kernel⟩
abbrev sLFirstOrder : Stmt := topS 62
theorem scLFirstOrder : FnScope ["_law_pattern", "_law_k"] ["_law_pattern"] (defScope sLFirstOrder) := ⟨rfl, rfl, rfl, by decide +kernel, rfl, by decide +kernel, by decide +kernel⟩
abbrev sLTold : Stmt := topS 63
theorem scLTold : FnScope ["_law_call", "_law_heard", "e"] ["_law_call"] (defScope sLTold) := ⟨rfl, rfl, rfl, by decide +kernel, rfl, by decide +kernel, by decide +kernel⟩
abbrev sLDescentRight : Stmt := topS 64
theorem scLDescentRight : FnScope ["_law_pattern", "_law_place", "_law_told_here", "_law_steps", "_law_rest", "_law_later", "_law_text_here", "_law_block_here", "_law_q_here"] ["_law_pattern", "_law_place", "_law_told_here"] (defScope sLDescentRight) := ⟨rfl, rfl, rfl, by decide +kernel, rfl, by decide +kernel, by decide +kernel⟩
abbrev sLRepeated : Stmt := topS 65
theorem scLRepeated : FnScope ["_law_pen_here", "_law_count", "_law_q_here", "_law_names", "_law_wide", "_law_far_here", "_law_size", "_law_skip", "_law_start", "_law_many", "_law_text_here", "_law_pattern", "_law_values", "_law_k", "_law_gap", "_law_last", "_law_name", "_law_long"] ["_law_pen_here", "_law_count"] (defScope sLRepeated) := ⟨rfl, rfl, rfl, by decide +kernel, rfl, by decide +kernel, by decide +kernel⟩
abbrev sLEdge : Stmt := topS 66
theorem scLEdge : FnScope ["_law_pen_here", "_law_text_here", "_law_start", "_law_cut"] ["_law_pen_here"] (defScope sLEdge) := ⟨rfl, rfl, rfl, by decide +kernel, rfl, by decide +kernel, by decide +kernel⟩
abbrev sLaw : Stmt := topS 67
theorem scLaw : FnScope ["_law_script", "_law_pen_here", "_law_turn", "_law_wrong", "_law_odd", "_law_pattern", "_law_place", "_law_kept", "_law_told_here", "_law_beyond"] ["_law_script"] (defScope sLaw) := ⟨rfl, rfl, rfl, by decide +kernel, rfl, by decide +kernel, by decide +kernel⟩
abbrev sInitInvalidPattern : Stmt := inClass (topS 1) 0
theorem scInitInvalidPattern : FnScope ["self", "value"] ["self", "value"] (defScope sInitInvalidPattern) := ⟨rfl, rfl, rfl, by decide +kernel, rfl, by decide +kernel, by decide +kernel⟩
abbrev sInitInvalidPlace : Stmt := inClass (topS 6) 0
theorem scInitInvalidPlace : FnScope ["self", "value"] ["self", "value"] (defScope sInitInvalidPlace) := ⟨rfl, rfl, rfl, by decide +kernel, rfl, by decide +kernel, by decide +kernel⟩
structure Txt (K : PySem.W.Frag) (mg : Str → Option Value) where
  cInvalidPattern : Addr
  eInvalidPattern : mg "InvalidPattern" = some (.ref cInvalidPattern)
  cInvalidText : Addr
  eInvalidText : mg "InvalidText" = some (.ref cInvalidText)
  cInvalidPlace : Addr
  eInvalidPlace : mg "InvalidPlace" = some (.ref cInvalidPlace)
  iInvalidPattern : Addr
  dInvalidPattern : FuncData
  fInitInvalidPattern : Fun K "__init__" "InvalidPattern.__init__" sInitInvalidPattern iInvalidPattern dInvalidPattern
  bInitInvalidPattern : Binds K dInvalidPattern ["self", "value"] []
  xInvalidPattern : ErrC K cInvalidPattern iInvalidPattern "value"
  iInvalidPlace : Addr
  dInvalidPlace : FuncData
  fInitInvalidPlace : Fun K "__init__" "InvalidPlace.__init__" sInitInvalidPlace iInvalidPlace dInvalidPlace
  bInitInvalidPlace : Binds K dInvalidPlace ["self", "value"] []
  xInvalidPlace : ErrC K cInvalidPlace iInvalidPlace "value"
  mInvalidPlaceInvalidPattern : PySem.W.exmOne K (.ref cInvalidPlace) (.ref cInvalidPattern) = some false
  kInvalidPatternInvalidPlaceInvalidText : PySem.W.kitAny K (.ref cInvalidPattern) [.ref cInvalidPlace, .ref cInvalidText] = some false
  oInvalidPatternInvalidPattern : PySem.W.kitOne K (.ref cInvalidPattern) (.ref cInvalidPattern) = some true
  oInvalidPlaceInvalidPlace : PySem.W.kitOne K (.ref cInvalidPlace) (.ref cInvalidPlace) = some true
  oInvalidPatternValueError : PySem.W.kitOne K (.ref cInvalidPattern) (.type "ValueError") = some true
  oInvalidPlaceValueError : PySem.W.kitOne K (.ref cInvalidPlace) (.type "ValueError") = some true
  oInvalidPlaceInvalidText : PySem.W.kitOne K (.ref cInvalidPlace) (.ref cInvalidText) = some false
  oInvalidPatternInvalidPlace : PySem.W.kitOne K (.ref cInvalidPattern) (.ref cInvalidPlace) = some false
  oInvalidPlaceInvalidPattern : PySem.W.kitOne K (.ref cInvalidPlace) (.ref cInvalidPattern) = some false
  aIsPattern : Addr
  dIsPattern : FuncData
  fIsPattern : Fun K "is_pattern" "is_pattern" sIsPattern aIsPattern dIsPattern
  bIsPattern : Binds K dIsPattern ["value"] []
  gIsPattern : mg "is_pattern" = some (.ref aIsPattern)
  aIsPlainInteger : Addr
  dIsPlainInteger : FuncData
  fIsPlainInteger : Fun K "is_plain_integer" "is_plain_integer" sIsPlainInteger aIsPlainInteger dIsPlainInteger
  bIsPlainInteger : Binds K dIsPlainInteger ["value"] []
  gIsPlainInteger : mg "is_plain_integer" = some (.ref aIsPlainInteger)
  aIsLetter : Addr
  dIsLetter : FuncData
  fIsLetter : Fun K "is_letter" "is_letter" sIsLetter aIsLetter dIsLetter
  bIsLetter : Binds K dIsLetter ["value"] []
  gIsLetter : mg "is_letter" = some (.ref aIsLetter)
  aIsText : Addr
  dIsText : FuncData
  fIsText : Fun K "is_text" "is_text" sIsText aIsText dIsText
  bIsText : Binds K dIsText ["value"] []
  gIsText : mg "is_text" = some (.ref aIsText)
  aIsVariableSet : Addr
  dIsVariableSet : FuncData
  fIsVariableSet : Fun K "is_variable_set" "is_variable_set" sIsVariableSet aIsVariableSet dIsVariableSet
  bIsVariableSet : Binds K dIsVariableSet ["value"] []
  gIsVariableSet : mg "is_variable_set" = some (.ref aIsVariableSet)
  aAreValues : Addr
  dAreValues : FuncData
  fAreValues : Fun K "are_values" "are_values" sAreValues aAreValues dAreValues
  bAreValues : Binds K dAreValues ["pattern", "value"] []
  gAreValues : mg "are_values" = some (.ref aAreValues)
  aCheckPattern : Addr
  dCheckPattern : FuncData
  fCheckPattern : Fun K "check_pattern" "check_pattern" sCheckPattern aCheckPattern dCheckPattern
  bCheckPattern : Binds K dCheckPattern ["value"] []
  gCheckPattern : mg "check_pattern" = some (.ref aCheckPattern)
  aCheckFilledPattern : Addr
  dCheckFilledPattern : FuncData
  fCheckFilledPattern : Fun K "check_filled_pattern" "check_filled_pattern" sCheckFilledPattern aCheckFilledPattern dCheckFilledPattern
  bCheckFilledPattern : Binds K dCheckFilledPattern ["value"] []
  gCheckFilledPattern : mg "check_filled_pattern" = some (.ref aCheckFilledPattern)
  aCheckVariableSet : Addr
  dCheckVariableSet : FuncData
  fCheckVariableSet : Fun K "check_variable_set" "check_variable_set" sCheckVariableSet aCheckVariableSet dCheckVariableSet
  bCheckVariableSet : Binds K dCheckVariableSet ["value"] []
  gCheckVariableSet : mg "check_variable_set" = some (.ref aCheckVariableSet)
  aCheckCount : Addr
  dCheckCount : FuncData
  fCheckCount : Fun K "check_count" "check_count" sCheckCount aCheckCount dCheckCount
  bCheckCount : Binds K dCheckCount ["value", "least", "most"] []
  gCheckCount : mg "check_count" = some (.ref aCheckCount)
  aVariables : Addr
  dVariables : FuncData
  fVariables : Fun K "variables" "variables" sVariables aVariables dVariables
  bVariables : Binds K dVariables ["pattern"] []
  gVariables : mg "variables" = some (.ref aVariables)
  aDelete : Addr
  dDelete : FuncData
  fDelete : Fun K "delete" "delete" sDelete aDelete dDelete
  bDelete : Binds K dDelete ["pattern", "letters"] []
  gDelete : mg "delete" = some (.ref aDelete)
  aSubstitute : Addr
  dSubstitute : FuncData
  fSubstitute : Fun K "substitute" "substitute" sSubstitute aSubstitute dSubstitute
  bSubstitute : Binds K dSubstitute ["pattern", "values"] []
  gSubstitute : mg "substitute" = some (.ref aSubstitute)
  aIsPrime : Addr
  dIsPrime : FuncData
  fIsPrime : Fun K "is_prime" "is_prime" sIsPrime aIsPrime dIsPrime
  bIsPrime : Binds K dIsPrime ["number"] []
  gIsPrime : mg "is_prime" = some (.ref aIsPrime)
  aModulus : Addr
  dModulus : FuncData
  fModulus : Fun K "modulus" "modulus" sModulus aModulus dModulus
  bModulus : Binds K dModulus ["count"] []
  gModulus : mg "modulus" = some (.ref aModulus)
  aLetterWithin : Addr
  dLetterWithin : FuncData
  fLetterWithin : Fun K "letter_within" "letter_within" sLetterWithin aLetterWithin dLetterWithin
  bLetterWithin : Binds K dLetterWithin ["size", "letter", "index"] []
  gLetterWithin : mg "letter_within" = some (.ref aLetterWithin)
  aStretch : Addr
  dStretch : FuncData
  fStretch : Fun K "stretch" "stretch" sStretch aStretch dStretch
  bStretch : Binds K dStretch ["size", "start", "length"] []
  gStretch : mg "stretch" = some (.ref aStretch)
  aAvoidingText : Addr
  dAvoidingText : FuncData
  fAvoidingText : Fun K "avoiding_text" "avoiding_text" sAvoidingText aAvoidingText dAvoidingText
  bAvoidingText : KBn K dAvoidingText ["count", "length", "start"] 2 ["start"] (fun us ws => us ++ ws) (fun vs zs => vs ++ zs)
  yAvoidingText : List Value
  vAvoidingText : Vals [ .int 0] yAvoidingText
  zAvoidingText : Binds K dAvoidingText ["count", "length", "start"] yAvoidingText
  gAvoidingText : mg "avoiding_text" = some (.ref aAvoidingText)
  aLetterOf : Addr
  dLetterOf : FuncData
  fLetterOf : Fun K "letter_of" "letter_of" sLetterOf aLetterOf dLetterOf
  bLetterOf : Binds K dLetterOf ["count", "index", "first", "second"] []
  gLetterOf : mg "letter_of" = some (.ref aLetterOf)
  aIsAvoidingPlace : Addr
  dIsAvoidingPlace : FuncData
  fIsAvoidingPlace : Fun K "is_avoiding_place" "is_avoiding_place" sIsAvoidingPlace aIsAvoidingPlace dIsAvoidingPlace
  bIsAvoidingPlace : Binds K dIsAvoidingPlace ["pattern", "value"] []
  gIsAvoidingPlace : mg "is_avoiding_place" = some (.ref aIsAvoidingPlace)
  aCheckAvoidingPlace : Addr
  dCheckAvoidingPlace : FuncData
  fCheckAvoidingPlace : Fun K "check_avoiding_place" "check_avoiding_place" sCheckAvoidingPlace aCheckAvoidingPlace dCheckAvoidingPlace
  bCheckAvoidingPlace : Binds K dCheckAvoidingPlace ["pattern", "place"] []
  gCheckAvoidingPlace : mg "check_avoiding_place" = some (.ref aCheckAvoidingPlace)
  aDescend : Addr
  dDescend : FuncData
  fDescend : Fun K "descend" "descend" sDescend aDescend dDescend
  bDescend : Binds K dDescend ["pattern", "place"] []
  gDescend : mg "descend" = some (.ref aDescend)
  aDescendOnce : Addr
  dDescendOnce : FuncData
  fDescendOnce : Fun K "descend_once" "descend_once" sDescendOnce aDescendOnce dDescendOnce
  bDescendOnce : Binds K dDescendOnce ["count", "pattern", "place"] []
  gDescendOnce : mg "descend_once" = some (.ref aDescendOnce)
  aValueStarts : Addr
  dValueStarts : FuncData
  fValueStarts : Fun K "value_starts" "value_starts" sValueStarts aValueStarts dValueStarts
  bValueStarts : Binds K dValueStarts ["pattern", "start", "values"] []
  gValueStarts : mg "value_starts" = some (.ref aValueStarts)
  aUncutIndex : Addr
  dUncutIndex : FuncData
  fUncutIndex : Fun K "uncut_index" "uncut_index" sUncutIndex aUncutIndex dUncutIndex
  bUncutIndex : Binds K dUncutIndex ["size", "starts", "values"] []
  gUncutIndex : mg "uncut_index" = some (.ref aUncutIndex)
  aParents : Addr
  dParents : FuncData
  fParents : Fun K "parents" "parents" sParents aParents dParents
  bParents : Binds K dParents ["count", "mark", "start", "text"] []
  gParents : mg "parents" = some (.ref aParents)
  aFreeSteps : Addr
  dFreeSteps : FuncData
  fFreeSteps : Fun K "free_steps" "free_steps" sFreeSteps aFreeSteps dFreeSteps
  bFreeSteps : Binds K dFreeSteps ["names", "size", "mark", "starts"] []
  gFreeSteps : mg "free_steps" = some (.ref aFreeSteps)
  aLPen : Addr
  dLPen : FuncData
  fLPen : Fun K "_law_pen" "_law_pen" sLPen aLPen dLPen
  bLPen : Binds K dLPen ["_law_script"] []
  gLPen : mg "_law_pen" = some (.ref aLPen)
  aLDraw : Addr
  dLDraw : FuncData
  fLDraw : Fun K "_law_draw" "_law_draw" sLDraw aLDraw dLDraw
  bLDraw : Binds K dLDraw ["_law_pen_here", "_law_many"] []
  gLDraw : mg "_law_draw" = some (.ref aLDraw)
  aLPick : Addr
  dLPick : FuncData
  fLPick : Fun K "_law_pick" "_law_pick" sLPick aLPick dLPick
  bLPick : Binds K dLPick ["_law_pen_here", "_law_choices"] []
  gLPick : mg "_law_pick" = some (.ref aLPick)
  aLShuffled : Addr
  dLShuffled : FuncData
  fLShuffled : Fun K "_law_shuffled" "_law_shuffled" sLShuffled aLShuffled dLShuffled
  bLShuffled : Binds K dLShuffled ["_law_pen_here", "_law_values"] []
  gLShuffled : mg "_law_shuffled" = some (.ref aLShuffled)
  aLFar : Addr
  dLFar : FuncData
  fLFar : Fun K "_law_far" "_law_far" sLFar aLFar dLFar
  bLFar : Binds K dLFar ["_law_pen_here", "_law_pieces"] []
  gLFar : mg "_law_far" = some (.ref aLFar)
  aLQ : Addr
  dLQ : FuncData
  fLQ : Fun K "_law_q" "_law_q" sLQ aLQ dLQ
  bLQ : Binds K dLQ ["_law_count"] []
  gLQ : mg "_law_q" = some (.ref aLQ)
  aLBlock : Addr
  dLBlock : FuncData
  fLBlock : Fun K "_law_block" "_law_block" sLBlock aLBlock dLBlock
  bLBlock : Binds K dLBlock ["_law_q_here", "_law_letter_here"] []
  gLBlock : mg "_law_block" = some (.ref aLBlock)
  aLLetter : Addr
  dLLetter : FuncData
  fLLetter : Fun K "_law_letter" "_law_letter" sLLetter aLLetter dLLetter
  bLLetter : Binds K dLLetter ["_law_q_here", "_law_index"] []
  gLLetter : mg "_law_letter" = some (.ref aLLetter)
  aLText : Addr
  dLText : FuncData
  fLText : Fun K "_law_text" "_law_text" sLText aLText dLText
  bLText : Binds K dLText ["_law_q_here", "_law_start", "_law_length"] []
  gLText : mg "_law_text" = some (.ref aLText)
  aLPlaced : Addr
  dLPlaced : FuncData
  fLPlaced : Fun K "_law_placed" "_law_placed" sLPlaced aLPlaced dLPlaced
  bLPlaced : Binds K dLPlaced ["_law_pen_here", "_law_count"] []
  gLPlaced : mg "_law_placed" = some (.ref aLPlaced)
  aLIsNumber : Addr
  dLIsNumber : FuncData
  fLIsNumber : Fun K "_law_is_number" "_law_is_number" sLIsNumber aLIsNumber dLIsNumber
  bLIsNumber : Binds K dLIsNumber ["_law_value", "_law_low", "_law_high"] []
  gLIsNumber : mg "_law_is_number" = some (.ref aLIsNumber)
  aLFilled : Addr
  dLFilled : FuncData
  fLFilled : Fun K "_law_filled" "_law_filled" sLFilled aLFilled dLFilled
  bLFilled : Binds K dLFilled ["_law_pattern", "_law_values"] []
  gLFilled : mg "_law_filled" = some (.ref aLFilled)
  aLComponents : Addr
  dLComponents : FuncData
  fLComponents : Fun K "_law_components" "_law_components" sLComponents aLComponents dLComponents
  bLComponents : Binds K dLComponents ["_law_pattern"] []
  gLComponents : mg "_law_components" = some (.ref aLComponents)
  aLIsFree : Addr
  dLIsFree : FuncData
  fLIsFree : Fun K "_law_is_free" "_law_is_free" sLIsFree aLIsFree dLIsFree
  bLIsFree : Binds K dLIsFree ["_law_pattern", "_law_letters"] []
  gLIsFree : mg "_law_is_free" = some (.ref aLIsFree)
  aLWithout : Addr
  dLWithout : FuncData
  fLWithout : Fun K "_law_without" "_law_without" sLWithout aLWithout dLWithout
  bLWithout : Binds K dLWithout ["_law_pattern", "_law_letters"] []
  gLWithout : mg "_law_without" = some (.ref aLWithout)
  aLBehindSteps : Addr
  dLBehindSteps : FuncData
  fLBehindSteps : Fun K "_law_behind_steps" "_law_behind_steps" sLBehindSteps aLBehindSteps dLBehindSteps
  bLBehindSteps : Binds K dLBehindSteps ["_law_pattern", "_law_steps"] []
  gLBehindSteps : mg "_law_behind_steps" = some (.ref aLBehindSteps)
  aLFirstOrder : Addr
  dLFirstOrder : FuncData
  fLFirstOrder : Fun K "_law_first_order" "_law_first_order" sLFirstOrder aLFirstOrder dLFirstOrder
  bLFirstOrder : Binds K dLFirstOrder ["_law_pattern"] []
  gLFirstOrder : mg "_law_first_order" = some (.ref aLFirstOrder)
  aLTold : Addr
  dLTold : FuncData
  fLTold : Fun K "_law_told" "_law_told" sLTold aLTold dLTold
  bLTold : Binds K dLTold ["_law_call"] []
  gLTold : mg "_law_told" = some (.ref aLTold)
  aLDescentRight : Addr
  dLDescentRight : FuncData
  fLDescentRight : Fun K "_law_descent_right" "_law_descent_right" sLDescentRight aLDescentRight dLDescentRight
  bLDescentRight : Binds K dLDescentRight ["_law_pattern", "_law_place", "_law_told_here"] []
  gLDescentRight : mg "_law_descent_right" = some (.ref aLDescentRight)
  aLRepeated : Addr
  dLRepeated : FuncData
  fLRepeated : Fun K "_law_repeated" "_law_repeated" sLRepeated aLRepeated dLRepeated
  bLRepeated : Binds K dLRepeated ["_law_pen_here", "_law_count"] []
  gLRepeated : mg "_law_repeated" = some (.ref aLRepeated)
  aLEdge : Addr
  dLEdge : FuncData
  fLEdge : Fun K "_law_edge" "_law_edge" sLEdge aLEdge dLEdge
  bLEdge : Binds K dLEdge ["_law_pen_here"] []
  gLEdge : mg "_law_edge" = some (.ref aLEdge)
  aLaw : Addr
  dLaw : FuncData
  fLaw : Fun K "law" "law" sLaw aLaw dLaw
  bLaw : Binds K dLaw ["_law_script"] []
  gLaw : mg "law" = some (.ref aLaw)
  cdLaw : Addr
  pdLaw : Addr
  kdLaw : dLaw.code = .ref cdLaw
  hdLaw : PySem.W.codeHdIn K cdLaw pdLaw = true
  npLaw : K.lookup pdLaw = none
  t_VARIABLES : Tok
  m_VARIABLES : mg "VARIABLES" = some (.str "abcdefghijklmnopqrstuvwxyz" t_VARIABLES)
  t_LONGEST_PATTERN : Tok
  m_LONGEST_PATTERN : mg "LONGEST_PATTERN" = some (.int 40 t_LONGEST_PATTERN)
  t_MOST_VARIABLES : Tok
  m_MOST_VARIABLES : mg "MOST_VARIABLES" = some (.int 8 t_MOST_VARIABLES)
  t_LONGEST_TEXT : Tok
  m_LONGEST_TEXT : mg "LONGEST_TEXT" = some (.int 4096 t_LONGEST_TEXT)
  t_GREATEST_LETTER : Tok
  m_GREATEST_LETTER : mg "GREATEST_LETTER" = some (.int 999999 t_GREATEST_LETTER)
  t_GREATEST_START : Tok
  m_GREATEST_START : mg "GREATEST_START" = some (.int 1000000000000000000 t_GREATEST_START)
  m_all : mg "all" = none
  m_len : mg "len" = none
  m_set : mg "set" = none
  m_isinstance : mg "isinstance" = none
  m_str : mg "str" = none
  m_bool : mg "bool" = none
  m_int : mg "int" = none
  m_tuple : mg "tuple" = none
  m_dict : mg "dict" = none
  m_enumerate : mg "enumerate" = none
  m_sum : mg "sum" = none
  m_range : mg "range" = none
  m_sorted : mg "sorted" = none
  m_list : mg "list" = none
  m_abs : mg "abs" = none
  m_ValueError : mg "ValueError" = none
  m_repr : mg "repr" = none
  m_min : mg "min" = none
end Mo

namespace Mo
open PySem PySem.Spec PyProof.Rows L2
section
variable {P : Program} {w : World} {K : PySem.W.Frag} {mg : Str → Option Value} {base : Heap}
theorem mod_in {a b : Int} (h : 0 < b) : 0 ≤ a.fmod b ∧ a.fmod b < b := by
  rw [Int.fmod_eq_emod_of_nonneg _ (Int.le_of_lt h)]
  exact ⟨Int.emod_nonneg _ (by omega), Int.emod_lt_of_pos _ h⟩
theorem div_in {a b : Int} (h : 0 < b) (ha : 0 ≤ a) : 0 ≤ a.fdiv b := by
  rw [Int.fdiv_eq_ediv_of_nonneg _ (Int.le_of_lt h)]
  exact Int.ediv_nonneg ha (Int.le_of_lt h)
theorem nat_of {i : Int} (h : 0 ≤ i) : ∃ j : Nat, i = (j : Int) := ⟨i.toNat, by omega⟩
theorem ok_draw {k : Nat} (T : Txt K mg) : FnOk P w K mg base CX0 (k + 1) T.aLDraw T.dLDraw ["_law_pen_here", "_law_many"] spNDraw := by
  refine T.fLDraw.ok scLDraw (fun vs H Q E h => ?_) (fun cdv A outer s H vs Q E hr h => ?_)
  · obtain ⟨d, c, n, t, rfl, _⟩ := h
    rfl
  · obtain ⟨d, c, n, t, rfl, src, n0, n1, ht, q⟩ := h
    have hu := hu_of hr
    obtain ⟨ns, r, hd, hc, hl, r0⟩ := id src
    have ndc := src.ne
    have gC := DGet.k (k := Sum.inr "cells") hd
    have gT := DGet.k (k := Sum.inr "next") hd
    have gR := DGet.k (k := Sum.inr "rest") hd
    rw [nxt_cells] at gC
    rw [nxt_next] at gT
    rw [nxt_rest] at gR
    have nz : n ≠ 0 := by omega
    have na : n.natAbs < 1073741824 := by omega
    refine ⟨_, (pss_cons (ps_if (pt_cmpR op_gt (pe_dget (Mo.room1 hr) (pv 0) pe_str (fun _ _ => rfl)) pe_int (nomark _)) (pss_cons (ps_set (i := 2) scLDraw.nd rfl (Or.inl rfl) (pe_op op_modN (pe_dget (Mo.room1 hr) (pv 0) pe_str (fun _ _ => rfl)) (pv 1)))
      (pss_cons (ps_dput (Mo.room1 hr) (pv 0) pe_str (pe_op op_fdivN (pe_dget (Mo.room1 hr) (pv 0) pe_str (fun _ _ => rfl)) (pv 1)) rfl)
      (pss_one (ps_ret (pv 2))))) pss_nil)
      (pss_cons (ps_set (i := 3) scLDraw.nd rfl (Or.inl rfl) (pe_dget (Mo.room1 hr) (pv 0) pe_str (fun _ _ => rfl)))
      (pss_cons (ps_dput (Mo.room1 hr) (pv 0) pe_str (pe_op op_add (pv 3) pe_int) rfl)
      (pss_cons (ps_set (i := 4) scLDraw.nd rfl (Or.inl rfl) (pe_op op_add (pe_op op_mul pe_int (pv 3)) pe_int))
      (Evl.pss_cut (ps_if (pt_cmpR (Mo.op_neNil hr.units) (pe_dget (Mo.room1 hr) (pv 0) pe_str (fun _ _ => rfl)) (pe_lst pa_nil) (nomark _)) (pss_one (ps_set (i := 4) scLDraw.nd rfl (Or.inl rfl) (pe_ix ix_list (pe_dget (Mo.room1 hr) (pv 0) pe_str (fun _ _ => rfl)) (pe_op op_modN (pv 3) (pe_callB call_len_seq (by rfl) T.m_len PySem.boot_len (pa_cons (pe_dget (Mo.room1 hr) (pv 0) pe_str (fun _ _ => rfl)) pa_nil))) (fun _ _ => rfl)))) pss_nil)
      (Evl.pss_cut (ps_if (PW.pt (pw_and (pt_cmpR op_lt (pv 3) (pe_callB call_len_seq (by rfl) T.m_len PySem.boot_len (pa_cons (pe_dget (Mo.room1 hr) (pv 0) pe_str (fun _ _ => rfl)) pa_nil)) (nomark _)) (pw_and1 (pt_cmpR op_ge (pe_callB call_abs (by rfl) T.m_abs (by decide +kernel) (pa_cons (pv 4) pa_nil)) (pe_op op_pow pe_int pe_int) (nomark _))))) (pss_cons (ps_dput (Mo.room1 hr) (pv 0) pe_str (pe_op op_fdivN (pe_op op_sub (pe_callB call_abs (by rfl) T.m_abs (by decide +kernel) (pa_cons (pv 4) pa_nil)) (pe_op op_pow pe_int pe_int)) (pv 1)) rfl)
      (pss_one (ps_ret (pe_op op_modN (pe_op op_sub (pe_callB call_abs (by rfl) T.m_abs (by decide +kernel) (pa_cons (pv 4) pa_nil)) (pe_op op_pow pe_int pe_int)) (pv 1))))) pss_nil)
      (pss_cons (ps_set (i := 5) scLDraw.nd rfl (Or.inl rfl) (pe_op op_modN (pe_op op_add (pe_op op_add (pe_op op_add (pe_op op_mul (pe_op op_modN (pv 4) pe_int) pe_int) (pe_op op_mul (pe_op op_mul pe_int (pv 3)) (pv 3))) (pe_op op_mul pe_int (pv 3))) pe_int) pe_int))
      (pss_cons (ps_set (i := 5) scLDraw.nd rfl (Or.inl rfl) (pe_op op_modN (pe_op op_add (pe_op op_add (pe_op op_add (pe_op op_mul (pv 5) (pv 5)) (pe_op op_mul pe_int (pv 5))) (pe_op op_mul pe_int (pv 3))) pe_int) pe_int))
      (pss_one (ps_ret (pe_op op_modN (pe_op op_fdivN (pe_op op_modN (pe_op op_mul (pv 5) (pe_op op_add (pv 5) pe_int)) pe_int) pe_int) (pv 1)))))))))))), ?_⟩
    refine ⟨_, rfl, d, _, rfl, gR, _, _, rfl, rfl, _, rfl, ite2 (fun e => ?_) (fun e => ?_)⟩
    · -- a digit of the rest
      refine ⟨_, rfl, d, _, rfl, gR, _, rfl, r, n, rfl, rfl, nz, ?_⟩
      refine ⟨_, rfl, d, _, rfl, gR, _, rfl, r, n, rfl, rfl, ⟨nz, na⟩, _, rfl, d, _, rfl, DPut.k (k := Sum.inr "rest") hd (by show 3 < sizeLine; decide), ?_⟩
      rw [nput_rest]
      exact ⟨_, rfl, q _ _ t But.set (nxt_set src (div_in n0 r0)) (Nat.le_succ _) (mod_in n0).1 (mod_in n0).2⟩
    · -- turn, turn + 1
      refine ⟨_, rfl, d, _, rfl, gT, ?_⟩
      refine ⟨_, rfl, t, 1, rfl, rfl, _, rfl, d, _, rfl, DPut.k (k := Sum.inr "next") hd (by show 3 < sizeLine; decide), ?_⟩
      rw [nput_next, show (t : Int) + 1 = ((t + 1 : Nat) : Int) by omega]
      have src1 : Nxt (upd H d (.dK (nxtD c ((t + 1 : Nat) : Int) r))) d c (t + 1) := nxt_set src r0
      have but1 : But d H (upd H d (.dK (nxtD c ((t + 1 : Nat) : Int) r))) := But.set
      generalize eH1 : upd H d (.dK (nxtD c ((t + 1 : Nat) : Int) r)) = H1 at *
      have hc1 : H1 c = some (.lst (ns.map V.int)) := but1 _ _ ndc.symm hc
      have hd1 : H1 d = some (.dK (nxtD c ((t + 1 : Nat) : Int) r)) := by rw [← eH1, upd_same]
      have gC1 := DGet.k (k := Sum.inr "cells") hd1
      rw [nxt_cells] at gC1
      -- cell
      refine ⟨_, rfl, 29, t, rfl, rfl, .inl ⟨by decide, by decide⟩, _, 7, rfl, rfl, ?_⟩
      -- if cells != []
      refine ⟨fun σ' H' => ∃ (v : Int) (o2 o5 : Option V), σ' = [some (.ref d), some (.int n), o2, some (.int t), some (.int v), o5] ∧ Same H1 H', ?_, ?_⟩
      · refine ⟨_, rfl, d, _, rfl, gC1, Nat.zero_le _, fun p np => ?_⟩
        have sm := same_new (o := .lst []) np
        refine ⟨c, p, _, rfl, rfl, SqL.of (sm _ _ hc1), SqL.of upd_same, _, rfl, ite2 (fun e => ?_) (fun e => ?_)⟩
        · have hne : ns ≠ [] := by
            rintro rfl
            exact absurd e (by decide)
          have gC2 := DGet.k (k := Sum.inr "cells") (sm _ _ hd1)
          rw [nxt_cells] at gC2
          have hlen : 0 < ns.length := List.length_pos_iff.mpr hne
          obtain ⟨j, hj⟩ := nat_of (mod_in (a := t) (b := ((ns.map V.int).length : Int)) (by rw [List.length_map]; omega)).1
          have hj2 : j < ns.length := by
            have h2 := (mod_in (a := t) (b := ((ns.map V.int).length : Int)) (by rw [List.length_map]; omega)).2
            rw [hj, List.length_map] at h2
            omega
          refine ⟨_, rfl, d, _, rfl, gC2, _, rfl, _, rfl, d, _, rfl, gC2, c, _, rfl, .inl (SqL.of (sm _ _ hc1)), t, _, rfl, rfl, (by rw [List.length_map]; omega), c, ns.map V.int, _, .int ns[j], rfl, rfl, SqL.of (sm _ _ hc1), ?_, ?_⟩
          · rw [hj]
            exact atI_nat (by rw [List.getElem?_map, List.getElem?_eq_getElem hj2]; rfl)
          · exact ⟨_, _, _, rfl, sm⟩
        · exact ⟨_, _, _, rfl, sm⟩
      · rintro σ' H2 ⟨v, o2, o5, rfl, sm⟩
        have hd2 := sm _ _ hd1
        have hc2 := sm _ _ hc1
        have src2 : Nxt H2 d c (t + 1) := src1.same sm
        have but2 : But d H H2 := but1.trans (But.same sm)
        have gC2 := DGet.k (k := Sum.inr "cells") hd2
        rw [nxt_cells] at gC2
        clear e hd hc gC gT gR hd1 hc1 gC1 src1 but1 eH1 sm src
        -- if turn < len(cells) and abs(cell) >= 10 ** 18
        refine ⟨fun σ' H' => σ' = [some (.ref d), some (.int n), o2, some (.int t), some (.int v), o5] ∧ H' = H2, ?_, ?_⟩
        · refine ⟨_, rfl, _, rfl, d, _, rfl, gC2, c, _, rfl, .inl (SqL.of hc2), _, _, rfl, rfl, _, rfl, ite2 (fun e1 => ?_) (fun e1 => ?_)⟩
          · refine ⟨_, rfl, _, rfl, 10, 18, rfl, rfl, ⟨by decide, by decide, by decide⟩, _, _, rfl, rfl, _, rfl, ite2 (fun e2 => ?_) (fun e2 => ⟨rfl, rfl⟩)⟩
            have ab : (0 : Int) ≤ (if v < 0 then -v else v) - 10 ^ 18 := by
              have h2 := of_decide_eq_true e2
              have h3 : (10 : Int) ^ (18 : Int).toNat = 10 ^ 18 := rfl
              omega
            refine ⟨_, rfl, _, rfl, 10, 18, rfl, rfl, ⟨by decide, by decide, by decide⟩, _, _, rfl, rfl, _, rfl, _, _, rfl, rfl, ⟨nz, na⟩, _, rfl, d, _, rfl, DPut.k (k := Sum.inr "rest") hd2 (by show 3 < sizeLine; decide), ?_⟩
            rw [nput_rest]
            refine ⟨_, rfl, _, rfl, 10, 18, rfl, rfl, ⟨by decide, by decide, by decide⟩, _, _, rfl, rfl, _, rfl, _, _, rfl, rfl, nz, ?_⟩
            exact q _ _ (t + 1) (but2.trans But.set) (nxt_set src2 (div_in n0 ab)) (Nat.le_refl _) (mod_in n0).1 (mod_in n0).2
          · exact ⟨rfl, rfl⟩
        · rintro σ' H' ⟨rfl, rfl⟩
          refine ⟨_, rfl, _, 2147483647, rfl, rfl, (by show (2147483647 : Int) ≠ 0; decide), _, 48271, rfl, rfl, .inr ⟨by decide, by decide⟩, ?_⟩
          refine ⟨_, rfl, 69621, t, rfl, rfl, .inl ⟨by decide, by decide⟩, _, rfl, _, t, rfl, rfl, .inr ⟨by omega, by omega⟩, _, _, rfl, rfl, ?_⟩
          refine ⟨_, rfl, 30011, t, rfl, rfl, .inl ⟨by decide, by decide⟩, _, _, rfl, rfl, _, 17, rfl, rfl, _, 2147483629, rfl, rfl, (by show (2147483629 : Int) ≠ 0; decide), ?_⟩
          have m1 := mod_in (a := v.fmod 2147483647 * 48271 + 69621 * (t : Int) * t + 30011 * t + 17) (b := 2147483629) (by decide)
          generalize em : (v.fmod 2147483647 * 48271 + 69621 * (t : Int) * t + 30011 * t + 17).fmod 2147483629 = m at m1
          refine ⟨_, rfl, _, rfl, m, m, congrArg V.int em, congrArg V.int em, .inl ⟨by omega, by omega⟩, _, rfl, 40692, m, rfl, congrArg V.int em, .inl ⟨by decide, by decide⟩, _, _, rfl, rfl, ?_⟩
          refine ⟨_, rfl, 5, t, rfl, rfl, .inl ⟨by decide, by decide⟩, _, _, rfl, rfl, _, 11, rfl, rfl, _, 2147483587, rfl, rfl, (by show (2147483587 : Int) ≠ 0; decide), ?_⟩
          have m2 := mod_in (a := m * m + 40692 * m + 5 * t + 11) (b := 2147483587) (by decide)
          generalize em' : (m * m + 40692 * m + 5 * (t : Int) + 11).fmod 2147483587 = m' at m2
          refine ⟨_, rfl, _, rfl, m', 16807, congrArg V.int em', rfl, m', _, congrArg V.int em', rfl, .inl ⟨by omega, by omega⟩, _, 2147483579, rfl, rfl, (by show (2147483579 : Int) ≠ 0; decide), _, 32, rfl, rfl, ⟨by decide, by decide⟩, _, rfl, _, n, rfl, rfl, nz, ?_⟩
          exact q _ _ (t + 1) but2 src2 (Nat.le_refl _) (mod_in n0).1 (mod_in n0).2
end
end Mo

namespace Mo
open PySem PySem.Spec PyProof.Rows L2
section
variable {P : Program} {w : World} {K : PySem.W.Frag} {mg : Str → Option Value} {base : Heap}
theorem ok_pick {k : Nat} (T : Txt K mg) : FnOk P w K mg base CX0 (k + 2) T.aLPick T.dLPick ["_law_pen_here", "_law_choices"] (spNPick K) := by
  have GLDraw : FnOk P w K mg base CX0 (k + 1) T.aLDraw T.dLDraw ["_law_pen_here", "_law_many"] spNDraw := ok_draw T
  refine T.fLPick.ok scLPick (fun vs H Q E h => ?_) (fun cdv A outer s H vs Q E hr h => ?_)
  · obtain ⟨d, c, l, xs, t, rfl, _⟩ := h
    rfl
  · obtain ⟨d, c, l, xs, t, rfl, src, hl, nld, h0, h1, ht, q⟩ := h
    refine ⟨_, (pss_one (ps_ret (pe_ix ix_list (pv 1) (pe_call GLDraw hr (by rfl) T.gLDraw T.fLDraw.kp T.bLDraw .nil pass0 (pa_cons (pv 0) (pa_cons (pe_callB call_len_seq (by rfl) T.m_len PySem.boot_len (pa_cons (pv 1) pa_nil)) pa_nil))) (fun _ _ => rfl)))), ?_⟩
    refine ⟨_, rfl, _, rfl, _, rfl, l, xs, rfl, .inl hl, d, c, _, t, rfl, src, by omega, by omega, ht, fun H' k t' but src' ht' k0 k1 => ?_⟩
    obtain ⟨j, rfl⟩ := nat_of k0
    have hj : j < xs.length := by omega
    have hl' : SqL K H' l xs := by
      rcases hl with (e | ⟨o, e⟩) | e
      · exact .inl (.inl (but _ _ nld e))
      · exact .inl (.inr ⟨o, but _ _ nld e⟩)
      · exact .inr e
    exact ⟨l, xs, j, xs[j], rfl, rfl, hl', atI_nat (List.getElem?_eq_getElem hj), q H' _ t' but src' ht' (List.getElem_mem hj)⟩
end
end Mo

namespace Mo
open PySem PySem.Spec PyProof.Rows L2
section
variable {P : Program} {w : World} {K : PySem.W.Frag} {mg : Str → Option Value} {base : Heap}
def lett : List Nat := [97, 98, 99, 100, 101, 102, 103, 104, 105, 106, 107, 108, 109, 110, 111, 112, 113, 114, 115, 116, 117, 118, 119, 120, 121, 122]
def nm (b st : Int) (k : Nat) : Nat := 97 + ((b + st * (k : Int)).fmod 26).toNat
theorem lett_at : ∀ j : Fin 26, lett[j.val]? = some (97 + j.val) := by decide
theorem lett_text : (Str.ofString "abcdefghijklmnopqrstuvwxyz").cps.toList = lett := by decide +kernel
def steps26 : List Int := [1, 3, 5, 7, 9, 11, 15, 17, 19, 21, 23, 25]
theorem nodup_sub_len : ∀ (a b : List Nat), a.Nodup → (∀ x ∈ a, x ∈ b) → a.length ≤ b.length
  | [], b, _, _ => Nat.zero_le _
  | x :: a, b, hn, hs => by
    have hx : x ∈ b := hs x List.mem_cons_self
    have hn2 := List.nodup_cons.mp hn
    have ih := nodup_sub_len a (b.erase x) hn2.2 fun y hy => by
      have ne : y ≠ x := fun e => hn2.1 (e ▸ hy)
      exact (List.mem_erase_of_ne ne).mpr (hs y (List.mem_cons_of_mem _ hy))
    rw [List.length_erase_of_mem hx] at ih
    have := List.length_pos_of_mem hx
    rw [List.length_cons]
    omega
theorem met_sub_len {zs cs : List Nat} (h : ∀ x ∈ zs, x ∈ cs) : (met zs).length ≤ cs.length := nodup_sub_len _ _ (met_nodup zs) fun x hx => h x (mem_met.mp hx)
theorem cut_tx (zs : List Nat) (lo hi : Option Int) : cutS (tx zs) lo hi = tx ((zs.drop (HT.sIx zs.length 0 lo)).take (HT.sIx zs.length zs.length hi - HT.sIx zs.length 0 lo)) := by
  unfold cutS
  rw [tx_len]
  rfl
theorem signs_map (zs : List Nat) : zs.map sg = (zs.map fun c => (⟨#[c]⟩ : Str)).map V.str := by rw [List.map_map]; rfl
theorem signs_room {zs : List Nat} (h : zs.length ≤ 100000) : ((zs.map fun c => (⟨#[c]⟩ : Str)).map (·.length)).sum + (zs.map fun c => (⟨#[c]⟩ : Str)).length * (Str.ofString "").length ≤ 16777216 := by
  have e : ((zs.map fun c => (⟨#[c]⟩ : Str)).map (·.length)) = zs.map fun _ => 1 := by
    rw [List.map_map]
    rfl
  have e2 : ∀ l : List Nat, (l.map fun _ => 1).sum = l.length := by
    intro l
    induction l with
    | nil => rfl
    | cons x l ih => simp [ih]; omega
  have e3 : (Str.ofString "").length = 0 := by decide
  rw [e, e2, e3]
  omega
end
end Mo

namespace Mo
open PySem PySem.Spec PyProof.Rows L2
/-- how often 2 divides n (0 for 0) -/
def tz (n : Nat) : Nat := if h : n = 0 then 0 else if n % 2 = 0 then tz (n / 2) + 1 else 0
termination_by n
decreasing_by omega
end Mo

namespace Mo
open PySem PySem.Spec PyProof.Rows L2
/-- the universal texts -/
def uni : Nat → List Int
  | 0 => []
  | n + 1 => uni n ++ [(n : Int)] ++ uni n
theorem uni_low : ∀ {n : Nat} {x : Int}, x ∈ uni n → 0 ≤ x ∧ x < n
  | 0, x, h => by cases h
  | n + 1, x, h => by
    rw [uni, List.mem_append, List.mem_append, List.mem_singleton] at h
    rcases h with (h | h) | h
    · have := uni_low h
      omega
    · omega
    · have := uni_low h
      omega
end Mo

/-! ### places of patterns in universal texts: one step down, one step up -/
namespace Mo
open PySem PySem.Spec PyProof.Rows L2
def upL (t : List Int) : List Int := t.flatMap fun x => [x + 1, 0]
def dwL (t : List Int) : List Int := t.flatMap fun x => [0, x + 1]
def loL (t : List Int) : List Int := (t.filter fun x => decide (0 < x)).map fun x => x - 1
theorem upL_nil : upL [] = [] := rfl
theorem upL_cons (x : Int) (t : List Int) : upL (x :: t) = (x + 1) :: 0 :: upL t := rfl
theorem upL_app (a b : List Int) : upL (a ++ b) = upL a ++ upL b := List.flatMap_append
theorem loL_app (a b : List Int) : loL (a ++ b) = loL a ++ loL b := by
  unfold loL
  rw [List.filter_append, List.map_append]
theorem up_dw : ∀ t : List Int, (0 : Int) :: upL t = dwL t ++ [0]
  | [] => rfl
  | x :: t => by
    rw [upL_cons, up_dw t]
    rfl
theorem dwL_len : ∀ t : List Int, (dwL t).length = 2 * t.length
  | [] => rfl
  | x :: t => by
    show (dwL t).length + 1 + 1 = _
    rw [dwL_len t, List.length_cons]
    omega
theorem uni_up : ∀ n : Nat, uni (n + 1) = 0 :: upL (uni n)
  | 0 => rfl
  | n + 1 => by
    have e1 : uni (n + 1 + 1) = uni (n + 1) ++ [((n + 1 : Nat) : Int)] ++ uni (n + 1) := rfl
    have e2 : uni (n + 1) = uni n ++ [(n : Int)] ++ uni n := rfl
    have e3 : upL (uni (n + 1)) = upL (uni n) ++ [(n : Int) + 1, 0] ++ upL (uni n) := by
      rw [e2, upL_app, upL_app]
      rfl
    rw [e1, e3, uni_up n, List.append_assoc, List.append_assoc]
    rfl
theorem lo_up : ∀ {t : List Int}, (∀ x ∈ t, 0 ≤ x) → loL (upL t) = t
  | [], _ => rfl
  | x :: t, h => by
    have h0 := h x List.mem_cons_self
    have ih := lo_up fun y hy => h y (List.mem_cons_of_mem x hy)
    have e : upL (x :: t) = [x + 1, 0] ++ upL t := rfl
    rw [e, loL_app, ih]
    unfold loL
    rw [List.filter_cons_of_pos (by rw [decide_eq_true_eq]; omega), List.filter_cons_of_neg (by decide), List.filter_nil, List.map_cons, List.map_nil, show x + 1 - 1 = x by omega]
    rfl
theorem lo_uni (n : Nat) : loL (uni (n + 1)) = uni n := by
  rw [uni_up]
  have e : (0 : Int) :: upL (uni n) = [0] ++ upL (uni n) := rfl
  rw [e, loL_app, lo_up fun x hx => (uni_low hx).1]
  rfl
/-- of two neighbours just one is 0 -/
def Alt0 (b : List Int) : Prop := ∀ l x y m, b = l ++ x :: y :: m → (x = 0 ↔ y ≠ 0)
theorem Alt0.mid {a b c : List Int} (h : Alt0 (a ++ b ++ c)) : Alt0 b := fun l x y m e => h (a ++ l) x y (m ++ c) (by rw [e]; simp)
theorem alt_up : ∀ {t : List Int}, (∀ x ∈ t, 0 ≤ x) → Alt0 (0 :: upL t)
  | [], _, l, x, y, m, e => by
    have := congrArg List.length e
    rw [List.length_append, List.length_cons, List.length_cons, upL_nil] at this
    simp at this
    omega
  | z :: t, h, l, x, y, m, e => by
    have h0 := h z List.mem_cons_self
    rw [upL_cons] at e
    match l, e with
    | [], e =>
      injection e with e1 e2
      injection e2 with e2 _
      subst e1 e2
      exact ⟨fun _ => by omega, fun _ => rfl⟩
    | [w], e =>
      injection e with e1 e2
      injection e2 with e2 e3
      injection e3 with e3 _
      subst e2 e3
      exact ⟨fun _ => by omega, fun k => absurd rfl k⟩
    | w :: w2 :: l, e =>
      injection e with _ e2
      injection e2 with _ e3
      exact alt_up (fun y hy => h y (List.mem_cons_of_mem z hy)) l x y m e3
theorem alt_uni : ∀ n, Alt0 (uni n)
  | 0, l, x, y, m, e => by
    have := congrArg List.length e
    simp [uni] at this
  | n + 1, l, x, y, m, e => by
    rw [uni_up] at e
    exact alt_up (fun x hx => (uni_low hx).1) l x y m e
/-- values whose substitution is a block of the universal text n -/
structure Blk (n : Nat) (p : List Nat) (g : Nat → List Int) : Prop where
  ne : ∀ c ∈ p, g c ≠ []
  blk : ∃ l m, uni n = l ++ p.flatMap g ++ m
theorem flat_ne {p : List Nat} {g : Nat → List Int} (h : ∀ c ∈ p, g c ≠ []) (e : p.flatMap g = []) : p = [] := by
  cases p with
  | nil => rfl
  | cons c r => exact absurd (List.append_eq_nil_iff.mp e).1 (h c List.mem_cons_self)
theorem Blk.zero {p : List Nat} {g : Nat → List Int} (h : Blk 0 p g) : p = [] := by
  obtain ⟨l, m, e⟩ := h.blk
  exact flat_ne h.ne (List.append_eq_nil_iff.mp (List.append_eq_nil_iff.mp e.symm).1).2
theorem flat_mid {p : List Nat} {g : Nat → List Int} {c : Nat} (h : c ∈ p) : ∃ a b, p.flatMap g = a ++ g c ++ b := by
  obtain ⟨a, b, rfl⟩ := List.append_of_mem h
  exact ⟨a.flatMap g, b.flatMap g, by simp⟩
theorem nbr_mid {p : List Nat} {x y : Nat} (h : (x, y) ∈ nbr p) : ∃ a b, p = a ++ x :: y :: b := by
  obtain ⟨i, hi⟩ := List.getElem?_of_mem h
  unfold nbr at hi
  rw [List.getElem?_zip_eq_some, List.getElem?_drop] at hi
  obtain ⟨h1, h2⟩ := hi
  refine ⟨p.take i, p.drop (i + 2), ?_⟩
  have g1 := List.getElem?_eq_some_iff.mp h1
  have g2 := List.getElem?_eq_some_iff.mp h2
  obtain ⟨l1, e1⟩ := g1
  obtain ⟨l2, e2⟩ := g2
  have k1 : p.drop i = x :: p.drop (i + 1) := by rw [List.drop_eq_getElem_cons l1, e1]
  have k2 : p.drop (i + 1) = y :: p.drop (i + 2) := by
    have l3 : i + 1 < p.length := by omega
    rw [List.drop_eq_getElem_cons l3]
    congr 1
    have e4 : p[i + 1]? = some y := by
      rw [show i + 1 = 1 + i by omega]
      exact h2
    obtain ⟨_, e5⟩ := List.getElem?_eq_some_iff.mp e4
    exact e5
  rw [← k2, ← k1, List.take_append_drop]
theorem last_of {t : List Int} (h : t ≠ []) : ∃ l x, t = l ++ [x] := ⟨t.dropLast, t.getLast h, (List.dropLast_concat_getLast h).symm⟩
/-- the side of a node: a right node whose value begins with 0, a left node whose value ends otherwise -/
def sideP (g : Nat → List Int) (u : Nd) : Prop := if u.1 then (g u.2).head? = some 0 else (g u.2).getLast? ≠ some 0
theorem Blk.side {n : Nat} {p : List Nat} {g : Nat → List Int} (h : Blk n p g) {u v : Nd} (c : Cn (nbr p) u v) : sideP g u ↔ sideP g v := by
  have edge : ∀ {a b : Nat}, (a, b) ∈ nbr p → (sideP g (false, a) ↔ sideP g (true, b)) := by
    intro a b e
    obtain ⟨A, B, rfl⟩ := nbr_mid e
    obtain ⟨l, m, hb⟩ := h.blk
    obtain ⟨la, x, ha⟩ := last_of (h.ne a (by simp))
    obtain ⟨y, rb, hy⟩ : ∃ y r, g b = y :: r := by
      cases e : g b with
      | nil => exact absurd e (h.ne b (by simp))
      | cons y r => exact ⟨y, r, rfl⟩
    have al := (hb ▸ alt_uni n).mid (A.flatMap g ++ la) x y (rb ++ B.flatMap g) (by simp [ha, hy])
    show (g a).getLast? ≠ some 0 ↔ (g b).head? = some 0
    rw [ha, hy, List.getLast?_concat, List.head?_cons]
    show (some x ≠ some 0) ↔ some y = some 0
    have al2 : x = 0 ↔ ¬ y = 0 := al
    constructor
    · intro k
      by_cases z : y = 0
      · rw [z]
      · exact absurd (congrArg some (al2.mpr z)) k
    · intro k z
      exact al2.mp (Option.some.inj z) (Option.some.inj k)
  induction c with
  | refl => exact Iff.rfl
  | l2r _ e ih => exact ih.trans (edge e)
  | r2l _ e ih => exact ih.trans (edge e).symm
theorem Blk.free {n : Nat} {p S : List Nat} {g : Nat → List Int} (h : Blk n p g) (hS : ∀ x ∈ S, g x = [0]) : Free (nbr p) S := by
  intro a ha b hb c
  have := (h.side c).mpr (by show (g b).head? = _; rw [hS b hb]; rfl)
  exact this (by show (g a).getLast? = _; rw [hS a ha]; rfl)
theorem lo_ne {n : Nat} {p : List Nat} {g : Nat → List Int} (h : Blk n p g) {c : Nat} (hc : c ∈ p) (h0 : g c ≠ [0]) : loL (g c) ≠ [] := by
  obtain ⟨l, m, e⟩ := h.blk
  obtain ⟨a, b, e2⟩ := flat_mid (g := g) hc
  have al : Alt0 (g c) := (e2 ▸ (e ▸ alt_uni n).mid).mid
  have pos : ∀ x ∈ g c, 0 ≤ x := fun x hx => (uni_low (n := n) (by rw [e, e2]; simp [hx])).1
  have key : ∃ x ∈ g c, 0 < x := by
    match e3 : g c with
    | [] => exact absurd e3 (h.ne c hc)
    | [x] =>
      have := pos x (by rw [e3]; simp)
      exact ⟨x, by simp, by
        by_cases z : x = 0
        · rw [e3, z] at h0
          exact absurd rfl h0
        · omega⟩
    | x :: y :: r =>
      have := pos x (by rw [e3]; simp)
      have := pos y (by rw [e3]; simp)
      have := al [] x y r e3
      by_cases z : x = 0
      · have := this.mp z
        exact ⟨y, by simp, by omega⟩
      · exact ⟨x, by simp, by omega⟩
  obtain ⟨x, hx, hp⟩ := key
  unfold loL
  intro z
  have := List.filter_eq_nil_iff.mp (List.map_eq_nil_iff.mp z) x hx
  exact this (decide_eq_true hp)
theorem flat_lo {S : List Nat} {g : Nat → List Int} : ∀ {p : List Nat}, (∀ x ∈ p, x ∈ S → g x = [0]) → (wo p S).flatMap (fun c => loL (g c)) = loL (p.flatMap g)
  | [], _ => rfl
  | x :: p, h => by
    have ih := flat_lo (S := S) fun y hy => h y (List.mem_cons_of_mem x hy)
    have e : (x :: p).flatMap g = g x ++ p.flatMap g := rfl
    rw [e, loL_app, ← ih]
    by_cases z : x ∈ S
    · have e2 : wo (x :: p) S = wo p S := by
        unfold wo
        rw [List.filter_cons_of_neg (by simp [z])]
      rw [e2, h x List.mem_cons_self z]
      rfl
    · have e2 : wo (x :: p) S = x :: wo p S := by
        unfold wo
        rw [List.filter_cons_of_pos (by simp [z])]
      rw [e2]
      rfl
theorem Blk.down {n : Nat} {p S : List Nat} {g : Nat → List Int} (h : Blk (n + 1) p g) (hS : ∀ x ∈ p, x ∈ S ↔ g x = [0]) : Blk n (wo p S) fun c => loL (g c) := by
  refine ⟨fun c hc => ?_, ?_⟩
  · obtain ⟨h1, h2⟩ := mem_wo.mp hc
    exact lo_ne h h1 fun z => h2 ((hS c h1).mpr z)
  · obtain ⟨l, m, e⟩ := h.blk
    refine ⟨loL l, loL m, ?_⟩
    rw [flat_lo fun x hx z => (hS x hx).mp z, ← loL_app, ← loL_app, ← e, lo_uni]
/-! ### up -/
/-- the value of a letter that stays: raised, a 0 between all neighbours, one before or after it -/
def sprL (b a : Bool) (t : List Int) : List Int := (if b then [0] else []) ++ (upL t).dropLast ++ (if a then [0] else [])
theorem core_up {t : List Int} (h : t ≠ []) : (upL t).dropLast ++ [0] = upL t := by
  obtain ⟨l, x, rfl⟩ := last_of h
  have e : upL (l ++ [x]) = (upL l ++ [x + 1]) ++ [0] := by
    rw [upL_app, List.append_assoc]
    rfl
  rw [e, List.dropLast_concat]
theorem core_next {t : List Int} {x : Int} : (upL (t ++ [x])).dropLast = upL t ++ [x + 1] := by
  have e : upL (t ++ [x]) = (upL t ++ [x + 1]) ++ [0] := by
    rw [upL_app, List.append_assoc]
    rfl
  rw [e, List.dropLast_concat]
structure UpB (p S : List Nat) (bB aB : Nat → Bool) : Prop where
  edge : ∀ {x y : Nat}, (x, y) ∈ nbr p → aB x = !bB y
  inB : ∀ x ∈ p, x ∈ S → bB x = true
  inA : ∀ x ∈ p, x ∈ S → aB x = true
def raiseF (S : List Nat) (bB aB : Nat → Bool) (g : Nat → List Int) (x : Nat) : List Int := if x ∈ S then [0] else sprL (bB x) (aB x) (g x)
theorem nbr_two (x y : Nat) (r : List Nat) : nbr (x :: y :: r) = (x, y) :: nbr (y :: r) := rfl
theorem chain_up {S : List Nat} {bB aB : Nat → Bool} {g : Nat → List Int} : ∀ {p : List Nat} {x : Nat}, UpB (x :: p) S bB aB → (∀ c ∈ wo (x :: p) S, g c ≠ []) →
    ∃ post, (if bB x then [] else [0]) ++ (x :: p).flatMap (raiseF S bB aB g) ++ post = (0 : Int) :: upL ((wo (x :: p) S).flatMap g)
  | [], x, u, ne => by
    refine ⟨if aB x then [] else [0], ?_⟩
    rw [List.flatMap_cons, List.flatMap_nil, List.append_nil]
    unfold raiseF
    by_cases z : x ∈ S
    · rw [if_pos z, u.inB x List.mem_cons_self z, u.inA x List.mem_cons_self z]
      have e2 : wo [x] S = [] := by
        unfold wo
        rw [List.filter_cons_of_neg (by simp [z])]
        rfl
      rw [e2]
      rfl
    · have e2 : wo [x] S = [x] := by
        unfold wo
        rw [List.filter_cons_of_pos (by simp [z])]
        rfl
      rw [e2] at ne
      rw [if_neg z, e2, List.flatMap_cons, List.flatMap_nil, List.append_nil, ← core_up (ne x (by simp))]
      unfold sprL
      cases bB x <;> cases aB x <;> simp
  | y :: p, x, u, ne => by
    have u2 : UpB (y :: p) S bB aB := ⟨fun e => u.edge (by rw [nbr_two]; exact List.mem_cons_of_mem _ e), fun c hc => u.inB c (List.mem_cons_of_mem _ hc), fun c hc => u.inA c (List.mem_cons_of_mem _ hc)⟩
    have ed : aB x = !bB y := u.edge (by rw [nbr_two]; exact List.mem_cons_self)
    by_cases z : x ∈ S
    · have e2 : wo (x :: y :: p) S = wo (y :: p) S := by
        unfold wo
        rw [List.filter_cons_of_neg (by simp [z])]
      rw [e2] at ne ⊢
      obtain ⟨post, ih⟩ := chain_up u2 ne
      refine ⟨post, ?_⟩
      rw [u.inA x List.mem_cons_self z] at ed
      have ey : bB y = false := by
        cases e : bB y with
        | false => rfl
        | true => rw [e] at ed; cases ed
      rw [ey] at ih
      rw [← ih, u.inB x List.mem_cons_self z, show (x :: y :: p).flatMap (raiseF S bB aB g) = raiseF S bB aB g x ++ (y :: p).flatMap (raiseF S bB aB g) from rfl]
      have e3 : raiseF S bB aB g x = [0] := if_pos z
      rw [e3]
      rfl
    · have e2 : wo (x :: y :: p) S = x :: wo (y :: p) S := by
        unfold wo
        rw [List.filter_cons_of_pos (by simp [z])]
      have nx := ne x (by rw [e2]; exact List.mem_cons_self)
      obtain ⟨post, ih⟩ := chain_up u2 fun c hc => ne c (by rw [e2]; exact List.mem_cons_of_mem _ hc)
      refine ⟨post, ?_⟩
      have e3 : raiseF S bB aB g x = sprL (bB x) (aB x) (g x) := if_neg z
      rw [e2, show (x :: wo (y :: p) S).flatMap g = g x ++ (wo (y :: p) S).flatMap g from rfl, show (x :: y :: p).flatMap (raiseF S bB aB g) = raiseF S bB aB g x ++ (y :: p).flatMap (raiseF S bB aB g) from rfl, upL_app, e3]
      have e4 : (0 : Int) :: (upL (g x) ++ upL ((wo (y :: p) S).flatMap g)) = [0] ++ (upL (g x)).dropLast ++ ((0 : Int) :: upL ((wo (y :: p) S).flatMap g)) := by
        rw [← core_up nx]
        simp
      rw [e4, ← ih, ed]
      unfold sprL
      cases bB x <;> cases bB y <;> simp
/-- a place: where, and the values -/
structure PlU (n : Nat) (p : List Nat) (s : Nat) (g : Nat → List Int) : Prop where
  ne : ∀ c ∈ p, g c ≠ []
  blk : ∃ l m, uni n = l ++ p.flatMap g ++ m ∧ l.length = s
theorem PlU.up {n s x : Nat} {p S : List Nat} {bB aB : Nat → Bool} {g : Nat → List Int} (h : PlU n (wo (x :: p) S) s g) (u : UpB (x :: p) S bB aB) : PlU (n + 1) (x :: p) (2 * s + if bB x then 0 else 1) (raiseF S bB aB g) := by
  refine ⟨fun c hc => ?_, ?_⟩
  · unfold raiseF
    by_cases z : c ∈ S
    · rw [if_pos z]; simp
    · rw [if_neg z]
      have k := h.ne c (mem_wo.mpr ⟨hc, z⟩)
      obtain ⟨l, y, e⟩ := last_of k
      unfold sprL
      rw [e, core_next]
      simp
  · obtain ⟨l, m, e, hl⟩ := h.blk
    obtain ⟨post, k⟩ := chain_up u h.ne
    refine ⟨dwL l ++ (if bB x then [] else [0]), post ++ upL m, ?_, ?_⟩
    · have e1 : uni (n + 1) = dwL l ++ ((0 : Int) :: upL ((wo (x :: p) S).flatMap g)) ++ upL m := by
        rw [uni_up, e, upL_app, upL_app]
        show [(0 : Int)] ++ ((upL l ++ upL _) ++ upL m) = _
        have e2 : (0 : Int) :: upL ((wo (x :: p) S).flatMap g) = [0] ++ upL ((wo (x :: p) S).flatMap g) := rfl
        rw [e2]
        have e3 : dwL l ++ ([0] ++ upL ((wo (x :: p) S).flatMap g)) = (dwL l ++ [0]) ++ upL ((wo (x :: p) S).flatMap g) := by simp
        rw [e3, ← up_dw]
        simp
      rw [e1, ← k]
      simp
    · rw [List.length_append, dwL_len, hl]
      cases bB x <;> rfl
theorem PlU.nil {s : Nat} {g : Nat → List Int} (h : s = 0) : PlU 0 [] s g := ⟨fun c hc => absurd hc (by simp), [], [], rfl, h.symm⟩
/-- a block of a shorter universal text stands in the longer ones -/
theorem uni_more : ∀ {n k : Nat}, ∃ m, uni (n + k) = uni n ++ m
  | n, 0 => ⟨[], by simp⟩
  | n, k + 1 => by
    obtain ⟨m, e⟩ := uni_more (n := n) (k := k)
    exact ⟨m ++ [((n + k : Nat) : Int)] ++ uni (n + k), by rw [← Nat.add_assoc, uni, e]; simp⟩
theorem PlU.more {n k s : Nat} {p : List Nat} {g : Nat → List Int} (h : PlU n p s g) : PlU (n + k) p s g := by
  obtain ⟨l, m, e, hl⟩ := h.blk
  obtain ⟨m2, e2⟩ := uni_more (n := n) (k := k)
  exact ⟨h.ne, l, m ++ m2, by rw [e2, e]; simp, hl⟩
theorem PlU.pre {n s : Nat} {p : List Nat} {g : Nat → List Int} (h : PlU n p s g) : p.flatMap g <+: (uni n).drop s := by
  obtain ⟨l, m, e, hl⟩ := h.blk
  rw [e, ← hl, List.append_assoc, List.drop_left]
  exact ⟨m, rfl⟩
end Mo

/-! ### descents: the values without a marked pair, group by group, are free -/
namespace Mo
section
variable {st en : Nat → Nat} {th : Nat} {del : Nat → Bool}
/-- what stands first behind a gap of deleted values -/
theorem head_gap (hd : ∀ x, del x = true → th < st x ∧ st x < en x) : ∀ (t : List Nat) (p : Nat), (∀ e ∈ nbr t, st e.2 = en e.1) → (∀ d, t.head? = some d → st d = p) → ∀ y, (t.filter fun c => !del c).head? = some y → st y = p ∨ (th < p ∧ th < st y)
  | [], p, _, _, y, h => by simp at h
  | d :: t, p, ha, hp, y, h => by
    have e := hp d rfl
    cases hx : del d with
    | false =>
      rw [List.filter_cons_of_pos (by rw [hx]; rfl)] at h
      have : d = y := Option.some.inj h
      rw [← this]
      exact .inl e
    | true =>
      rw [List.filter_cons_of_neg (by rw [hx]; decide)] at h
      obtain ⟨h1, h2⟩ := hd d hx
      have ha' : ∀ e ∈ nbr t, st e.2 = en e.1 := fun f hf => ha f (by
        cases t with
        | nil => simp [nbr] at hf
        | cons d' t' => exact List.mem_cons_of_mem _ hf)
      have hp' : ∀ d', t.head? = some d' → st d' = en d := fun d' hh => by
        cases t with
        | nil => simp at hh
        | cons d'' t' =>
          have : d'' = d' := Option.some.inj hh
          rw [← this]
          exact ha (d, d'') List.mem_cons_self
      have q := head_gap hd t (en d) ha' hp' y h
      refine .inr ⟨by omega, ?_⟩
      rcases q with q | q <;> omega
/-- neighbours in what is left meet, or both lie above the threshold -/
theorem gap_nbr (hd : ∀ x, del x = true → th < st x ∧ st x < en x) : ∀ (cs : List Nat), (∀ e ∈ nbr cs, st e.2 = en e.1) → ∀ e ∈ nbr (cs.filter fun c => !del c), st e.2 = en e.1 ∨ (th < en e.1 ∧ th < st e.2)
  | [], _, e, h => by simp [nbr] at h
  | c :: t, ha, e, h => by
    have ha' : ∀ e ∈ nbr t, st e.2 = en e.1 := fun f hf => ha f (by
      cases t with
      | nil => simp [nbr] at hf
      | cons d' t' => exact List.mem_cons_of_mem _ hf)
    cases hx : del c with
    | true =>
      rw [List.filter_cons_of_neg (by rw [hx]; decide)] at h
      exact gap_nbr hd t ha' e h
    | false =>
      rw [List.filter_cons_of_pos (by rw [hx]; rfl)] at h
      cases hf : t.filter (fun c => !del c) with
      | nil => rw [hf] at h; simp [nbr] at h
      | cons y r =>
        rw [hf] at h
        rcases List.mem_cons.mp (show e ∈ (c, y) :: nbr (y :: r) from h) with rfl | h
        · refine head_gap hd t (en c) ha' (fun d hh => ?_) y (by rw [hf]; rfl)
          cases t with
          | nil => simp at hh
          | cons d'' t' =>
            have : d'' = d := Option.some.inj hh
            rw [← this]
            exact ha (c, d'') List.mem_cons_self
        · rw [← hf] at h
          exact gap_nbr hd t ha' e h
/-- the offset of a node: where a value ends, where it starts -/
def offN (st en : Nat → Nat) (v : Nd) : Nat := if v.1 = true then st v.2 else en v.2
theorem off_cn {es : List (Nat × Nat)} (h : ∀ e ∈ es, st e.2 = en e.1 ∨ (th < en e.1 ∧ th < st e.2)) {u v : Nd} (c : Cn es u v) : offN st en v = offN st en u ∨ (th < offN st en u ∧ th < offN st en v) := by
  induction c with
  | refl => exact .inl rfl
  | @l2r a b _ he ih =>
    have q := h _ he
    have e1 : offN st en (false, a) = en a := rfl
    have e2 : offN st en (true, b) = st b := rfl
    rw [e1] at ih
    rw [e2]
    dsimp only at q
    omega
  | @r2l a b _ he ih =>
    have q := h _ he
    have e1 : offN st en (false, a) = en a := rfl
    have e2 : offN st en (true, b) = st b := rfl
    rw [e2] at ih
    rw [e1]
    dsimp only at q
    omega
/-- the values that start at the threshold are free in what is left -/
theorem dsc_free (hd : ∀ x, del x = true → th < st x ∧ st x < en x) {cs ls : List Nat} (ha : ∀ e ∈ nbr cs, st e.2 = en e.1) (hl : ∀ x ∈ ls, st x = th ∧ st x < en x) : Free (nbr (cs.filter fun c => !del c)) ls := fun a ha' b hb c => by
  have q := off_cn (gap_nbr hd cs ha) c
  have e1 : offN st en (false, a) = en a := rfl
  have e2 : offN st en (true, b) = st b := rfl
  rw [e1, e2] at q
  have h1 := hl a ha'
  have h2 := hl b hb
  omega
end
end Mo

/-! ### descents: the marked pairs of a text in blocks of q letters -/
namespace Mo
/-- the first block whose letter at index m stands at s or behind it -/
def cei (q m s : Nat) : Nat := (s + (q - 1 - m)) / q
theorem lt_cei {q m s j : Nat} (hm : m < q) : j < cei q m s ↔ j * q + m < s := by
  unfold cei
  rw [← Nat.succ_le_iff, Nat.le_div_iff_mul_le (by omega), Nat.succ_mul]
  omega
theorem cei_mono {q m s t : Nat} (h : s ≤ t) : cei q m s ≤ cei q m t := Nat.div_le_div_right (by omega)
/-- a pair lies within [s, e) just when its block is from cei s on and before cei e, where no pair is cut at e -/
theorem pair_in {q m s e j : Nat} (hm : m < q) (he : j * q + m + 1 ≠ e) : (s ≤ j * q + m ∧ j * q + m + 1 < e) ↔ (cei q m s ≤ j ∧ j < cei q m e) := by
  have h1 := lt_cei (q := q) (s := s) (j := j) hm
  have h2 := lt_cei (q := q) (s := e) (j := j) hm
  constructor
  · rintro ⟨a, b⟩
    exact ⟨Nat.le_of_not_lt fun z => by have := h1.mp z; omega, h2.mpr (by omega)⟩
  · rintro ⟨a, b⟩
    have c := h2.mp b
    refine ⟨Nat.le_of_not_lt fun z => ?_, by omega⟩
    have := h1.mpr z
    omega
/-- how many pairs a value holds hangs on its start modulo q alone -/
theorem cei_add {q m s k : Nat} (hq : 0 < q) : cei q m (s + k * q) = cei q m s + k := by
  unfold cei
  rw [show s + k * q + (q - 1 - m) = (s + (q - 1 - m)) + k * q by omega, Nat.add_mul_div_right _ _ hq]
theorem cei_diff {q m s t l : Nat} (hq : 0 < q) (h : s % q = t % q) : cei q m (s + l) - cei q m s = cei q m (t + l) - cei q m t := by
  have a := Nat.div_add_mod s q
  have b := Nat.div_add_mod t q
  have ha : s = s % q + (s / q) * q := by rw [Nat.mul_comm]; omega
  have hb : t = t % q + (t / q) * q := by rw [Nat.mul_comm]; omega
  have e1 : cei q m (s + l) = cei q m (s % q + l) + s / q := by
    rw [← cei_add hq]
    congr 1
    omega
  have e2 : cei q m s = cei q m (s % q) + s / q := by
    rw [← cei_add hq, ← ha]
  have e3 : cei q m (t + l) = cei q m (t % q + l) + t / q := by
    rw [← cei_add hq]
    congr 1
    omega
  have e4 : cei q m t = cei q m (t % q) + t / q := by
    rw [← cei_add hq, ← hb]
  rw [e1, e2, e3, e4, h]
  omega
/-- the offset of an index: its distance from the letter behind the last mark -/
def offq (q m s : Nat) : Nat := (s + (q - 1 - m)) % q
/-- a value without a pair lies within a block's offsets -/
theorem small_off {q m s l : Nat} (hm : m < q) (hs : offq q m s ≠ 0) (he : offq q m (s + l) ≠ 0) (hl : 0 < l) (h : cei q m (s + l) = cei q m s) : offq q m (s + l) = offq q m s + l := by
  unfold offq cei at *
  have a := Nat.div_add_mod (s + (q - 1 - m)) q
  have b := Nat.div_add_mod (s + l + (q - 1 - m)) q
  rw [h] at b
  omega
/-- an index behind which nothing is cut: among so many there is one -/
theorem uncut (cuts : List Nat) (N : Nat) (h : cuts.length ≤ N) : ∃ k, k ≤ N ∧ k + 1 ∉ cuts ∧ ∀ j, j < k → j + 1 ∈ cuts := by
  have ex : ∃ k, k ≤ N ∧ k + 1 ∉ cuts := by
    refine Classical.byContradiction fun z => ?_
    have all : ∀ x ∈ (List.range (N + 1)).map (· + 1), x ∈ cuts := fun x hx => by
      obtain ⟨k, hk, rfl⟩ := List.mem_map.mp hx
      exact Classical.byContradiction fun y => z ⟨k, by have := List.mem_range.mp hk; omega, y⟩
    have nd : ((List.range (N + 1)).map (· + 1)).Nodup := by
      refine List.Pairwise.map _ (fun a b hab z => hab ?_) List.nodup_range
      exact Nat.succ.inj z
    have q := nd_sub _ _ nd all
    rw [List.length_map, List.length_range] at q
    omega
  have go : ∀ n k : Nat, k + n = N + 1 → (∀ j, j < k → j + 1 ∈ cuts) → ∃ k, k ≤ N ∧ k + 1 ∉ cuts ∧ ∀ j, j < k → j + 1 ∈ cuts := by
    intro n
    induction n with
    | zero =>
      intro k e hk
      obtain ⟨k0, h0, h1⟩ := ex
      exact absurd (hk k0 (by omega)) h1
    | succ n ih =>
      intro k e hk
      by_cases c : k + 1 ∈ cuts
      · refine ih (k + 1) (by omega) fun j hj => ?_
        by_cases e2 : j = k
        · rw [e2]
          exact c
        · exact hk j (by omega)
      · exact ⟨k, by omega, c, hk⟩
  exact go (N + 1) 0 (by omega) (fun j hj => absurd hj (by omega))
/-- groups by distance, the greatest first: what is deleted before a group lies above it -/
theorem groups_above {ds : List Nat} (h : ds.Pairwise (· > ·)) {pre : List Nat} {d : Nat} {post : List Nat} (e : ds = pre ++ d :: post) : ∀ x ∈ pre, d < x := fun x hx => by
  rw [e] at h
  exact (List.pairwise_append.mp h).2.2 x hx d List.mem_cons_self
end Mo

/-! ### descents: a place in a text whose letters tell their index modulo q -/
namespace Mo
/-- the block of n letters of A from s on -/
def blA (A : Nat → Nat) (s n : Nat) : List Nat := (List.range n).map fun j => A (s + j)
theorem blA_len (A : Nat → Nat) (s n : Nat) : (blA A s n).length = n := by unfold blA; simp
theorem blA_app (A : Nat → Nat) (s m n : Nat) : blA A s m ++ blA A (s + m) n = blA A s (m + n) := by
  unfold blA
  rw [List.range_add, List.map_append, List.map_map]
  congr 1
  refine List.map_congr_left fun j _ => ?_
  show A (s + m + j) = A (s + (m + j))
  rw [Nat.add_assoc]
theorem blA_at {A : Nat → Nat} {s n j : Nat} (h : j < n) : (blA A s n)[j]? = some (A (s + j)) := by
  unfold blA
  rw [List.getElem?_map, List.getElem?_range h]
  rfl
/-- a place: the values of the pattern cs, put together, are the block from s on -/
def PlA (A : Nat → Nat) (s : Nat) (f : Nat → List Nat) (cs : List Nat) : Prop := cs.flatMap f = blA A s (cs.flatMap f).length
theorem PlA.part {A : Nat → Nat} {f : Nat → List Nat} : ∀ {a b : List Nat} {s : Nat}, PlA A s f (a ++ b) → PlA A s f a ∧ PlA A (s + (a.flatMap f).length) f b := fun {a b s} h => by
  unfold PlA at *
  rw [List.flatMap_append, List.length_append, ← blA_app] at h
  exact List.append_inj h (blA_len A s _).symm
theorem PlA.occ {A : Nat → Nat} {f : Nat → List Nat} {a b : List Nat} {c s : Nat} (h : PlA A s f (a ++ c :: b)) : f c = blA A (s + (a.flatMap f).length) (f c).length := by
  have q := (PlA.part (a := [c]) (b := b) (h.part).2).1
  unfold PlA at q
  simpa using q
/-- all occurrences of a value start at one index modulo q -/
theorem PlA.res {A : Nat → Nat} {q : Nat} (hA : ∀ i, A i / q = i % q) {f : Nat → List Nat} {a b a' b' : List Nat} {c s : Nat} (h : PlA A s f (a ++ c :: b)) (e : a ++ c :: b = a' ++ c :: b') (hf : f c ≠ []) : (s + (a.flatMap f).length) % q = (s + (a'.flatMap f).length) % q := by
  have h' : PlA A s f (a' ++ c :: b') := by rw [← e]; exact h
  have q1 := h.occ
  have q2 := h'.occ
  have hl : 0 < (f c).length := List.length_pos_iff.mpr hf
  have e1 : (f c)[0]? = some (A (s + (a.flatMap f).length + 0)) := by rw [q1]; exact blA_at hl
  have e2 : (f c)[0]? = some (A (s + (a'.flatMap f).length + 0)) := by rw [q2]; exact blA_at hl
  have e3 := Option.some.inj (e1.symm.trans e2)
  rw [Nat.add_zero, Nat.add_zero] at e3
  rw [← hA, ← hA, e3]
/-- what stands before the first occurrence -/
def before (cs : List Nat) (c : Nat) : List Nat := cs.takeWhile fun x => !decide (x = c)
theorem before_split : ∀ {cs : List Nat} {c : Nat}, c ∈ cs → ∃ b, cs = before cs c ++ c :: b
  | x :: t, c, h => by
    unfold before
    by_cases e : x = c
    · subst e
      exact ⟨t, by rw [List.takeWhile_cons_of_neg (by simp)]; rfl⟩
    · rcases List.mem_cons.mp h with z | z
      · exact absurd z.symm e
      · obtain ⟨b, hb⟩ := before_split z
        refine ⟨b, ?_⟩
        rw [List.takeWhile_cons_of_pos (by simp [e]), List.cons_append]
        exact congrArg (x :: ·) hb
/-- the offset of the start of a value, and of its end -/
def inO (q m s : Nat) (f : Nat → List Nat) (cs : List Nat) (c : Nat) : Nat := offq q m (s + ((before cs c).flatMap f).length)
def fiO (q m s : Nat) (f : Nat → List Nat) (cs : List Nat) (c : Nat) : Nat := offq q m (s + ((before cs c).flatMap f).length + (f c).length)
theorem offq_res {q m s t k : Nat} (h : s % q = t % q) : offq q m (s + k) = offq q m (t + k) := by
  unfold offq
  rw [Nat.add_assoc, Nat.add_assoc, Nat.add_mod s, h, ← Nat.add_mod]
/-- neighbours meet -/
theorem st_en {A : Nat → Nat} {q m : Nat} (hA : ∀ i, A i / q = i % q) {f : Nat → List Nat} {cs : List Nat} {s : Nat} (h : PlA A s f cs) (hf : ∀ c ∈ cs, f c ≠ []) : ∀ e ∈ nbr cs, inO q m s f cs e.2 = fiO q m s f cs e.1 := by
  intro e he
  obtain ⟨a, b, hab⟩ : ∃ a b, cs = a ++ e.1 :: e.2 :: b := by
    clear h hf
    induction cs with
    | nil => simp [nbr] at he
    | cons x t ih =>
      cases t with
      | nil => simp [nbr] at he
      | cons y t =>
        rcases List.mem_cons.mp (show e ∈ (x, y) :: nbr (y :: t) from he) with rfl | he
        · exact ⟨[], t, rfl⟩
        · obtain ⟨a, b, hab⟩ := ih he
          exact ⟨x :: a, b, by rw [hab]; rfl⟩
  obtain ⟨m1, m2⟩ := nbr_in he
  obtain ⟨b1, s1⟩ := before_split m1
  obtain ⟨b2, s2⟩ := before_split m2
  have r1 := PlA.res (q := q) hA (a := before cs e.1) (b := b1) (a' := a) (b' := e.2 :: b) (c := e.1) (f := f) (s := s) (by rw [← s1]; exact h) (s1.symm.trans hab) (hf _ m1)
  have hab2 : cs = (a ++ [e.1]) ++ e.2 :: b := by rw [hab]; simp
  have r2 := PlA.res (q := q) hA (a := before cs e.2) (b := b2) (a' := a ++ [e.1]) (b' := b) (c := e.2) (f := f) (s := s) (by rw [← s2]; exact h) (s2.symm.trans hab2) (hf _ m2)
  unfold inO fiO
  have z1 := offq_res (m := m) (k := (f e.1).length) r1
  have z2 := offq_res (m := m) (k := 0) r2
  rw [Nat.add_zero, Nat.add_zero] at z2
  rw [z1, z2, List.flatMap_append, List.length_append]
  have : ([e.1].flatMap f).length = (f e.1).length := by simp
  rw [this, Nat.add_assoc]
/-- the pairs within a value tell the same letters wherever it stands -/
theorem in_same {A : Nat → Nat} {q m : Nat} (hm : m + 1 < q) (hB : ∀ x y, A (x * q + m) = A (y * q + m) → A (x * q + m + 1) = A (y * q + m + 1) → A x = A y) {s t l : Nat} (hs : s % q = t % q) (he : blA A s l = blA A t l) (hc : ∀ j, j * q + m + 1 ≠ s + l) :
    blA A (cei q m s) (cei q m (s + l) - cei q m s) = blA A (cei q m t) (cei q m (t + l) - cei q m t) := by
  have hq : 0 < q := by omega
  have hd := cei_diff (m := m) (l := l) hq hs
  rw [← hd]
  have a0 := Nat.div_add_mod s q
  have b0 := Nat.div_add_mod t q
  have ha : s = s % q + (s / q) * q := by rw [Nat.mul_comm]; omega
  have hb : t = s % q + (t / q) * q := by rw [hs, Nat.mul_comm]; omega
  have e2 : cei q m s = cei q m (s % q) + s / q := by rw [← cei_add hq, ← ha]
  have e4 : cei q m t = cei q m (s % q) + t / q := by rw [← cei_add hq, ← hb]
  unfold blA
  refine List.map_congr_left fun j hj => ?_
  have hj := List.mem_range.mp hj
  have hx : cei q m s ≤ cei q m s + j ∧ cei q m s + j < cei q m (s + l) := ⟨by omega, by omega⟩
  obtain ⟨p1, p2⟩ := (pair_in (by omega) (hc _)).mpr hx
  have hyx : cei q m t + j + s / q = cei q m s + j + t / q := by omega
  have hmul : (cei q m t + j) * q + (s / q) * q = (cei q m s + j) * q + (t / q) * q := by rw [← Nat.add_mul, ← Nat.add_mul, hyx]
  have key : ∀ k, k < l → A (s + k) = A (t + k) := fun k hk => by
    have z1 := blA_at (A := A) (s := s) hk
    have z2 := blA_at (A := A) (s := t) hk
    rw [he] at z1
    exact Option.some.inj (z1.symm.trans z2)
  refine hB _ _ ?_ ?_
  · have := key ((cei q m s + j) * q + m - s) (by omega)
    rw [show s + ((cei q m s + j) * q + m - s) = (cei q m s + j) * q + m by omega] at this
    rw [this]
    congr 1
    omega
  · have := key ((cei q m s + j) * q + m + 1 - s) (by omega)
    rw [show s + ((cei q m s + j) * q + m + 1 - s) = (cei q m s + j) * q + m + 1 by omega] at this
    rw [this]
    congr 1
    omega
/-- what a value becomes: the letters whose blocks have their marked pair in it -/
def inrA (A : Nat → Nat) (q m s : Nat) (f : Nat → List Nat) (cs : List Nat) (c : Nat) : List Nat :=
  blA A (cei q m (s + ((before cs c).flatMap f).length)) (cei q m (s + ((before cs c).flatMap f).length + (f c).length) - cei q m (s + ((before cs c).flatMap f).length))
/-- put together they are a block of the same text: a shorter place -/
theorem inr_place {A : Nat → Nat} {q m : Nat} (hm : m + 1 < q) (hA : ∀ i, A i / q = i % q) (hB : ∀ x y, A (x * q + m) = A (y * q + m) → A (x * q + m + 1) = A (y * q + m + 1) → A x = A y) {f : Nat → List Nat} {cs : List Nat} {s : Nat} (h : PlA A s f cs) (hf : ∀ c ∈ cs, f c ≠ [])
    (hc : ∀ c ∈ cs, ∀ j, j * q + m + 1 ≠ s + ((before cs c).flatMap f).length + (f c).length) : ∀ (b a : List Nat), cs = a ++ b →
    b.flatMap (inrA A q m s f cs) = blA A (cei q m (s + (a.flatMap f).length)) (cei q m (s + (a.flatMap f).length + (b.flatMap f).length) - cei q m (s + (a.flatMap f).length))
  | [], a, _ => by
    rw [List.flatMap_nil, List.flatMap_nil, List.length_nil, Nat.add_zero, Nat.sub_self]
    rfl
  | c :: b, a, e => by
    have mc : c ∈ cs := by rw [e]; simp
    obtain ⟨b1, s1⟩ := before_split mc
    have r1 := PlA.res (q := q) hA (a := before cs c) (b := b1) (a' := a) (b' := b) (c := c) (f := f) (s := s) (by rw [← s1]; exact h) (s1.symm.trans e) (hf _ mc)
    have o1 := PlA.occ (A := A) (s := s) (f := f) (a := before cs c) (b := b1) (c := c) (by rw [← s1]; exact h)
    have o2 := PlA.occ (A := A) (s := s) (f := f) (a := a) (b := b) (c := c) (by rw [← e]; exact h)
    have same := in_same hm hB r1 (o1.symm.trans o2) (hc c mc)
    have ih := inr_place hm hA hB h hf hc b (a ++ [c]) (by rw [e]; simp)
    have la : ((a ++ [c]).flatMap f).length = (a.flatMap f).length + (f c).length := by simp
    rw [la, ← Nat.add_assoc] at ih
    rw [List.flatMap_cons, ih]
    show blA A _ _ ++ _ = _
    rw [show blA A (cei q m (s + ((before cs c).flatMap f).length)) (cei q m (s + ((before cs c).flatMap f).length + (f c).length) - cei q m (s + ((before cs c).flatMap f).length)) = _ from same]
    have m1 := cei_mono (q := q) (m := m) (s := s + (a.flatMap f).length) (t := s + (a.flatMap f).length + (f c).length) (by omega)
    have m2 := cei_mono (q := q) (m := m) (s := s + (a.flatMap f).length + (f c).length) (t := s + (a.flatMap f).length + (f c).length + (b.flatMap f).length) (by omega)
    have lb : ((c :: b).flatMap f).length = (f c).length + (b.flatMap f).length := by simp
    rw [lb]
    have e1 : cei q m (s + (a.flatMap f).length + (f c).length) = cei q m (s + (a.flatMap f).length) + (cei q m (s + (a.flatMap f).length + (f c).length) - cei q m (s + (a.flatMap f).length)) := by omega
    rw [show blA A (cei q m (s + (a.flatMap f).length + (f c).length)) (cei q m (s + (a.flatMap f).length + (f c).length + (b.flatMap f).length) - cei q m (s + (a.flatMap f).length + (f c).length)) = blA A (cei q m (s + (a.flatMap f).length) + (cei q m (s + (a.flatMap f).length + (f c).length) - cei q m (s + (a.flatMap f).length))) (cei q m (s + (a.flatMap f).length + (f c).length + (b.flatMap f).length) - cei q m (s + (a.flatMap f).length + (f c).length)) from by rw [← e1], blA_app]
    rw [Nat.add_assoc (s + (a.flatMap f).length)] at m2 ⊢
    congr 1
    omega
end Mo

/-! ### descents: the groups, the greatest distance first, are steps -/
namespace Mo
/-- what is left when the groups of these distances are deleted -/
def lefD (st : Nat → Nat) (nm ds cs : List Nat) : List Nat := cs.filter fun c => !(decide (c ∈ nm) && decide (st c ∈ ds))
def grpD (st : Nat → Nat) (nm : List Nat) (d : Nat) : List Nat := nm.filter fun x => decide (st x = d)
theorem dsc_steps {st en : Nat → Nat} {cs nm ds : List Nat} (hs : nm.Pairwise (· < ·)) (hm : ∀ x ∈ nm, x ∈ cs ∧ st x < en x) (ha : ∀ e ∈ nbr cs, st e.2 = en e.1) (hd : ds.Pairwise (· > ·)) (hn : ∀ d ∈ ds, ∃ x ∈ nm, st x = d) :
    ∀ n, n ≤ ds.length → Steps cs ((ds.take n).map (grpD st nm)) (lefD st nm (ds.take n) cs)
  | 0, _ => by
    have e : lefD st nm (ds.take 0) cs = cs := by
      unfold lefD
      rw [List.take_zero]
      exact List.filter_eq_self.mpr fun a _ => by simp
    rw [e]
    exact .nil
  | n + 1, h => by
    have ih := dsc_steps hs hm ha hd hn n (by omega)
    have hg : ds[n]? = some ds[n] := List.getElem?_eq_getElem (by omega)
    have et : ds.take (n + 1) = ds.take n ++ [ds[n]] := by rw [List.take_add_one, hg]; rfl
    have ep : ds = ds.take n ++ ds[n] :: ds.drop (n + 1) := by
      conv => lhs; rw [← List.take_append_drop n ds, List.drop_eq_getElem_cons (by omega)]
    have above := groups_above hd ep
    have em : ∀ x, x ∈ grpD st nm ds[n] ↔ x ∈ nm ∧ st x = ds[n] := fun x => by
      unfold grpD
      rw [List.mem_filter, decide_eq_true_eq]
    have el : lefD st nm (ds.take (n + 1)) cs = wo (lefD st nm (ds.take n) cs) (grpD st nm ds[n]) := by
      unfold lefD wo
      rw [List.filter_filter]
      refine List.filter_congr fun c _ => ?_
      have mm : st c ∈ ds.take (n + 1) ↔ st c ∈ ds.take n ∨ st c = ds[n] := by rw [et, List.mem_append, List.mem_singleton]
      have me := em c
      refine Bool.eq_iff_iff.mpr ?_
      simp only [Bool.and_eq_true, Bool.not_eq_true', Bool.and_eq_false_iff, decide_eq_true_eq, decide_eq_false_iff_not]
      rw [mm, me]
      by_cases h1 : c ∈ nm <;> by_cases h2 : st c ∈ ds.take n <;> by_cases h3 : st c = ds[n] <;> simp only [h1, h2, h3, not_true, not_false_iff, true_and, and_true, true_or, or_true, false_or, or_false, and_false, false_and, or_self, and_self]
    rw [el, et, List.map_append]
    refine Steps.snoc ih ?_ (hs.filter _) (fun x hx => ?_) ?_
    · obtain ⟨x, hx, e⟩ := hn _ (List.getElem_mem (by omega : n < ds.length))
      exact List.ne_nil_of_mem ((em x).mpr ⟨hx, e⟩)
    · obtain ⟨h1, h2⟩ := (em x).mp hx
      unfold lefD
      rw [List.mem_filter]
      refine ⟨(hm x h1).1, ?_⟩
      have z : st x ∉ ds.take n := fun z => by have := above _ z; omega
      simp [z]
    · refine dsc_free (st := st) (en := en) (th := ds[n]) (del := fun c => decide (c ∈ nm) && decide (st c ∈ ds.take n)) (fun x hx => ?_) ha fun x hx => ?_
      · simp only [Bool.and_eq_true, decide_eq_true_eq] at hx
        exact ⟨above _ hx.2, (hm x hx.1).2⟩
      · obtain ⟨h1, h2⟩ := (em x).mp hx
        exact ⟨h2, (hm x h1).2⟩
theorem flat_keep {f : Nat → List Nat} : ∀ cs : List Nat, (cs.filter fun c => !decide (f c = [])).flatMap f = cs.flatMap f
  | [] => rfl
  | c :: t => by
    by_cases h : f c = []
    · rw [List.filter_cons_of_neg (by simp [h]), List.flatMap_cons, h, List.nil_append]
      exact flat_keep t
    · rw [List.filter_cons_of_pos (by simp [h]), List.flatMap_cons, List.flatMap_cons, flat_keep t]
/-- one descent: free groups, and a shorter place of what is left -/
theorem descent {A : Nat → Nat} {q m : Nat} (hm : m + 1 < q) (hA : ∀ i, A i / q = i % q) (hB : ∀ x y, A (x * q + m) = A (y * q + m) → A (x * q + m + 1) = A (y * q + m + 1) → A x = A y) {f : Nat → List Nat} {cs nm ds : List Nat} {s : Nat} (h : PlA A s f cs) (hf : ∀ c ∈ cs, f c ≠ [])
    (hi : ∀ c ∈ cs, inO q m s f cs c ≠ 0) (ho : ∀ c ∈ cs, fiO q m s f cs c ≠ 0) (hs : nm.Pairwise (· < ·)) (hn : ∀ x, x ∈ nm ↔ x ∈ cs ∧ inrA A q m s f cs x = []) (hd : ds.Pairwise (· > ·)) (hx : ∀ d, d ∈ ds ↔ ∃ x ∈ nm, inO q m s f cs x = d) :
    Steps cs (ds.map (grpD (inO q m s f cs) nm)) (cs.filter fun c => !decide (inrA A q m s f cs c = [])) ∧ PlA A (cei q m s) (inrA A q m s f cs) (cs.filter fun c => !decide (inrA A q m s f cs c = [])) := by
  have hq : 0 < q := by omega
  have hc : ∀ c ∈ cs, ∀ j, j * q + m + 1 ≠ s + ((before cs c).flatMap f).length + (f c).length := fun c mc j e => by
    refine ho c mc ?_
    unfold fiO offq
    rw [← e, show j * q + m + 1 + (q - 1 - m) = q + j * q by omega, Nat.add_mul_mod_self_right, Nat.mod_self]
  refine ⟨?_, ?_⟩
  · have small : ∀ x ∈ nm, x ∈ cs ∧ inO q m s f cs x < fiO q m s f cs x := fun x hxn => by
      obtain ⟨mc, e0⟩ := (hn x).mp hxn
      refine ⟨mc, ?_⟩
      have hl : 0 < (f x).length := List.length_pos_iff.mpr (hf x mc)
      have el : cei q m (s + ((before cs x).flatMap f).length + (f x).length) - cei q m (s + ((before cs x).flatMap f).length) = 0 := by
        have := congrArg List.length e0
        unfold inrA at this
        rw [blA_len] at this
        exact this
      have mo := cei_mono (q := q) (m := m) (s := s + ((before cs x).flatMap f).length) (t := s + ((before cs x).flatMap f).length + (f x).length) (by omega)
      have so := small_off (q := q) (m := m) (s := s + ((before cs x).flatMap f).length) (l := (f x).length) (by omega) (hi x mc) (ho x mc) hl (by omega)
      unfold inO fiO
      rw [so]
      omega
    have st := dsc_steps hs small (st_en hA h hf) hd (fun d hd' => (hx d).mp hd') ds.length (Nat.le_refl _)
    rw [List.take_length] at st
    have e : lefD (inO q m s f cs) nm ds cs = cs.filter fun c => !decide (inrA A q m s f cs c = []) := by
      unfold lefD
      refine List.filter_congr fun c mc => ?_
      by_cases z : inrA A q m s f cs c = []
      · have z1 : c ∈ nm := (hn c).mpr ⟨mc, z⟩
        have z2 : inO q m s f cs c ∈ ds := (hx _).mpr ⟨c, z1, rfl⟩
        simp [z, z1, z2]
      · have z1 : c ∉ nm := fun y => z ((hn c).mp y).2
        simp [z, z1]
    rw [e] at st
    exact st
  · have p := inr_place hm hA hB h hf hc cs [] rfl
    unfold PlA
    rw [flat_keep, p, blA_len]
    simp
/-- the block becomes shorter -/
theorem cei_less {q m s n : Nat} (hm : m + 1 < q) (hn : 0 < n) (he : ∀ j, j * q + m + 1 ≠ s + n) : cei q m (s + n) - cei q m s < n := by
  by_cases k0 : cei q m (s + n) ≤ cei q m s
  · omega
  have p0 := (pair_in (q := q) (m := m) (s := s) (e := s + n) (j := cei q m s) (by omega) (he _)).mpr ⟨Nat.le_refl _, by omega⟩
  have p1 := (pair_in (q := q) (m := m) (s := s) (e := s + n) (j := cei q m (s + n) - 1) (by omega) (he _)).mpr ⟨by omega, by omega⟩
  have e : cei q m (s + n) - 1 = cei q m s + (cei q m (s + n) - 1 - cei q m s) := by omega
  have w : (cei q m (s + n) - 1) * q = cei q m s * q + (cei q m (s + n) - 1 - cei q m s) * q := by rw [← Nat.add_mul, ← e]
  have v : cei q m (s + n) - 1 - cei q m s ≤ (cei q m (s + n) - 1 - cei q m s) * q := Nat.le_mul_of_pos_right _ (by omega)
  generalize (cei q m (s + n) - 1 - cei q m s) * q = Z at *
  generalize (cei q m (s + n) - 1) * q = Y at *
  omega
end Mo

/-! ### descents one after the other: a place gives steps to nothing -/
namespace Mo
end Mo

/-! ### dicts keyed by single letters, dicts keyed by numbers -/
namespace Mo
open PySem PySem.Spec PyProof.Rows L2
/-- a dict of single letters -/
def oneD (ns : List Nat) (v : Nat → V) : List (List Nat × V) := ns.map fun c => ([c], v c)
theorem one_keys (ns : List Nat) (v : Nat → V) : (oneD ns v).map (·.1) = ns.map fun c => [c] := by
  unfold oneD
  rw [List.map_map]
  rfl
theorem one_nd {ns : List Nat} (h : ns.Nodup) : (ns.map fun c => [c]).Nodup := by
  unfold List.Nodup
  rw [List.pairwise_map]
  exact h.imp fun h e => h (List.cons.inj e).1
theorem one_no {ns : List Nat} {c : Nat} (h : c ∉ ns) : ([c] : List Nat) ∉ ns.map fun c => [c] := fun z => by
  obtain ⟨x, hx, e⟩ := List.mem_map.mp z
  exact h ((List.cons.inj e).1 ▸ hx)
theorem one_get {ns : List Nat} {v : Nat → V} (nd : ns.Nodup) {c : Nat} (hc : c ∈ ns) : valV (dk (oneD ns v)) (Sum.inr (tx [c]) : Key) = some (v c) := by
  obtain ⟨k, hk⟩ := List.getElem?_of_mem hc
  exact dk_some (D := oneD ns v) (p := [c]) (v := v c) (k := k) (by rw [one_keys]; exact one_nd nd) (by unfold oneD; rw [List.getElem?_map, hk]; rfl)
theorem one_none {ns : List Nat} {v : Nat → V} {c : Nat} (hc : c ∉ ns) : valV (dk (oneD ns v)) (Sum.inr (tx [c]) : Key) = none := dk_none (p := [c]) (by rw [one_keys]; exact one_no hc)
theorem one_put {ns : List Nat} {v : Nat → V} {c : Nat} (hc : c ∉ ns) : putK (dk (oneD ns v)) (Sum.inr (tx [c]) : Key) (v c) = dk (oneD (ns ++ [c]) v) := by
  rw [dk_put (p := [c]) (by rw [one_keys]; exact one_no hc)]
  unfold oneD
  rw [List.map_append]
  rfl
theorem one_len (ns : List Nat) (v : Nat → V) : (dk (oneD ns v)).length = ns.length := by
  rw [dk_len]
  unfold oneD
  exact List.length_map ..
theorem one_at {ns : List Nat} {v : Nat → V} {i : Nat} {k : Key} {x : V} (h : (dk (oneD ns v))[i]? = some (k, x)) : ∃ c, ns[i]? = some c ∧ k = Sum.inr (tx [c]) ∧ x = v c := by
  unfold dk oneD at h
  rw [List.map_map, List.getElem?_map] at h
  obtain ⟨c, h1, h2⟩ := Option.map_eq_some_iff.mp h
  cases h2
  exact ⟨c, h1, rfl, rfl⟩
/-- a dict of numbers -/
def numD (ds : List Nat) (v : Nat → V) : List (Key × V) := ds.map fun d => (Sum.inl ((d : Nat) : Int), v d)
theorem num_key {a b : Nat} : ((Sum.inl ((a : Nat) : Int) : Key) = Sum.inl ((b : Nat) : Int)) ↔ a = b := ⟨fun h => by have := Sum.inl.inj h; omega, fun h => by rw [h]⟩
theorem num_get {v : Nat → V} : ∀ {ds : List Nat} {e : Nat}, valV (numD ds v) (Sum.inl ((e : Nat) : Int)) = if e ∈ ds then some (v e) else none
  | [], e => by rw [if_neg (by simp)]; rfl
  | d :: ds, e => by
    have ih := num_get (v := v) (ds := ds) (e := e)
    by_cases h : d = e
    · subst h
      rw [if_pos List.mem_cons_self]
      exact valV_pos (p := (Sum.inl ((d : Nat) : Int), v d)) rfl
    · have h2 : ¬ (Sum.inl ((d : Nat) : Int) : Key) = Sum.inl ((e : Nat) : Int) := fun z => h (num_key.mp z)
      refine (valV_neg (p := (Sum.inl ((d : Nat) : Int), v d)) h2).trans ?_
      show valV (numD ds v) _ = _
      rw [ih]
      by_cases h3 : e ∈ ds
      · rw [if_pos h3, if_pos (List.mem_cons_of_mem _ h3)]
      · rw [if_neg h3, if_neg (fun z => (List.mem_cons.mp z).elim (fun z => h z.symm) h3)]
theorem num_put {v : Nat → V} {ds : List Nat} {e : Nat} {x : V} : putK (numD ds v) (Sum.inl ((e : Nat) : Int)) x = numD (metStep ds e) fun d => if d = e then x else v d := by
  have nope : ∀ l : List Nat, e ∉ l → numD l (fun d => if d = e then x else v d) = numD l v := fun l hl => by
    unfold numD
    refine List.map_congr_left fun d hd => ?_
    dsimp only
    rw [if_neg (fun z : d = e => hl (z ▸ hd))]
  by_cases h : e ∈ ds
  · unfold metStep
    rw [if_pos h]
    unfold putK
    rw [valV_any, num_get, if_pos h, if_pos (show (some (v e)).isSome = true from rfl)]
    unfold numD
    rw [List.map_map]
    refine List.map_congr_left fun d _ => ?_
    show (if (Sum.inl ((d : Nat) : Int) : Key) = Sum.inl ((e : Nat) : Int) then (Sum.inl ((d : Nat) : Int), x) else (Sum.inl ((d : Nat) : Int), v d)) = (Sum.inl ((d : Nat) : Int), if d = e then x else v d)
    by_cases h2 : d = e
    · rw [if_pos (num_key.mpr h2), if_pos h2]
    · rw [if_neg (fun z => h2 (num_key.mp z)), if_neg h2]
  · unfold metStep
    rw [if_neg h, putK_new _ (by rw [num_get, if_neg h])]
    have e2 : numD (ds ++ [e]) (fun d => if d = e then x else v d) = numD ds (fun d => if d = e then x else v d) ++ [(Sum.inl ((e : Nat) : Int), if e = e then x else v e)] := List.map_append ..
    rw [if_pos (rfl : e = e)] at e2
    rw [e2, nope _ h]
theorem num_len (ds : List Nat) (v : Nat → V) : (numD ds v).length = ds.length := List.length_map ..
theorem num_keys (ds : List Nat) (v : Nat → V) : (numD ds v).map (·.1) = (ds.map fun d => ((d : Nat) : Int)).map fun n => (Sum.inl n : Key) := by
  unfold numD
  rw [List.map_map, List.map_map]
  rfl
/-! ### the letters as ints; where a value stands first -/
def intL (l : List Nat) : List Int := l.map fun n => ((n : Nat) : Int)
theorem intL_len (l : List Nat) : (intL l).length = l.length := List.length_map ..
theorem intL_inj : ∀ {a b : List Nat}, intL a = intL b → a = b
  | [], [], _ => rfl
  | [], _ :: _, h => by cases h
  | _ :: _, [], h => by cases h
  | x :: a, y :: b, h => by
    have h := List.cons.inj h
    rw [intL_inj h.2, show x = y from Int.ofNat.inj h.1]
theorem intL_app (a b : List Nat) : intL (a ++ b) = intL a ++ intL b := List.map_append ..
theorem intL_nil {l : List Nat} : intL l = [] ↔ l = [] := ⟨fun h => intL_inj (b := []) h, fun h => by rw [h]; rfl⟩
theorem intL_flat (g : Nat → List Nat) : ∀ cs : List Nat, cs.flatMap (fun c => intL (g c)) = intL (cs.flatMap g)
  | [] => rfl
  | c :: cs => by rw [List.flatMap_cons, List.flatMap_cons, intL_app, intL_flat g cs]
theorem intL_at {l : List Nat} {i n : Nat} (h : l[i]? = some n) : ((intL l).map V.int)[i]? = some (.int ((n : Nat) : Int)) := by
  unfold intL
  rw [List.getElem?_map, List.getElem?_map, h]
  rfl
def staN (s : Nat) (g : Nat → List Nat) (cs : List Nat) (c : Nat) : Nat := s + ((before cs c).flatMap g).length
theorem before_take : ∀ {cs : List Nat} {i c : Nat}, cs[i]? = some c → c ∉ cs.take i → before cs c = cs.take i
  | [], i, c, h, _ => by simp at h
  | x :: t, 0, c, h, _ => by
    obtain rfl : x = c := Option.some.inj h
    unfold before
    rw [List.takeWhile_cons_of_neg (by simp)]
    rfl
  | x :: t, i + 1, c, h, hn => by
    have hne : x ≠ c := fun e => hn (by rw [List.take_succ_cons, e]; exact List.mem_cons_self)
    have ih := before_take (cs := t) (i := i) (c := c) h (fun z => hn (by rw [List.take_succ_cons]; exact List.mem_cons_of_mem _ z))
    unfold before at *
    rw [List.takeWhile_cons_of_pos (by simp [hne]), List.take_succ_cons, ih]
theorem flat_takeN {g : Nat → List Nat} {cs : List Nat} {i c : Nat} (h : cs[i]? = some c) : (cs.take (i + 1)).flatMap g = (cs.take i).flatMap g ++ g c := by
  rw [List.take_add_one, h, List.flatMap_append]
  simp
theorem sta_le {s : Nat} {g : Nat → List Nat} {cs : List Nat} {c : Nat} (h : c ∈ cs) : staN s g cs c + (g c).length ≤ s + (cs.flatMap g).length := by
  obtain ⟨b, hb⟩ := before_split h
  unfold staN
  conv => rhs; rw [hb, List.flatMap_append, List.flatMap_cons, List.length_append, List.length_append]
  omega
end Mo

/-! ### labels of nodes: a dict whose keys are pairs of a letter and a side -/
namespace Mo
open PySem PySem.Spec PyProof.Rows L2
def kN (s c : Nat) : List Key := [Sum.inr (tx [c]), Sum.inl ((s : Nat) : Int)]
def labD (ns : List Nat) (lab : Nat → Nat → Nat) : List (List Key × V) := ns.flatMap fun c => [(kN 0 c, V.int ((lab 0 c : Nat) : Int)), (kN 1 c, V.int ((lab 1 c : Nat) : Int))]
theorem kN_inj {s c s' c' : Nat} (h : kN s c = kN s' c') : s = s' ∧ c = c' := by
  unfold kN at h
  have h1 := (List.cons.inj h).1
  have h2 := (List.cons.inj (List.cons.inj h).2).1
  have e1 := tx_inj (Sum.inr.inj h1)
  have e2 := Sum.inl.inj h2
  exact ⟨by omega, (List.cons.inj e1).1⟩
theorem lab_len (ns : List Nat) (lab : Nat → Nat → Nat) : (labD ns lab).length = 2 * ns.length := by
  unfold labD
  induction ns with
  | nil => rfl
  | cons c ns ih =>
    rw [List.flatMap_cons, List.length_append, ih, List.length_cons]
    show 2 + 2 * ns.length = 2 * (ns.length + 1)
    omega
theorem lab_cons (c : Nat) (ns : List Nat) (lab : Nat → Nat → Nat) : labD (c :: ns) lab = (kN 0 c, V.int ((lab 0 c : Nat) : Int)) :: (kN 1 c, V.int ((lab 1 c : Nat) : Int)) :: labD ns lab := by
  unfold labD
  rw [List.flatMap_cons]
  rfl
theorem lab_get {lab : Nat → Nat → Nat} {s : Nat} (hs : s < 2) : ∀ {ns : List Nat} {c : Nat}, c ∈ ns → valV (labD ns lab) (kN s c) = some (.int ((lab s c : Nat) : Int))
  | x :: ns, c, h => by
    rw [lab_cons]
    by_cases e : x = c
    · subst e
      rcases (show s = 0 ∨ s = 1 by omega) with rfl | rfl
      · exact valV_pos rfl
      · rw [valV_neg (fun z => by have := (kN_inj z).1; omega)]
        exact valV_pos rfl
    · rw [valV_neg (fun z => e (kN_inj z).2), valV_neg (fun z => e (kN_inj z).2)]
      exact lab_get hs ((List.mem_cons.mp h).resolve_left fun z => e z.symm)
theorem lab_none {lab : Nat → Nat → Nat} {s : Nat} : ∀ {ns : List Nat} {c : Nat}, c ∉ ns → valV (labD ns lab) (kN s c) = none
  | [], c, _ => rfl
  | x :: ns, c, h => by
    have e : x ≠ c := fun z => h (z ▸ List.mem_cons_self)
    rw [lab_cons, valV_neg (fun z => e (kN_inj z).2), valV_neg (fun z => e (kN_inj z).2)]
    exact lab_none fun z => h (List.mem_cons_of_mem _ z)
/-- a label changed -/
def setN (lab : Nat → Nat → Nat) (s c v : Nat) : Nat → Nat → Nat := fun s' c' => if s' = s ∧ c' = c then v else lab s' c'
theorem lab_map {lab : Nat → Nat → Nat} {s c v : Nat} : ∀ ns : List Nat, (labD ns lab).map (fun kv => if kv.1 = kN s c then (kv.1, V.int ((v : Nat) : Int)) else kv) = labD ns (setN lab s c v)
  | [] => rfl
  | x :: ns => by
    rw [lab_cons, lab_cons, List.map_cons, List.map_cons, lab_map ns]
    have one : ∀ t, (if kN t x = kN s c then (kN t x, V.int ((v : Nat) : Int)) else (kN t x, V.int ((lab t x : Nat) : Int))) = (kN t x, V.int ((setN lab s c v t x : Nat) : Int)) := fun t => by
      unfold setN
      by_cases e : t = s ∧ x = c
      · rw [if_pos e, if_pos (by rw [e.1, e.2])]
      · rw [if_neg e, if_neg (fun z => e (kN_inj z))]
    have o0 := one 0
    have o1 := one 1
    exact congr (congrArg List.cons o0) (congrArg (· :: labD ns (setN lab s c v)) o1)
theorem lab_put {lab : Nat → Nat → Nat} {s c v : Nat} {ns : List Nat} (hs : s < 2) (h : c ∈ ns) : putK (labD ns lab) (kN s c) (.int ((v : Nat) : Int)) = labD ns (setN lab s c v) := by
  unfold putK
  rw [valV_any, lab_get hs h, if_pos (show (some (V.int ((lab s c : Nat) : Int))).isSome = true from rfl)]
  exact lab_map ns
theorem lab_new {lab : Nat → Nat → Nat} {c : Nat} {ns : List Nat} (h : c ∉ ns) : putK (putK (labD ns lab) (kN 0 c) (.int ((lab 0 c : Nat) : Int))) (kN 1 c) (.int ((lab 1 c : Nat) : Int)) = labD (ns ++ [c]) lab := by
  rw [putK_new _ (lab_none h), putK_new]
  · unfold labD
    rw [List.flatMap_append, List.append_assoc]
    rfl
  · have key : ∀ (kvs : List (List Key × V)) (k k' : List Key) (v : V), valV kvs k = none → k' ≠ k → valV (kvs ++ [(k', v)]) k = none := fun kvs => by
      induction kvs with
      | nil =>
        intro k k' v _ hk
        exact valV_neg hk
      | cons a kvs ih =>
        intro k k' v h0 hk
        by_cases e : a.1 = k
        · rw [valV_pos e] at h0
          cases h0
        · rw [valV_neg e] at h0
          rw [List.cons_append, valV_neg e]
          exact ih k k' v h0 hk
    exact key _ _ _ _ (lab_none h) fun z => by have := (kN_inj z).1; omega
theorem lab_keys {lab : Nat → Nat → Nat} {ns : List Nat} {k : List Key} (h : k ∈ (labD ns lab).map (·.1)) : ∃ s c, s < 2 ∧ c ∈ ns ∧ k = kN s c := by
  obtain ⟨kv, h1, rfl⟩ := List.mem_map.mp h
  unfold labD at h1
  obtain ⟨c, hc, h2⟩ := List.mem_flatMap.mp h1
  simp only [List.mem_cons, List.not_mem_nil, or_false] at h2
  rcases h2 with rfl | rfl
  · exact ⟨0, c, by decide, hc, rfl⟩
  · exact ⟨1, c, by decide, hc, rfl⟩
/-! what equal labels tell -/
def ndL (s c : Nat) : Nd := (decide (s = 1), c)
def Snd (es : List (Nat × Nat)) (lab : Nat → Nat → Nat) (ns : List Nat) : Prop := ∀ s c s' c', s < 2 → s' < 2 → c ∈ ns → c' ∈ ns → lab s c = lab s' c' → Cn es (ndL s c) (ndL s' c')
theorem snd_step {es : List (Nat × Nat)} {lab lab' : Nat → Nat → Nat} {ns : List Nat} {x y : Nat} (h : Snd es lab ns) (hx : x ∈ ns) (hy : y ∈ ns) (he : (x, y) ∈ es) (st : ∀ s c, lab' s c = lab s c ∨ (lab s c = lab 0 x ∧ lab' s c = lab 1 y)) : Snd es lab' ns := by
  have edge : Cn es (ndL 0 x) (ndL 1 y) := .l2r (.refl _) he
  intro s c s' c' hs hs' hc hc' e
  rcases st s c with a | ⟨a1, a2⟩ <;> rcases st s' c' with b | ⟨b1, b2⟩
  · exact h s c s' c' hs hs' hc hc' (by rw [← a, ← b]; exact e)
  · have h1 := h s c 1 y hs (by decide) hc hy (by rw [← a, e, b2])
    have h2 := h s' c' 0 x hs' (by decide) hc' hx b1
    exact (h1.trans edge.symm).trans h2.symm
  · have h1 := h s' c' 1 y hs' (by decide) hc' hy (by rw [← b, ← e, a2])
    have h2 := h s c 0 x hs (by decide) hc hx a1
    exact (h2.trans edge).trans h1.symm
  · exact (h s c 0 x hs (by decide) hc hx a1).trans (h s' c' 0 x hs' (by decide) hc' hx b1).symm
theorem nbr_get {cs : List Nat} {i x y : Nat} (h1 : cs[i]? = some x) (h2 : cs[i + 1]? = some y) : (x, y) ∈ nbr cs := by
  induction cs generalizing i with
  | nil => simp at h1
  | cons c t ih =>
    cases t with
    | nil =>
      cases i with
      | zero => simp at h2
      | succ i => simp at h1
    | cons d t =>
      cases i with
      | zero =>
        have e1 : c = x := Option.some.inj h1
        have e2 : d = y := Option.some.inj h2
        rw [e1, e2]
        exact List.mem_cons_self
      | succ i => exact List.mem_cons_of_mem _ (ih (i := i) h1 h2)
end Mo

/-! ### the law's look at free sets -/
namespace Mo
open PySem PySem.Spec PyProof.Rows L2
theorem ixo_at : ∀ {zs : List Nat} {i c : Nat}, zs.Nodup → zs[i]? = some c → zs.idxOf c = i
  | x :: t, 0, c, _, h => by
    obtain rfl : x = c := Option.some.inj h
    simp [List.idxOf_cons]
  | x :: t, i + 1, c, nd, h => by
    have nd2 := List.nodup_cons.mp nd
    have h2 : t[i]? = some c := h
    have ne : x ≠ c := fun z => nd2.1 (z ▸ List.mem_of_getElem? h2)
    have ih := ixo_at nd2.2 h2
    rw [List.idxOf_cons, ih, beq_eq_false_iff_ne.mpr ne]
    rfl
theorem ixo_back {zs : List Nat} {c c' : Nat} (nd : zs.Nodup) (h : c ∈ zs) (h' : c' ∈ zs) (e : zs.idxOf c = zs.idxOf c') : c = c' := by
  obtain ⟨i, hi⟩ := List.getElem?_of_mem h
  obtain ⟨j, hj⟩ := List.getElem?_of_mem h'
  rw [ixo_at nd hi, ixo_at nd hj] at e
  subst e
  exact Option.some.inj (hi.symm.trans hj)
theorem ixo_lt {zs : List Nat} {c : Nat} (nd : zs.Nodup) (h : c ∈ zs) : zs.idxOf c < zs.length := by
  obtain ⟨i, hi⟩ := List.getElem?_of_mem h
  rw [ixo_at nd hi]
  exact (List.getElem?_eq_some_iff.mp hi).1
section
variable {P : Program} {w : World} {K : PySem.W.Frag} {mg : Str → Option Value} {base : Heap}
def spCmp : Sp := fun vs H Q _ => ∃ cs : List Nat, vs = [.str (tx cs)] ∧ cs.length ≤ 40 ∧
  ∀ H' L ns lab, Same H H' → H L = none → H' L = some (.dT (labD ns lab)) → (∀ c, c ∈ ns ↔ c ∈ cs) → Snd (nbr cs) lab ns → Q (.ref L) H'
theorem ok_cmp {k : Nat} (T : Txt K mg) : FnOk P w K mg base CX0 (k + 1) T.aLComponents T.dLComponents ["_law_pattern"] spCmp := by
  refine T.fLComponents.ok scLComponents (fun vs H Q E h => ?_) (fun cdv A outer s H vs Q E hr h => ?_)
  · obtain ⟨_, rfl, _⟩ := h
    rfl
  · obtain ⟨cs, rfl, hl, q⟩ := h
    refine ⟨_, (pss_cons (ps_par (i := 1) (j := 2) (by rfl) scLComponents.nd rfl rfl (by decide) rfl rfl (pa_cons (pe_callB (Mo.cr_sortSg (P := P) (w := w) rfl rfl rfl) (by rfl) T.m_sorted (by decide +kernel) (pa_cons (pe_callTy (Mo.cr_setSg (P := P) (w := w) rfl rfl rfl) (by rfl) T.m_set (by decide +kernel) (pa_cons (pv 0) pa_nil)) pa_nil)) (pa_cons pe_dnewT pa_nil)) (by rfl))
      (pss_cons (ps_for PassesOwn.never rfl (pi_range1 (by rfl) T.m_range (pa_cons (pe_callB call_len_seq (by rfl) T.m_len PySem.boot_len (pa_cons (pv 1) pa_nil)) pa_nil)) (pg_name (i := 3) scLComponents.nd rfl (Or.inl rfl)) (pss_cons (ps_dput (Mo.room1 hr) (pv 2) (pe_tup (pa_cons (pe_ix ix_list (pv 1) (pv 3) (fun _ _ => rfl)) (pa_cons pe_int pa_nil))) (pv 3) rfl)
      (pss_one (ps_dput (Mo.room1 hr) (pv 2) (pe_tup (pa_cons (pe_ix ix_list (pv 1) (pv 3) (fun _ _ => rfl)) (pa_cons pe_int pa_nil))) (pe_op op_add (pe_callB call_len_seq (by rfl) T.m_len PySem.boot_len (pa_cons (pv 1) pa_nil)) (pv 3)) rfl))))
      (pss_cons (ps_for PassesOwn.never rfl (pi_range1 (by rfl) T.m_range (pa_cons (pe_op op_sub (pe_callB call_len_str (by rfl) T.m_len PySem.boot_len (pa_cons (pv 0) pa_nil)) pe_int) pa_nil)) (pg_name (i := 3) scLComponents.nd rfl (Or.inl rfl)) (pss_cons (ps_par (i := 5) (j := 6) (by rfl) scLComponents.nd rfl rfl (by decide) rfl rfl (pa_cons (pe_dget (Mo.room1 hr) (pv 2) (pe_tup (pa_cons (pe_ix ix_str (pv 0) (pv 3) (fun _ _ => rfl)) (pa_cons pe_int pa_nil))) (fun _ _ => rfl)) (pa_cons (pe_dget (Mo.room1 hr) (pv 2) (pe_tup (pa_cons (pe_ix ix_str (pv 0) (pe_op op_add (pv 3) pe_int) (fun _ _ => rfl)) (pa_cons pe_int pa_nil))) (fun _ _ => rfl)) pa_nil)) (by rfl))
      (pss_one (ps_for PassesOwn.never rfl (pi_list (pe_callB (Mo.cr_sortDt rfl) (by rfl) T.m_sorted (by decide +kernel) (pa_cons (pv 2) pa_nil))) (pg_name (i := 4) scLComponents.nd rfl (Or.inl rfl)) (pss_one (ps_if (pt_cmpR op_eq (pe_dget (Mo.room1 hr) (pv 2) (pv 4) (fun _ _ => rfl)) (pv 5) (nomark _)) (pss_one (ps_dput (Mo.room1 hr) (pv 2) (pv 4) (pv 6) rfl)) pss_nil))))))
      (pss_one (ps_ret (pv 2)))))), ?_⟩
    have mlen : (met cs).length ≤ 40 := Nat.le_trans (met_length_le cs) hl
    refine ⟨_, rfl, tx cs, rfl, by rw [tx_size]; omega, fun p np => ⟨p, (tx cs).cps.toList, rfl, upd_same, ?_, fun ys S pm so nS => ?_⟩⟩
    · rw [tx_list]
      omega
    have s1 := same_new (o := SetSg P w p (tx cs).cps.toList) np
    rw [tx_list] at pm
    obtain ⟨zs, pz, rfl⟩ := perm_of_map pm rfl
    have s2 := same_new (o := .lst ((zs.map fun c => (⟨#[c]⟩ : Str)).map V.str)) nS
    have hS : upd (upd H p (SetSg P w p (tx cs).cps.toList)) S (.lst ((zs.map fun c => (⟨#[c]⟩ : Str)).map V.str)) S = some (.lst (zs.map sg)) := by rw [upd_same, ← sgs_map]
    refine fun L nL => ⟨_, _, rfl, ?_⟩
    have s3 := same_new (o := HO.dT []) nL
    have s13 := (s1.trans s2).trans s3
    have nL0 : H L = none := (s1.trans s2).free nL
    have hS3 := s3 _ _ hS
    have hL3 := upd_same (H := upd (upd H p (SetSg P w p (tx cs).cps.toList)) S (.lst ((zs.map fun c => (⟨#[c]⟩ : Str)).map V.str))) (a := L) (o := HO.dT [])
    have zl : zs.length ≤ 40 := by rw [pz.length_eq]; exact mlen
    have znd : zs.Nodup := pz.nodup_iff.mpr (met_nodup cs)
    have zin : ∀ c, c ∈ zs ↔ c ∈ cs := fun c => pz.mem_iff.trans mem_met
    have SL : S ≠ L := ne_of hS3 hL3 (by intro z; cases z)
    obtain ⟨lab0, hlab⟩ : ∃ lab0 : Nat → Nat → Nat, lab0 = fun s c => s * zs.length + zs.idxOf c := ⟨_, rfl⟩
    have lenS : (zs.map sg).length = zs.length := List.length_map ..
    refine ⟨_, rfl, S, _, rfl, .inl (SqL.of hS3), zs.length, congrArg (fun z : Nat => [V.int (z : Int)]) lenS, by omega, by omega, for_range (lo := 0) (fun i σ H' => ∃ o3 o4 o5 o6 : Option V, σ = [some (.str (tx cs)), some (.ref S), some (.ref L), o3, o4, o5, o6] ∧ Same H H' ∧ H' S = some (.lst (zs.map sg)) ∧ H' L = some (.dT (labD (zs.take i) lab0))) ?_ ?_ ?_⟩
    · exact ⟨_, _, _, _, rfl, s13, hS3, hL3⟩
    · rintro i σ H1 hi ⟨o3, o4, o5, o6, rfl, t1, hS1, hL1⟩
      have hi2 : i < zs.length := hi
      have hc : zs[i]? = some zs[i] := List.getElem?_eq_getElem hi2
      generalize zs[i] = c at hc
      have cni : c ∉ zs.take i := fun z => by
        have nd := znd
        rw [← List.take_append_drop (i + 1) zs, List.take_add_one, hc, List.append_assoc] at nd
        exact (List.nodup_append.mp nd).2.2 c z c (by simp) rfl
      have ic : zs.idxOf c = i := ixo_at znd hc
      have ll := lab_len (zs.take i) lab0
      rw [List.length_take] at ll
      have a1 : atI (zs.map sg) (0 + (i : Int)) = some (sg c) := by rw [Int.zero_add]; exact atI_nat (by rw [List.getElem?_map, hc]; rfl)
      -- side 0
      refine ⟨_, rfl, _, rfl, _, rfl, _, rfl, S, _, _, _, rfl, rfl, SqL.of hS1, a1, by show 2 ≤ sizeLine; decide, fun b1 nb1 => ?_⟩
      have u1 := same_new (o := .tup [sg c, V.int 0]) nb1
      have hb1 : upd H1 b1 (.tup [sg c, V.int 0]) b1 = some (.tup ((kN 0 c).map kV)) := upd_same
      have hL2 := u1 _ _ hL1
      have hS2 := u1 _ _ hS1
      have t2 := t1.trans u1
      have b1L : b1 ≠ L := fun z => by rw [z, hL1] at nb1; cases nb1
      generalize upd H1 b1 (.tup [sg c, V.int 0]) = H2 at *
      refine ⟨L, _, rfl, DPut.t (k := kN 0 c) hL2 hb1 (fitsLt (by omega)), ?_⟩
      have hS3' : upd H2 L (.dT (putK (labD (zs.take i) lab0) (kN 0 c) (V.int (0 + (i : Int))))) S = some (.lst (zs.map sg)) := by rw [upd_ne SL]; exact hS2
      have hL3' := upd_same (H := H2) (a := L) (o := HO.dT (putK (labD (zs.take i) lab0) (kN 0 c) (V.int (0 + (i : Int)))))
      have t3 : Same H (upd H2 L (.dT (putK (labD (zs.take i) lab0) (kN 0 c) (V.int (0 + (i : Int)))))) := Same.put t2 nL0
      generalize upd H2 L (.dT (putK (labD (zs.take i) lab0) (kN 0 c) (V.int (0 + (i : Int))))) = H3 at *
      -- side 1
      refine ⟨_, rfl, S, _, rfl, .inl (SqL.of hS3'), _, rfl, _, _, rfl, rfl, _, rfl, _, rfl, _, rfl, S, _, _, _, rfl, rfl, SqL.of hS3', a1, by show 2 ≤ sizeLine; decide, fun b2 nb2 => ?_⟩
      have u2 := same_new (o := .tup [sg c, V.int 1]) nb2
      have hb2 : upd H3 b2 (.tup [sg c, V.int 1]) b2 = some (.tup ((kN 1 c).map kV)) := upd_same
      have hL4 := u2 _ _ hL3'
      have hS4 := u2 _ _ hS3'
      have t4 := t3.trans u2
      generalize upd H3 b2 (.tup [sg c, V.int 1]) = H4 at *
      have pl := length_putK (labD (zs.take i) lab0) (kN 0 c) (V.int (0 + (i : Int)))
      refine ⟨L, _, rfl, DPut.t (k := kN 1 c) hL4 hb2 (fitsLt (by omega)), ?_⟩
      refine ⟨_, _, _, _, rfl, Same.put t4 nL0, by rw [upd_ne SL]; exact hS4, ?_⟩
      have e0 : V.int (0 + (i : Int)) = V.int ((lab0 0 c : Nat) : Int) := congrArg V.int (by rw [hlab]; dsimp only; rw [ic]; omega)
      have e1 : V.int (((zs.map sg).length : Int) + (0 + (i : Int))) = V.int ((lab0 1 c : Nat) : Int) := congrArg V.int (by rw [hlab, lenS]; dsimp only; rw [ic]; omega)
      rw [upd_same]
      refine congrArg (fun z => some (HO.dT z)) ?_
      rw [List.take_add_one, hc, show (some c).toList = [c] from rfl, ← lab_new cni, ← e0, ← e1]
    · rintro σ H1 ⟨o3, o4, o5, o6, rfl, t1, hS1, hL1⟩
      rw [Int.toNat_natCast, List.take_length] at hL1
      have tl : (tx cs).length = cs.length := tx_len cs
      refine ⟨_, rfl, _, rfl, by rw [tl]; exact fits5 (by omega), _, 1, rfl, rfl, _, rfl, by rw [tl]; omega, by rw [tl]; omega, for_range (lo := 0) (fun i σ H' => ∃ (lab : Nat → Nat → Nat) (o3 o4 o5 o6 : Option V), σ = [some (.str (tx cs)), some (.ref S), some (.ref L), o3, o4, o5, o6] ∧ Same H H' ∧ H' L = some (.dT (labD zs lab)) ∧ Snd (nbr cs) lab zs) ?_ ?_ ?_⟩
      · refine ⟨lab0, _, _, _, _, rfl, t1, hL1, fun s c s' c' hs hs' hc hc' e => ?_⟩
        rw [hlab] at e
        dsimp only at e
        have i1 := ixo_lt znd hc
        have i2 := ixo_lt znd hc'
        have es : s = s' := by
          rcases (show s = 0 ∨ s = 1 by omega) with rfl | rfl <;> rcases (show s' = 0 ∨ s' = 1 by omega) with rfl | rfl <;> omega
        subst es
        have ec := ixo_back znd hc hc' (by omega)
        subst ec
        exact .refl _
      · rintro i σ H2 hi ⟨lab, o3, o4, o5, o6, rfl, t2, hL2, snd⟩
        have hi2 : i + 1 < cs.length := by
          have : i < (((tx cs).length : Int) - 1).toNat := hi
          rw [tl] at this
          omega
        obtain ⟨x, hx⟩ : ∃ x, cs[i]? = some x := ⟨_, List.getElem?_eq_getElem (by omega)⟩
        obtain ⟨y, hy⟩ : ∃ y, cs[i + 1]? = some y := ⟨_, List.getElem?_eq_getElem hi2⟩
        have xz := (zin x).mpr (List.mem_of_getElem? hx)
        have yz := (zin y).mpr (List.mem_of_getElem? hy)
        refine ⟨_, rfl, _, rfl, _, rfl, tx cs, _, x, rfl, rfl, by rw [tl]; exact fits5 (by omega), by rw [Int.zero_add, tx_list]; exact atI_nat hx, by show 2 ≤ sizeLine; decide, fun b1 nb1 => ?_⟩
        have u1 := same_new (o := .tup [sg x, V.int 0]) nb1
        have hb1 : upd H2 b1 (.tup [sg x, V.int 0]) b1 = some (.tup ((kN 0 x).map kV)) := upd_same
        have hL3 := u1 _ _ hL2
        have t3 := t2.trans u1
        generalize upd H2 b1 (.tup [sg x, V.int 0]) = H3 at *
        have g1 := DGet.t (k := kN 0 x) hL3 hb1
        rw [lab_get (by decide) xz] at g1
        refine ⟨L, _, rfl, g1, ?_⟩
        refine ⟨_, rfl, _, rfl, _, rfl, _, 1, rfl, rfl, tx cs, ((i + 1 : Nat) : Int), y, rfl, congrArg V.int (by omega), by rw [tl]; exact fits5 (by omega), by rw [tx_list]; exact atI_nat hy, by show 2 ≤ sizeLine; decide, fun b2 nb2 => ?_⟩
        have u2 := same_new (o := .tup [sg y, V.int 1]) nb2
        have hb2 : upd H3 b2 (.tup [sg y, V.int 1]) b2 = some (.tup ((kN 1 y).map kV)) := upd_same
        have hL4 := u2 _ _ hL3
        have t4 := t3.trans u2
        generalize upd H3 b2 (.tup [sg y, V.int 1]) = H4 at *
        have g2 := DGet.t (k := kN 1 y) hL4 hb2
        rw [lab_get (by decide) yz] at g2
        refine ⟨L, _, rfl, g2, _, _, rfl, ?_⟩
        -- the nodes in turn
        refine ⟨_, rfl, L, _, rfl, hL4, fun kv hkv => ?_, fun LL R pmk hk nR => ⟨R, rfl, ⟨_, SqL.of upd_same⟩, ?_⟩⟩
        · obtain ⟨s0, c0, _, _, e⟩ := lab_keys (List.mem_map.mpr ⟨kv, hkv, rfl⟩)
          exact ⟨_, _, e⟩
        have u3 := same_new (o := .lst (LL.map fun q => V.ref q.1)) nR
        have hR := upd_same (H := H4) (a := R) (o := .lst (LL.map fun q => V.ref q.1))
        have hL5 := u3 _ _ hL4
        have t5 := t4.trans u3
        have RL : R ≠ L := ne_of hR hL5 (by intro z; cases z)
        have hk5 : ∀ q ∈ LL, upd H4 R (.lst (LL.map fun q => V.ref q.1)) q.1 = some (.tup (q.2.map kV)) := fun q hq => u3 _ _ (hk q hq)
        have kq : ∀ q ∈ LL, ∃ s0 c0, s0 < 2 ∧ c0 ∈ zs ∧ q.2 = kN s0 c0 := fun q hq => lab_keys (pmk.mem_iff.mp (List.mem_map.mpr ⟨q, hq, rfl⟩))
        have qL : ∀ q ∈ LL, q.1 ≠ L := fun q hq => ne_of (hk5 q hq) hL5 (by intro z; cases z)
        generalize upd H4 R (.lst (LL.map fun q => V.ref q.1)) = H5 at *
        refine for_it (walk_list (xs := LL.map fun q => V.ref q.1)) (fun j σ H' => ∃ (lab' : Nat → Nat → Nat) (o3 o4 : Option V), σ = [some (.str (tx cs)), some (.ref S), some (.ref L), o3, o4, some (.int ((lab 0 x : Nat) : Int)), some (.int ((lab 1 y : Nat) : Int))] ∧ Same H H' ∧ H' R = some (.lst (LL.map fun q => V.ref q.1)) ∧ (∀ q ∈ LL, H' q.1 = some (.tup (q.2.map kV))) ∧ H' L = some (.dT (labD zs lab')) ∧ ∀ s c, lab' s c = lab s c ∨ (lab s c = lab 0 x ∧ lab' s c = lab 1 y)) ?_ ?_ ?_ ?_
        · exact ⟨lab, _, _, rfl, t5, hR, hk5, hL5, fun s c => .inl rfl⟩
        · exact fun j σ H' _ ⟨_, _, _, _, _, h, _⟩ => SqL.of h
        · rintro j v σ H6 H6' hj ⟨lab', o3, o4, rfl, t6, hR6, hk6, hL6, st⟩ ⟨rfl, hv⟩
          rw [List.getElem?_map] at hv
          obtain ⟨qq, hq, rfl⟩ := Option.map_eq_some_iff.mp hv
          have hqm := List.mem_of_getElem? hq
          obtain ⟨s0, c0, hs0, hc0, ek⟩ := kq qq hqm
          have hq6 := hk6 qq hqm
          rw [ek] at hq6
          have g := DGet.t (k := kN s0 c0) hL6 hq6
          rw [lab_get hs0 hc0] at g
          refine ⟨_, rfl, _, rfl, L, _, rfl, g, _, rfl, rfl, decide (lab' s0 c0 = lab 0 x), congrArg V.bl (decide_eq_decide.mpr ⟨fun z => by have := V.int.inj z; omega, fun z => by rw [z]⟩), ite2 (fun e => ?_) (fun _ => ?_)⟩
          · refine ⟨_, rfl, _, rfl, _, rfl, L, _, rfl, DPut.t (k := kN s0 c0) hL6 hq6 (fitsLt (by rw [lab_len]; omega)), ?_⟩
            refine ⟨setN lab' s0 c0 (lab 1 y), _, _, rfl, Same.put t6 nL0, by rw [upd_ne RL]; exact hR6, fun q hq => by rw [upd_ne (qL q hq)]; exact hk6 q hq, by rw [upd_same, lab_put hs0 hc0], fun s c => ?_⟩
            unfold setN
            by_cases z : s = s0 ∧ c = c0
            · rw [if_pos z, z.1, z.2]
              have e2 := of_decide_eq_true e
              rcases st s0 c0 with a | ⟨a, _⟩
              · exact .inr ⟨by rw [← a]; exact e2, rfl⟩
              · exact .inr ⟨a, rfl⟩
            · rw [if_neg z]
              exact st s c
          · exact ⟨lab', _, _, rfl, t6, hR6, hk6, hL6, st⟩
        · rintro σ H6 ⟨lab', o3, o4, rfl, t6, hR6, hk6, hL6, st⟩
          exact ⟨lab', _, _, _, _, rfl, t6, hL6, snd_step snd xz yz (nbr_get hx hy) st⟩
      · rintro σ H2 ⟨lab, o3, o4, o5, o6, rfl, t2, hL2, snd⟩
        exact ⟨_, rfl, q H2 L zs lab t2 nL0 hL2 zin snd⟩
end
end Mo

namespace Mo
open PySem PySem.Spec PyProof.Rows L2
section
variable {P : Program} {w : World} {K : PySem.W.Frag} {mg : Str → Option Value} {base : Heap}
theorem neg_of {p : Prop} [Decidable p] (e : (!decide p) = true) : ¬ p := by simpa using e
theorem pos_of {p : Prop} [Decidable p] (e : ¬ (!decide p) = true) : p := by simpa using e
def spIsPat : Sp := fun vs H Q _ => ∃ cs : List Nat, vs = [.str (tx cs)] ∧ Pat cs ∧ ∀ H', Same H H' → Q (.bl true) H'
def spCheck : Sp := fun vs H Q _ => ∃ cs : List Nat, vs = [.str (tx cs)] ∧ Pat cs ∧ ∀ H', Same H H' → Q .non H'
theorem low_lett {cs : List Nat} (h : Low cs) : ∀ c ∈ cs, c ∈ lett := by
  intro c hc
  have h1 := h c hc
  have h2 := lett_at ⟨c - 97, by omega⟩
  have h3 : 97 + (c - 97) = c := by omega
  rw [h3] at h2
  exact List.mem_of_getElem? h2
theorem ok_isPat {k : Nat} (T : Txt K mg) : FnOk P w K mg base CX0 (k + 1) T.aIsPattern T.dIsPattern ["value"] spIsPat := by
  refine T.fIsPattern.ok scIsPattern (fun vs H Q E h => ?_) (fun cdv A outer s H vs Q E hr h => ?_)
  · obtain ⟨cs, rfl, _⟩ := h
    rfl
  · obtain ⟨cs, rfl, pat, q⟩ := h
    refine ⟨_, (pss_cons (ps_if (PW.pt (pw_or (pt_not (pt_val (pe_callB call_isi (by rfl) T.m_isinstance (by decide +kernel) (pa_cons (pv 0) (pa_cons (pe_bltn (v := .ty "str") (by rfl) T.m_str (by decide +kernel) rfl) pa_nil))))) (pw_or1 (pt_cmpR op_gt (pe_callB call_len_str (by rfl) T.m_len PySem.boot_len (pa_cons (pv 0) pa_nil)) (pe_glob (v := .int 40) rfl T.m_LONGEST_PATTERN ⟨_, rfl⟩) (nomark _))))) (pss_one (ps_ret pe_bl)) pss_nil)
      (pss_one (ps_ret (pe_and (pe_cmpR op_le (pe_callB Mo.cr_lenK (by rfl) T.m_len PySem.boot_len (pa_cons (pe_callTy (Mo.cr_setS rfl) (by rfl) T.m_set (by decide +kernel) (pa_cons (pv 0) pa_nil)) pa_nil)) (pe_glob (v := .int 8) rfl T.m_MOST_VARIABLES ⟨_, rfl⟩) (nomark _)) (pe_one (pe_callB (cr_all rfl) (by rfl) T.m_all (by decide +kernel) (pa_cons (pe_lc (own := [("name", 1)]) (g := gName 1) (tt := tYes) rfl scIsPattern.nd (pi_str (pv 0)) (blkOk_by (N := ["value", "name"]) (sc := defScope sIsPattern) (by decide +kernel)) (fun _ _ _ _ _ => pg_name (i := 1) scIsPattern.nd rfl (Or.inl rfl)) (fun _ _ _ _ _ => pts_nil) (fun _ _ _ _ _ => (pe_cmpR op_in_sign (pv 1) (pe_glob (v := .str "abcdefghijklmnopqrstuvwxyz") rfl T.m_VARIABLES ⟨_, rfl⟩) rfl))) pa_nil))))))), ?_⟩
    have hlen := pat.len
    have hfew : (met (tx cs).cps.toList).length ≤ 8 := pat.few
    refine ⟨_, rfl, _, _, .type "str", .type "str", true, rfl, .ty "str", .base (.str _), kit_ty (by decide +kernel), true, rfl, iteF ?_⟩
    refine ⟨_, rfl, _, rfl, fits5 (by rw [tx_len]; omega), _, _, rfl, rfl, _, rfl, ite2 (fun e => ?_) (fun e => ?_)⟩
    · exfalso
      have h1 := of_decide_eq_true e
      rw [tx_len] at h1
      omega
    refine ⟨_, rfl, tx cs, rfl, by rw [tx_size]; omega, fun p np => ?_⟩
    refine ⟨p, _, _, rfl, upd_same, by omega, _, _, rfl, rfl, true, congrArg V.bl (decide_eq_true (by omega)), ?_⟩
    have sm := same_new (o := SetK P w p (inS (tx cs).cps.toList) (met (tx cs).cps.toList).length) np
    refine ⟨_, rfl, tx cs, rfl, fun D nD => lc_it walk_str (fun i H' => Same (upd H p (SetK P w p (inS (tx cs).cps.toList) (met (tx cs).cps.toList).length)) H' ∧ H' D = some (.lst ((List.replicate i true).map V.bl))) ?_ ?_ ?_ ?_⟩
    · exact ⟨same_new nD, upd_same⟩
    · exact fun _ _ _ _ => trivial
    · rintro i x H1 H2 hi ⟨s1, hD⟩ ⟨rfl, c, hc, rfl⟩
      have hi2 : i < 41 := by
        rw [tx_size] at hi
        omega
      have hcs : c ∈ (Str.ofString "abcdefghijklmnopqrstuvwxyz").cps.toList := by
        rw [lett_text]
        exact low_lett pat.low c (List.mem_of_getElem? (tx_get.symm.trans hc))
      refine ⟨rfl, _, rfl, c, _, rfl, rfl, _, hD, fitsLt (by rw [List.length_map, List.length_replicate]; omega), Same.put s1 nD, ?_⟩
      rw [upd_same, decide_eq_true hcs, List.replicate_succ', List.map_append]
      rfl
    · rintro H1 ⟨s1, hD⟩
      refine ⟨D, List.replicate _ true, rfl, SqL.of hD, ?_⟩
      rw [show (List.replicate (tx cs).cps.size true).all id = true by simp]
      exact q H1 (sm.trans s1)
theorem ok_check {k : Nat} (T : Txt K mg) : FnOk P w K mg base CX0 (k + 2) T.aCheckPattern T.dCheckPattern ["value"] spCheck := by
  have GIsPattern : FnOk P w K mg base CX0 (k + 1) T.aIsPattern T.dIsPattern ["value"] spIsPat := ok_isPat T
  refine T.fCheckPattern.ok scCheckPattern (fun vs H Q E h => ?_) (fun cdv A outer s H vs Q E hr h => ?_)
  · obtain ⟨cs, rfl, _⟩ := h
    rfl
  · obtain ⟨cs, rfl, pat, q⟩ := h
    refine ⟨_, (pss_one (ps_if (pt_not (pt_val (pe_call GIsPattern hr (by rfl) T.gIsPattern T.fIsPattern.kp T.bIsPattern .nil pass0 (pa_cons (pv 0) pa_nil)))) (pss_one ps_never) pss_nil)), ?_⟩
    exact ⟨_, rfl, cs, rfl, pat, fun H1 s1 => ⟨true, rfl, iteF (q H1 s1)⟩⟩
end
end Mo

namespace Mo
open PySem PySem.Spec PyProof.Rows L2
section
variable {P : Program} {w : World} {K : PySem.W.Frag} {mg : Str → Option Value} {base : Heap}
theorem ok_plainX {k : Nat} (T : Txt K mg) : FnOk P w K mg base CX0 (k + 1) T.aIsPlainInteger T.dIsPlainInteger ["value"] (spAsk plainD) := by
  refine T.fIsPlainInteger.ok scIsPlainInteger (fun vs H Q E h => ?_) (fun cdv A outer s H vs Q E hr h => ?_)
  · obtain ⟨_, _, _, rfl, _⟩ := h
    rfl
  · obtain ⟨N, x, d, rfl, hd, _, q⟩ := h
    refine ⟨_, (pss_one (ps_ret (pe_and (pe_callB call_isi (by rfl) T.m_isinstance (by decide +kernel) (pa_cons (pv 0) (pa_cons (pe_bltn (v := .ty "int") (by rfl) T.m_int (by decide +kernel) rfl) pa_nil))) (pe_one (pe_not (pe_callB call_isi (by rfl) T.m_isinstance (by decide +kernel) (pa_cons (pv 0) (pa_cons (pe_bltn (v := .ty "bool") (by rfl) T.m_bool (by decide +kernel) rfl) pa_nil)))))))), ?_⟩
    have ty := hd.ty (K := K)
    have q0 := q H (Same.refl H)
    unfold plainD at q0
    refine ⟨_, rfl, _, _, .type (tyD d), .type "int", isIntD d, rfl, .ty "int", ty, kit_ty (kit_int d), isIntD d, rfl, ?_⟩
    cases e : isIntD d with
    | false => rw [e] at q0; exact q0
    | true =>
      rw [e] at q0
      exact ⟨_, rfl, _, _, .type (tyD d), .type "bool", isBoolD d, rfl, .ty "bool", ty, kit_ty (kit_bool d), isBoolD d, rfl, q0⟩
theorem ok_letterX {k : Nat} (T : Txt K mg) : FnOk P w K mg base CX0 (k + 2) T.aIsLetter T.dIsLetter ["value"] (spAsk letterD) := by
  have GIsPlainInteger : FnOk P w K mg base CX0 (k + 1) T.aIsPlainInteger T.dIsPlainInteger ["value"] (spAsk plainD) := ok_plainX T
  refine T.fIsLetter.ok scIsLetter (fun vs H Q E h => ?_) (fun cdv A outer s H vs Q E hr h => ?_)
  · obtain ⟨_, _, _, rfl, _⟩ := h
    rfl
  · obtain ⟨N, x, d, rfl, hd, hb, q⟩ := h
    refine ⟨_, (pss_one (ps_ret (pe_and (pe_call GIsPlainInteger hr (by rfl) T.gIsPlainInteger T.fIsPlainInteger.kp T.bIsPlainInteger .nil pass0 (pa_cons (pv 0) pa_nil)) (pe_one (pe_chain op_le op_le pe_int (pv 0) (pe_glob (v := .int 999999) rfl T.m_GREATEST_LETTER ⟨_, rfl⟩)))))), ?_⟩
    refine ⟨_, rfl, N, x, d, rfl, hd, hb, fun H1 s1 => ?_⟩
    have q0 := q H1 s1
    cases e : plainD d with
    | false =>
      refine ⟨false, rfl, ?_⟩
      have z : letterD d = false := by
        cases hd <;> first | rfl | exact absurd (show true = false from e) (by decide)
      rw [z] at q0
      exact q0
    | true =>
      obtain ⟨i, rfl, rfl⟩ := plain_int hd e
      refine ⟨true, rfl, iteT ⟨_, rfl, 0, i, rfl, rfl, decide (0 ≤ i), rfl, ?_⟩⟩
      have z : letterD (.int i) = (decide (0 ≤ i) && decide (i ≤ 999999)) := rfl
      rw [z] at q0
      cases e0 : decide (0 ≤ i) with
      | false => rw [e0] at q0; exact q0
      | true => rw [e0] at q0; exact ⟨i, 999999, rfl, rfl, q0⟩
theorem ok_isTextX {k : Nat} (T : Txt K mg) : FnOk P w K mg base CX0 (k + 3) T.aIsText T.dIsText ["value"] (spAsk textD) := by
  have GIsLetter : FnOk P w K mg base CX0 (k + 2) T.aIsLetter T.dIsLetter ["value"] (spAsk letterD) := ok_letterX T
  refine T.fIsText.ok scIsText (fun vs H Q E h => ?_) (fun cdv A outer s H vs Q E hr h => ?_)
  · obtain ⟨_, _, _, rfl, _⟩ := h
    rfl
  · obtain ⟨N, x, d, rfl, hd, hb, q⟩ := h
    refine ⟨_, (pss_cons (ps_if (PW.pt (pw_or (pt_not (pt_val (pe_callB call_isi (by rfl) T.m_isinstance (by decide +kernel) (pa_cons (pv 0) (pa_cons (pe_bltn (v := .ty "tuple") (by rfl) T.m_tuple (by decide +kernel) rfl) pa_nil))))) (pw_or1 (pt_cmpR op_gt (pe_callB call_len_seq (by rfl) T.m_len PySem.boot_len (pa_cons (pv 0) pa_nil)) (pe_glob (v := .int 4096) rfl T.m_LONGEST_TEXT ⟨_, rfl⟩) (nomark _))))) (pss_one (ps_ret pe_bl)) pss_nil)
      (pss_one (ps_ret (pe_callB (cr_all rfl) (by rfl) T.m_all (by decide +kernel) (pa_cons (pe_lc (own := [("letter", 1)]) (g := gName 1) (tt := tYes) rfl scIsText.nd (pi_tup (pv 0)) (blkOk_by (N := ["value", "letter"]) (sc := defScope sIsText) (by decide +kernel)) (fun _ _ _ _ _ => pg_name (i := 1) scIsText.nd rfl (Or.inl rfl)) (fun _ _ _ _ _ => pts_nil) (fun _ _ _ _ _ => (pe_call GIsLetter hr (by rfl) T.gIsLetter T.fIsLetter.kp T.bIsLetter .nil pass0 (pa_cons (pv 1) pa_nil)))) pa_nil))))), ?_⟩
    have ty := hd.ty (K := K)
    refine ⟨_, rfl, _, _, .type (tyD d), .type "tuple", isTupD d, rfl, .ty "tuple", ty, kit_ty (kit_tup d), isTupD d, rfl, ?_⟩
    cases e : isTupD d with
    | false =>
      have q0 := q H (Same.refl H)
      rw [notTup e] at q0
      exact iteT q0
    | true =>
      obtain ⟨a, xs, ds, rfl, rfl, ha, _, hx⟩ := tup_dx hd e
      have hl := hx.length
      simp only [PyData.bulk] at hb
      have hb2 := bulk_len ds
      have zt : textD (.tuple ds) = (decide (ds.length ≤ 4096) && ds.all letterD) := rfl
      refine iteF ⟨_, rfl, a, xs, rfl, .inr (SqT.of ha), _, _, rfl, rfl, _, rfl, ite2 (fun e => ?_) (fun e => ?_)⟩
      · have h1 := of_decide_eq_true e
        have q0 := q H (Same.refl H)
        rw [zt, decide_eq_false (by omega)] at q0
        exact q0
      · have h1 : ¬ (4096 : Int) < xs.length := fun z => e (decide_eq_true z)
        rw [zt, decide_eq_true (by omega), Bool.true_and] at q
        refine ⟨_, rfl, a, rfl, ⟨xs, SqT.of ha⟩, fun D nD => lc_it (walk_tup (xs := xs)) (fun i H' => Same H H' ∧ H' D = some (.lst (((ds.take i).map letterD).map V.bl))) ?_ ?_ ?_ ?_⟩
        · exact ⟨same_new nD, upd_same⟩
        · exact fun i H' _ h => SqT.of (h.1 _ _ ha)
        · rintro i x H1 H2 hi ⟨s1, hD⟩ ⟨rfl, hx1⟩
          obtain ⟨dd, hdd, hxd⟩ := (hx.same s1).get hx1
          have hm := bulk_mem (List.mem_of_getElem? hdd)
          refine ⟨rfl, _, rfl, N, x, dd, rfl, hxd, by omega, fun H3 s3 => ⟨_, s3 _ _ hD, fitsLt (by rw [List.length_map, List.length_map, List.length_take]; omega), Same.put (s1.trans s3) nD, ?_⟩⟩
          rw [upd_same, List.take_add_one, hdd, List.map_append, List.map_append]
          rfl
        · rintro H1 ⟨s1, hD⟩
          rw [hl, List.take_length] at hD
          refine ⟨D, ds.map letterD, rfl, SqL.of hD, ?_⟩
          rw [show (ds.map letterD).all id = ds.all letterD by rw [List.all_map]; rfl]
          exact q H1 s1
end
end Mo

namespace Mo
open PySem PySem.Spec PyProof.Rows L2
section
variable {P : Program} {w : World} {K : PySem.W.Frag} {mg : Str → Option Value} {base : Heap}
def spVars : Sp := fun vs H Q _ => ∃ cs : List Nat, vs = [.str (tx cs)] ∧ Pat cs ∧ ∀ H', Same H H' → Q (.str (tx (met cs))) H'
theorem ok_vars {k : Nat} (T : Txt K mg) : FnOk P w K mg base CX0 (k + 3) T.aVariables T.dVariables ["pattern"] spVars := by
  have GCheckPattern : FnOk P w K mg base CX0 (k + 2) T.aCheckPattern T.dCheckPattern ["value"] spCheck := ok_check T
  refine T.fVariables.ok scVariables (fun vs H Q E h => ?_) (fun cdv A outer s H vs Q E hr h => ?_)
  · obtain ⟨cs, rfl, _⟩ := h
    rfl
  · obtain ⟨cs, rfl, pat, q⟩ := h
    refine ⟨_, (pss_cons (ps_expr (pe_call GCheckPattern hr (by rfl) T.gCheckPattern T.fCheckPattern.kp T.bCheckPattern .nil pass0 (pa_cons (pv 0) pa_nil)))
      (pss_one (ps_ret (pe_join pe_str (pe_lc (own := [("at", 1), ("name", 2)]) (g := gTup K 2 (gCons (gName 1) (gCons (gName 2) gNil))) rfl scVariables.nd (Mo.pi_enumS (by rfl) T.m_enumerate (pa_cons (pv 0) pa_nil)) (blkOk_by (N := ["pattern", "at", "name"]) (sc := defScope sVariables) (by decide +kernel)) (fun _ _ _ _ _ => Mo.pg_tupK (K := K) rfl rfl (pgs_cons (pg_name (i := 1) scVariables.nd rfl (Or.inl rfl)) (pgs_cons (pg_name (i := 2) scVariables.nd rfl (Or.inl rfl)) pgs_nil))) (fun _ _ _ _ _ => pts_one (pt_cmpR op_notIn_sign (pv 2) (pe_slice sl_str (pv 0) po_none (po_some (pv 1))) rfl)) (fun _ _ _ _ _ => (pv 2))))))), ?_⟩
    have hlen := pat.len
    refine ⟨_, rfl, cs, rfl, pat, fun H1 s1 => ?_⟩
    refine ⟨⟨_, rfl⟩, _, rfl, tx cs, rfl, fun D nD => lc_it walk_enumS (fun i H' => Same H1 H' ∧ H' D = some (.lst ((met (cs.take i)).map sg))) ?_ ?_ ?_ ?_⟩
    · exact ⟨same_new nD, upd_same⟩
    · exact fun _ _ _ _ => trivial
    · rintro i x H2 H3 hi ⟨s2, hD⟩ ⟨tp, a, b, rfl, ntp, rfl, ha, hb⟩
      obtain rfl : V.int (i : Nat) = a := Option.some.inj ha
      obtain ⟨c, hc, rfl⟩ : ∃ c, cs[i]? = some c ∧ sg c = b := by
        have hb2 : Option.map (fun c => sg c) ((tx cs).cps[i]?) = some b := hb
        rw [tx_get] at hb2
        cases e : cs[i]? with
        | none => rw [e] at hb2; cases hb2
        | some c => rw [e] at hb2; exact ⟨c, rfl, Option.some.inj hb2⟩
      have s3 := same_new (o := .tup [.int (i : Nat), sg c]) ntp
      refine ⟨tp, _, rfl, SqT.of upd_same, rfl, _, _, rfl, _, _, rfl, rfl, rfl, ?_⟩
      have hlt : i < cs.length := (List.getElem?_eq_some_iff.mp hc).1
      have ntD : D ≠ tp := ne_of_none hD ntp
      refine ⟨_, rfl, _, rfl, _, rfl, _, rfl, tx cs, rfl, fits5 (by rw [tx_len]; omega), c, _, rfl, rfl, _, rfl, ?_⟩
      rw [cut_tx, HT.sIx_nat, HT.sIx_none, tx_list, List.drop_zero, Nat.sub_zero, Nat.min_eq_left (Nat.le_of_lt hlt)]
      have hm := met_length_le (cs.take i)
      rw [List.length_take] at hm
      refine ite2 (fun e => ?_) (fun e => ?_)
      · have nc : c ∉ cs.take i := by simpa using e
        refine ⟨_, rfl, _, (by rw [upd_ne ntD]; exact hD), fitsLt (by rw [List.length_map]; omega), Same.put (s2.trans s3) nD, ?_⟩
        rw [upd_same, met_take_snoc hc, metStep, if_neg (fun z => nc (mem_met.mp z)), List.map_append]
        rfl
      · have nc : c ∈ cs.take i := by simpa using e
        refine ⟨s2.trans s3, ?_⟩
        rw [upd_ne ntD, hD, met_take_snoc hc, metStep, if_pos (mem_met.mpr nc)]
    · rintro H2 ⟨s2, hD⟩
      rw [List.take_of_length_le (by rw [tx_size]; exact Nat.le_refl _)] at hD
      have hm := met_length_le cs
      refine ⟨_, D, (met cs).map fun c => (⟨#[c]⟩ : Str), rfl, rfl, .inl (SqL.of (by rw [← signs_map]; exact hD)), signs_room (by omega), ?_⟩
      rw [join_signs]
      exact q H2 (s1.trans s2)
/-! ### values of a pattern -/
abbrev kS (c : Nat) : Key := .inr ⟨#[c]⟩
def emptyT : PyData → Bool
  | .tuple [] => true
  | _ => false
def okVal (d : PyData) : Bool := textD d && !emptyT d
def lookK : List (Key × V) → List PyData → Key → Option PyData
  | (k, _) :: r, d :: ds, q => if k = q then some d else lookK r ds q
  | _, _, _ => none
def hasVal (kvs : List (Key × V)) (ds : List PyData) (c : Nat) : Bool := match lookK kvs ds (kS c) with
  | some d => okVal d
  | none => false
def areB (cs : List Nat) (kvs : List (Key × V)) (ds : List PyData) : Bool := decide (kvs.length = (met cs).length) && (met cs).all (hasVal kvs ds)
theorem look_val {N : Addr → Prop} {H : Hp} {q : Key} : ∀ {kvs : List (Key × V)} {ds : List PyData}, DxAll N H (kvs.map (·.2)) ds → (valV kvs q = none ∧ lookK kvs ds q = none) ∨ ∃ v d, valV kvs q = some v ∧ lookK kvs ds q = some d ∧ Dx N H v d ∧ d ∈ ds
  | [], [], _ => .inl ⟨rfl, rfl⟩
  | [], _ :: _, h => by cases h
  | _ :: _, [], h => by cases h
  | (k, v) :: r, d :: ds, h => by
    cases h with
    | cons h t =>
      by_cases e : k = q
      · exact .inr ⟨v, d, valV_pos e, by simp [lookK, e], h, List.mem_cons_self⟩
      · rcases look_val (q := q) t with ⟨h1, h2⟩ | ⟨v', d', h1, h2, h3, h4⟩
        · exact .inl ⟨by rw [valV_neg e]; exact h1, by simp only [lookK, if_neg e]; exact h2⟩
        · exact .inr ⟨v', d', by rw [valV_neg e]; exact h1, by simp only [lookK, if_neg e]; exact h2, h3, List.mem_cons_of_mem _ h4⟩
theorem kit_dict : ∀ d : PyData, kitB (tyD d) "dict" = some (isDictD d)
  | .none => by show kitB "NoneType" "dict" = some false; decide +kernel
  | .bool _ => by show kitB "bool" "dict" = some false; decide +kernel
  | .int _ => by show kitB "int" "dict" = some false; decide +kernel
  | .str _ => by show kitB "str" "dict" = some false; decide +kernel
  | .list _ => by show kitB "list" "dict" = some false; decide +kernel
  | .tuple _ => by show kitB "tuple" "dict" = some false; decide +kernel
  | .dict _ => by show kitB "dict" "dict" = some true; decide +kernel
def spAre : Sp := fun vs H Q _ => ∃ (cs : List Nat) (x : V) (N : Addr → Prop), vs = [.str (tx cs), x] ∧ Pat cs ∧
  ((∃ (a : Addr) (kvs : List (Key × V)) (ds : List PyData), x = .ref a ∧ H a = some (.dK kvs) ∧ DxAll N H (kvs.map (·.2)) ds ∧ (∀ d ∈ ds, d.bulk ≤ 1000000) ∧ ∀ H', Same H H' → Q (.bl (areB cs kvs ds)) H') ∨
    (∃ d, Dx N H x d ∧ isDictD d = false ∧ ∀ H', Same H H' → Q (.bl false) H'))
theorem text_tup : ∀ {d : PyData}, textD d = true → isTupD d = true := by
  intro d h
  cases e : isTupD d with
  | true => rfl
  | false => rw [notTup e] at h; cases h
theorem ok_are {k : Nat} (T : Txt K mg) : FnOk P w K mg base CX0 (k + 4) T.aAreValues T.dAreValues ["pattern", "value"] spAre := by
  have GVariables : FnOk P w K mg base CX0 (k + 3) T.aVariables T.dVariables ["pattern"] spVars := ok_vars T
  have GIsText : FnOk P w K mg base CX0 (k + 3) T.aIsText T.dIsText ["value"] (spAsk textD) := ok_isTextX T
  refine T.fAreValues.ok scAreValues (fun vs H Q E h => ?_) (fun cdv A outer s H vs Q E hr h => ?_)
  · obtain ⟨_, _, _, rfl, _⟩ := h
    rfl
  · obtain ⟨cs, x, N, rfl, pat, h⟩ := h
    have hu := hu_of hr
    refine ⟨_, (pss_cons (ps_set (i := 2) scAreValues.nd rfl (Or.inl rfl) (pe_call GVariables hr (by rfl) T.gVariables T.fVariables.kp T.bVariables .nil pass0 (pa_cons (pv 0) pa_nil)))
      (pss_cons (ps_if (PW.pt (pw_or (pt_not (pt_val (pe_callB call_isi (by rfl) T.m_isinstance (by decide +kernel) (pa_cons (pv 1) (pa_cons (pe_bltn (v := .ty "dict") (by rfl) T.m_dict (by decide +kernel) rfl) pa_nil))))) (pw_or1 (pt_cmpR op_ne (pe_callB call_lenD (by rfl) T.m_len PySem.boot_len (pa_cons (pv 1) pa_nil)) (pe_callB call_len_str (by rfl) T.m_len PySem.boot_len (pa_cons (pv 2) pa_nil)) (nomark _))))) (pss_one (ps_ret pe_bl)) pss_nil)
      (pss_one (ps_ret (pe_callB (cr_all rfl) (by rfl) T.m_all (by decide +kernel) (pa_cons (pe_lc (own := [("name", 3)]) (g := gName 3) (tt := tYes) rfl scAreValues.nd (pi_str (pv 2)) (blkOk_by (N := ["pattern", "value", "names", "name"]) (sc := defScope sAreValues) (by decide +kernel)) (fun _ _ _ _ _ => pg_name (i := 3) scAreValues.nd rfl (Or.inl rfl)) (fun _ _ _ _ _ => pts_nil) (fun _ _ _ _ _ => (pe_and (pe_cmp (pc_din (Mo.room1 hr) (pv 3) (pv 1))) (pe_and (pe_call GIsText hr (by rfl) T.gIsText T.fIsText.kp T.bIsText .nil pass0 (pa_cons (pe_dget (Mo.room1 hr) (pv 1) (pv 3) (fun _ _ => rfl)) pa_nil)) (pe_one (pe_cmpR (Mo.op_neNilTK (K := K) rfl hr.units) (pe_dget (Mo.room1 hr) (pv 1) (pv 3) (fun _ _ => rfl)) (pe_tup pa_nil) (nomark _))))))) pa_nil)))))), ?_⟩
    rcases h with ⟨a, kvs, ds, rfl, ha, hx, hb, q⟩ | ⟨d, hd, hk, q⟩
    · refine ⟨_, rfl, cs, rfl, pat, fun H1 s1 => ?_⟩
      have ha1 := s1 _ _ ha
      have hml : (met cs).length ≤ 40 := Nat.le_trans (met_length_le cs) pat.len
      refine ⟨_, rfl, _, _, .type "dict", .type "dict", true, rfl, .ty "dict", .base (.dK ha1), kit_ty (by decide +kernel), true, rfl, iteF ?_⟩
      refine ⟨_, rfl, a, kvs, rfl, ha1, _, rfl, _, rfl, fits5 (by rw [tx_len]; omega), rfl, _, rfl, ite2 (fun e => ?_) (fun e => ?_)⟩
      · have hne : kvs.length ≠ (met cs).length := fun z => neg_of e (by rw [tx_len, z])
        have q0 := q H1 s1
        unfold areB at q0
        rw [decide_eq_false hne] at q0
        exact q0
      · have heq : kvs.length = (met cs).length := by
          have := V.int.inj (pos_of e)
          rw [tx_len] at this
          omega
        unfold areB at q
        rw [decide_eq_true heq, Bool.true_and] at q
        refine ⟨_, rfl, tx (met cs), rfl, fun D nD => lc_it walk_str (fun i H' => Same H1 H' ∧ H' D = some (.lst ((((met cs).take i).map (hasVal kvs ds)).map V.bl))) ?_ ?_ ?_ ?_⟩
        · exact ⟨same_new nD, upd_same⟩
        · exact fun _ _ _ _ => trivial
        · rintro i x H2 H3 hi ⟨s2, hD⟩ ⟨rfl, c, hc, rfl⟩
          rw [tx_get] at hc
          have ha2 := s2 _ _ ha1
          have lenD : (((met cs).take i).map (hasVal kvs ds)).length ≤ 40 := by rw [List.length_map, List.length_take]; omega
          have fin : ∀ H4, Same H3 H4 → ∀ b, hasVal kvs ds c = b → ∃ acc, H4 D = some (.lst acc) ∧ acc.length < sizeLine ∧ Same H1 (upd H4 D (.lst (acc ++ [V.bl b]))) ∧ upd H4 D (.lst (acc ++ [V.bl b])) D = some (.lst ((((met cs).take (i + 1)).map (hasVal kvs ds)).map V.bl)) := fun H4 s4 b hb => by
            refine ⟨_, s4 _ _ hD, fitsLt (by rw [List.length_map]; omega), Same.put (s2.trans s4) nD, ?_⟩
            rw [upd_same, List.take_add_one, hc, ← hb, List.map_append, List.map_append]
            rfl
          refine ⟨rfl, _, rfl, _, rfl, a, _, rfl, DGet.k (k := kS c) ha2, _, rfl, ?_⟩
          rcases look_val (q := kS c) (hx.same (s1.trans s2)) with ⟨h1, h2⟩ | ⟨v, d, h1, h2, h3, h4⟩
          · rw [h1]
            exact fin H3 (Same.refl _) false (by unfold hasVal; rw [h2])
          · rw [h1]
            have g := DGet.k (k := kS c) ha2
            rw [h1] at g
            refine iteT ⟨_, rfl, _, rfl, a, v, rfl, g, N, v, d, rfl, h3, hb d h4, fun H4 s4 => ⟨textD d, rfl, ?_⟩⟩
            cases et : textD d with
            | false => exact fin H4 s4 false (by unfold hasVal; rw [h2]; show (textD d && _) = false; rw [et]; rfl)
            | true =>
              obtain ⟨p, xs, es, rfl, rfl, hp, _, hxs⟩ := tup_dx (h3.same s4) (text_tup et)
              have g4 := DGet.k (k := kS c) (s4 _ _ ha2)
              rw [h1] at g4
              refine iteT ⟨_, rfl, _, rfl, a, _, rfl, g4, Nat.zero_le _, fun p0 n0 => ?_⟩
              have s5 := same_new (o := .tup []) n0
              refine ⟨p, p0, xs, rfl, rfl, SqT.of (s5 _ _ hp), SqT.of upd_same, ?_⟩
              refine fin _ (s4.trans s5) _ ?_
              unfold hasVal
              rw [h2]
              show (textD _ && _) = _
              rw [et]
              have hl := hxs.length
              cases xs <;> cases es <;> first | rfl | (simp at hl)
        · rintro H2 ⟨s2, hD⟩
          rw [tx_size, List.take_length] at hD
          refine ⟨D, (met cs).map (hasVal kvs ds), rfl, SqL.of hD, ?_⟩
          rw [show ((met cs).map (hasVal kvs ds)).all id = (met cs).all (hasVal kvs ds) by rw [List.all_map]; rfl]
          exact q H2 (s1.trans s2)
    · refine ⟨_, rfl, cs, rfl, pat, fun H1 s1 => ?_⟩
      exact ⟨_, rfl, _, _, .type (tyD d), .type "dict", false, rfl, .ty "dict", (hd.same s1).ty, kit_ty (by rw [kit_dict, hk]), false, rfl, iteT (q H1 s1)⟩
end
end Mo

/-! ### expressions that make data out of what stands in locals -/
namespace Mo
open PySem PySem.Spec PyProof.Rows L2
def Mk (N : Addr → Prop) (σ : L2.St) (H : Hp) (te : TE) (P : PyData → Prop) : Prop := ∀ H0, Same H H0 → ∀ Q : VK, (∀ H' v e, Same H0 H' → Dx N H' v e → P e → Q v H') → te σ H0 Q
def MkA (N : Addr → Prop) (σ : L2.St) (H : Hp) (ta : TA) (P : List PyData → Prop) : Prop := ∀ H0, Same H H0 → ∀ Q : List V → Hp → Prop, (∀ H' vs ds, Same H0 H' → DxAll N H' vs ds → P ds → Q vs H') → ta σ H0 Q
def AllN (P : PyData → Prop) (n : Nat) (ds : List PyData) : Prop := ds.length = n ∧ ∀ x ∈ ds, P x
def LstN (P : PyData → Prop) (n : Nat) (e : PyData) : Prop := ∃ ds, e = .list ds ∧ ds.length ≤ n ∧ ∀ x ∈ ds, P x
def TupN (P : PyData → Prop) (n : Nat) (e : PyData) : Prop := ∃ ds, e = .tuple ds ∧ ds.length ≤ n ∧ ∀ x ∈ ds, P x
def TxN (n : Nat) (e : PyData) : Prop := ∃ ls : List Nat, e = .str (tx ls) ∧ Low ls ∧ ls.length ≤ n
theorem LstN.imp {P P' : PyData → Prop} {n n' : Nat} (h : ∀ e, P e → P' e) (hn : n ≤ n') {e : PyData} (l : LstN P n e) : LstN P' n' e := by
  obtain ⟨ds, rfl, hl, hd⟩ := l
  exact ⟨ds, rfl, Nat.le_trans hl hn, fun x hx => h x (hd x hx)⟩
section
variable {N : Addr → Prop} {σ : L2.St} {H : Hp} {te te2 : TE} {ta : TA} {P P' : PyData → Prop}
theorem Mk.imp (h : Mk N σ H te P) (i : ∀ e, P e → P' e) : Mk N σ H te P' := fun H0 s Q q => h H0 s Q fun H' v e s' hv p => q H' v e s' hv (i e p)
theorem Mk.on {H' : Hp} (h : Mk N σ H te P) (s : Same H H') : Mk N σ H' te P := fun H0 s' Q q => h H0 (s.trans s') Q q
theorem mk_lit {e : PyData} (hN : ∀ p, N p → H p ≠ none) (h : LitE te e) (p : P e) : Mk N σ H te P := fun H0 s Q q =>
  h σ H0 Q fun H' v s' hv => q H' v e s' (hv.more fun b _ nb => Was.mono s (hN b nb)) p
theorem mka_nil : MkA N σ H tNil (AllN P 0) := fun H0 s Q q => q H0 [] [] (Same.refl _) .nil ⟨rfl, fun x hx => by simp at hx⟩
theorem mka_cons {n : Nat} (h : Mk N σ H te P) (g : MkA N σ H ta (AllN P n)) : MkA N σ H (tCons te ta) (AllN P (n + 1)) := fun H0 s Q q =>
  h H0 s _ fun H1 v e s1 hv p => g H1 (s.trans s1) _ fun H2 vs ds s2 hvs pa => q H2 (v :: vs) (e :: ds) (s1.trans s2) (.cons (hv.same s2) hvs) ⟨by rw [List.length_cons, pa.1], fun x hx => by
    rcases List.mem_cons.mp hx with rfl | hx
    · exact p
    · exact pa.2 x hx⟩
theorem mk_lst {n : Nat} (hN : ∀ p, N p → H p ≠ none) (h : MkA N σ H ta (AllN P n)) (hn : n ≤ 100000 := by decide) : Mk N σ H (tLst ta) (fun e => ∃ ds, e = .list ds ∧ AllN P n ds) := fun H0 s Q q =>
  h H0 s _ fun H1 vs ds s1 hx pa => ⟨fits5 (by rw [hx.length, pa.1]; exact hn), fun p np => q _ _ _ (s1.trans (same_new np)) (.lst upd_same (fun z => hN p z ((s.trans s1).free np)) (hx.same (same_new np))) ⟨ds, rfl, pa⟩⟩
theorem AllN.lst {n m : Nat} (hn : n ≤ m) {e : PyData} (h : ∃ ds, e = .list ds ∧ AllN P n ds) : LstN P m e := by
  obtain ⟨ds, rfl, h1, h2⟩ := h
  exact ⟨ds, rfl, by omega, h2⟩
theorem AllN.tup {n m : Nat} (hn : n ≤ m) {e : PyData} (h : ∃ ds, e = .tuple ds ∧ AllN P n ds) : TupN P m e := by
  obtain ⟨ds, rfl, h1, h2⟩ := h
  exact ⟨ds, rfl, by omega, h2⟩
/-- bounds of a slice that do nothing -/
def BdOk (σ : L2.St) (t : TO) : Prop := ∀ H (Q : Option Int → Hp → Prop), (∀ lo, Q lo H) → t σ H Q
theorem DxAll.take {H : Hp} : ∀ {vs : List V} {ds : List PyData} (n : Nat), DxAll N H vs ds → DxAll N H (vs.take n) (ds.take n)
  | _, _, 0, _ => by rw [List.take_zero, List.take_zero]; exact .nil
  | _, _, n + 1, .nil => .nil
  | _, _, n + 1, .cons h t => .cons h (t.take n)
theorem DxAll.drop {H : Hp} : ∀ {vs : List V} {ds : List PyData} (n : Nat), DxAll N H vs ds → DxAll N H (vs.drop n) (ds.drop n)
  | _, _, 0, h => h
  | _, _, n + 1, .nil => .nil
  | _, _, n + 1, .cons h t => t.drop n
theorem fitAll_of {B W D : Nat} : ∀ {ds : List PyData}, (∀ e ∈ ds, Fit B W D e) → FitAll B ((W + 1) * ds.length) D ds
  | [], _ => ⟨by simp [okAll], by simp [PyData.bulkAll], by simp [PyData.depthAll]⟩
  | d :: r, h => by
    have h1 := (h d (by simp)).one.app (fitAll_of (ds := r) fun e he => h e (by simp [he]))
    rw [List.length_cons, Nat.mul_add, Nat.mul_one, Nat.add_comm ((W + 1) * r.length)]
    exact h1
theorem fit_low {W D : Nat} {ls : List Nat} (low : Low ls) (h : ls.length ≤ W) : Fit 20 W D (.str (tx ls)) := ⟨by
  simp only [okD]
  intro c hc
  have := low c hc
  omega, by simp only [PyData.bulk]; rw [tx_size]; exact h, by simp only [PyData.depth]; exact Nat.zero_le _⟩
theorem TxN.fit {n : Nat} {e : PyData} (h : TxN n e) {D : Nat} : Fit 20 n D e := by
  obtain ⟨ls, rfl, low, hl⟩ := h
  exact fit_low low hl
theorem LstN.fit {n W D : Nat} {e : PyData} (h : LstN P n e) (hp : ∀ x, P x → Fit 20 W D x) : Fit 20 ((W + 1) * n) (D + 1) e := by
  obtain ⟨ds, rfl, hl, hd⟩ := h
  exact (fitAll_of fun x hx => hp x (hd x hx)).lst.mono (Nat.le_refl _) (Nat.mul_le_mul_left _ hl) (Nat.le_refl _)
theorem TupN.fit {n W D : Nat} {e : PyData} (h : TupN P n e) (hp : ∀ x, P x → Fit 20 W D x) : Fit 20 ((W + 1) * n) (D + 1) e := by
  obtain ⟨ds, rfl, hl, hd⟩ := h
  exact (fitAll_of fun x hx => hp x (hd x hx)).tup.mono (Nat.le_refl _) (Nat.mul_le_mul_left _ hl) (Nat.le_refl _)
theorem Pen.here {H : Hp} {d c : Addr} {t : Nat} (h : Pen H d c t) : H d ≠ none := by
  obtain ⟨_, _, h, _⟩ := h
  rw [h]
  exact Option.some_ne_none _
/-- the same with draws from the pen on the way -/
def MkP (d c : Addr) (σ : L2.St) (H : Hp) (te : TE) (P : PyData → Prop) (n : Nat) : Prop := ∀ H0 t, But d H H0 → Pen H0 d c t → t + n < 1073741824 → ∀ Q : VK, (∀ H' v t' e, But d H0 H' → Pen H' d c t' → t' ≤ t + n → Dx (fun x => x = d) H' v e → P e → Q v H') → te σ H0 Q
variable {d c : Addr}
theorem MkP.imp {n : Nat} (h : MkP d c σ H te P n) (i : ∀ e, P e → P' e) : MkP d c σ H te P' n := fun H0 t b pen ht Q q => h H0 t b pen ht Q fun H' v t' e b' pen' ht' hv p => q H' v t' e b' pen' ht' hv (i e p)
end
end Mo

/-! ### int or bool; data that are tuples, made out of locals -/
namespace Mo
open PySem PySem.Spec PyProof.Rows L2
section
variable {X : Cx}
def IB (x : V) (i : Int) : Prop := x = .int i ∨ ∃ b : Bool, x = .bl b ∧ i = if b then 1 else 0
def rEqNilT (K : PySem.W.Frag) : R2 := fun x y H Q => ∃ a b xs, x = .ref a ∧ y = .ref b ∧ SqT K H a xs ∧ SqT K H b [] ∧ Q (.bl xs.isEmpty) H
theorem op_eqNilT (hu : X.A.units + 64 < cLine) : OpR X (compareOp .Eq) (rEqNilT X.K) := by
  intro pins s σ H x y v u Q I rx ry h
  obtain ⟨a, b, xs, rfl, rfl, ha, hb, q⟩ := h
  cases rx
  cases ry
  obtain ⟨is, r1, p1, _⟩ := I.tuple ha
  obtain ⟨js, r2, p2, _⟩ := I.tuple hb
  cases r2
  have k1 : s.heap.IsTuple a is.toArray := p1
  have k2 : s.heap.IsTuple b (List.nil (α := Value)).toArray := p2
  refine SeqAt.eq_tupleAt (e := fun _ => true) k1 k2 (by omega) (fun j _ h2 => absurd h2 (by simp)) ?_
  cases r1 with
  | nil => exact ⟨.bl true, H, I, rfl, q⟩
  | cons r rs => exact ⟨.bl false, H, I, by simp only [List.size_toArray, List.length_cons, List.length_nil, Nat.min_zero, List.range_zero, List.all_nil, Bool.true_and]; rfl, q⟩
theorem op_eqNilTK {K : PySem.W.Frag} (h : X.K = K) (hu : X.A.units + 64 < cLine) : OpR X (compareOp .Eq) (rEqNilT K) := by
  subst h
  exact op_eqNilT hu
end
section
variable {N : Addr → Prop} {σ : L2.St} {H : Hp} {te te2 : TE} {ta : TA} {P P' : PyData → Prop}
end
end Mo

set_option pp.maxSteps 300
namespace Mo
open PySem PySem.Spec PyProof.Rows L2
section
variable {P : Program} {w : World} {K : PySem.W.Frag} {mg : Str → Option Value} {base : Heap}
/-! ### the ints of a text; where a word stands -/
def intD : PyData → Int
  | .int i => i
  | _ => 0
def intsD : PyData → List Int
  | .tuple es => es.map intD
  | _ => []
def blkK (kvs : List (Key × V)) (ds : List PyData) (c : Nat) : List Int := match lookK kvs ds (kS c) with
  | some d => intsD d
  | none => []
theorem ints_txt {N : Addr → Prop} {H : Hp} : ∀ {xs : List V} {es : List PyData}, DxAll N H xs es → es.all letterD = true → xs = (es.map intD).map V.int
  | [], [], _, _ => rfl
  | [], _ :: _, h, _ => by cases h
  | _ :: _, [], h, _ => by cases h
  | x :: xs, e :: es, h, ha => by
    cases h with
    | cons h t =>
      rw [List.all_cons, Bool.and_eq_true] at ha
      have ih := ints_txt t ha.2
      have hp : plainD e = true := by
        cases e <;> first | rfl | exact absurd (show false = true from ha.1) (by decide)
      obtain ⟨i, rfl, rfl⟩ := plain_int h hp
      rw [ih]
      rfl
theorem txt_ints {N : Addr → Prop} {H : Hp} {x : V} {d : PyData} (h : Dx N H x d) (ht : textD d = true) : ∃ p, x = .ref p ∧ H p = some (.tup ((intsD d).map V.int)) := by
  obtain ⟨p, xs, es, rfl, rfl, hp, _, hxs⟩ := tup_dx h (text_tup ht)
  have zt : textD (.tuple es) = (decide (es.length ≤ 4096) && es.all letterD) := rfl
  rw [zt, Bool.and_eq_true] at ht
  refine ⟨p, rfl, ?_⟩
  rw [hp, ints_txt hxs ht.2]
  rfl
theorem are_blk {N : Addr → Prop} {H : Hp} {cs : List Nat} {kvs : List (Key × V)} {ds : List PyData} (h : areB cs kvs ds = true) (hx : DxAll N H (kvs.map (·.2)) ds) {c : Nat} (hc : c ∈ cs) :
    ∃ p d, valV kvs (kS c) = some (.ref p) ∧ H p = some (.tup ((blkK kvs ds c).map V.int)) ∧ lookK kvs ds (kS c) = some d ∧ d ∈ ds ∧ okVal d = true := by
  unfold areB at h
  rw [Bool.and_eq_true] at h
  have hv := List.all_eq_true.mp h.2 c (mem_met.mpr hc)
  unfold hasVal at hv
  unfold blkK
  rcases look_val (q := kS c) hx with ⟨_, h2⟩ | ⟨v, d, h1, h2, h3, h4⟩
  · rw [h2] at hv; cases hv
  · rw [h2] at hv
    simp only at hv
    have ht : textD d = true := by
      unfold okVal at hv
      rw [Bool.and_eq_true] at hv
      exact hv.1
    obtain ⟨p, rfl, hp⟩ := txt_ints h3 ht
    exact ⟨p, d, h1, by rw [h2]; exact hp, h2, h4, hv⟩
theorem cut_at (xs : List V) (h n : Nat) : cutV xs (some (h : Int)) (some ((h + n : Nat) : Int)) = (xs.drop h).take n := by
  unfold cutV
  rw [HT.sIx_nat, HT.sIx_nat]
  rcases Nat.lt_or_ge h xs.length with e | e
  · rw [Nat.min_eq_left (Nat.le_of_lt e), List.take_eq_take_iff, List.length_drop]
    omega
  · rw [Nat.min_eq_right e, List.drop_of_length_le (Nat.le_refl _), List.drop_of_length_le e]
    simp
theorem flat_takeF {f : Nat → List Int} {cs : List Nat} {i c : Nat} (h : cs[i]? = some c) : (cs.take (i + 1)).flatMap f = (cs.take i).flatMap f ++ f c := by
  rw [List.take_add_one, h, List.flatMap_append]
  simp
theorem flat_pre {f : Nat → List Int} (cs : List Nat) (i : Nat) : (cs.take i).flatMap f <+: cs.flatMap f := by
  refine ⟨(cs.drop i).flatMap f, ?_⟩
  rw [← List.flatMap_append, List.take_append_drop]
def shp : PyData → Bool
  | .tuple [_, .dict _] => true
  | _ => false
theorem txt_txD {ts : List Int} (hl : ts.length ≤ 4096) (hc : ∀ n ∈ ts, 0 ≤ n ∧ n ≤ 999999) : textD (.tuple (ts.map PyData.int)) = true := by
  have zt : textD (.tuple (ts.map PyData.int)) = (decide ((ts.map PyData.int).length ≤ 4096) && (ts.map PyData.int).all letterD) := rfl
  rw [zt, Bool.and_eq_true, List.length_map]
  refine ⟨decide_eq_true hl, List.all_eq_true.mpr fun e he => ?_⟩
  obtain ⟨n, hn, rfl⟩ := List.mem_map.mp he
  have := hc n hn
  show (decide (0 ≤ n) && decide (n ≤ 999999)) = true
  rw [decide_eq_true this.1, decide_eq_true this.2]
  rfl
end
end Mo

set_option pp.maxSteps 300
/-! ### values that stand as a dict; places in universal texts -/
namespace Mo
open PySem PySem.Spec PyProof.Rows L2
def valsD (ns : List Nat) (ad : Nat → Addr) : List (List Nat × V) := ns.map fun c => ([c], V.ref (ad c))
structure VsAt (H : Hp) (a : Addr) (ns : List Nat) (ad : Nat → Addr) (f : Nat → List Int) : Prop where
  ha : H a = some (.dK (dk (valsD ns ad)))
  el : ∀ c ∈ ns, H (ad c) = some (.tup ((f c).map V.int))
theorem VsAt.same {H H' : Hp} {a : Addr} {ns : List Nat} {ad : Nat → Addr} {f : Nat → List Int} (h : VsAt H a ns ad f) (s : Same H H') : VsAt H' a ns ad f := ⟨s _ _ h.ha, fun c hc => s _ _ (h.el c hc)⟩
theorem VsAt.put {H : Hp} {a L : Addr} {ns : List Nat} {ad : Nat → Addr} {f : Nat → List Int} {xs : List V} {o : HO} (h : VsAt H a ns ad f) (hL : H L = some (.lst xs)) : VsAt (upd H L o) a ns ad f := by
  refine ⟨?_, fun c hc => ?_⟩
  · rw [upd_ne]
    · exact h.ha
    · intro z
      have := h.ha
      rw [z, hL] at this
      cases this
  · rw [upd_ne]
    · exact h.el c hc
    · intro z
      have := h.el c hc
      rw [z, hL] at this
      cases this
theorem vals_keys (ns : List Nat) (ad : Nat → Addr) : (valsD ns ad).map (·.1) = ns.map fun c => [c] := by
  unfold valsD
  rw [List.map_map]
  rfl
theorem sing_nodup {ns : List Nat} (h : ns.Nodup) : (ns.map fun c => [c]).Nodup := by
  unfold List.Nodup
  rw [List.pairwise_map]
  exact h.imp fun h e => h (List.cons.inj e).1
theorem vals_get {ns : List Nat} {ad : Nat → Addr} (nd : ns.Nodup) {c : Nat} (hc : c ∈ ns) : valV (dk (valsD ns ad)) (kS c) = some (.ref (ad c)) := by
  obtain ⟨k, hk⟩ := List.getElem?_of_mem hc
  exact dk_some (D := valsD ns ad) (p := [c]) (v := .ref (ad c)) (k := k) (by rw [vals_keys]; exact sing_nodup nd) (by unfold valsD; rw [List.getElem?_map, hk]; rfl)
theorem vals_len (ns : List Nat) (ad : Nat → Addr) : (dk (valsD ns ad)).length = ns.length := by
  rw [dk_len]
  unfold valsD
  exact List.length_map ..
theorem sing_sorted : ∀ {ns : List Nat} {ls : List (List Nat)}, ls.Perm (ns.map fun c => [c]) → ls.Pairwise LeT → ns.Nodup → ∃ qs : List Nat, ls = qs.map (fun c => [c]) ∧ qs.Perm ns ∧ qs.Pairwise (· < ·) := by
  intro ns ls p o nd
  have hs : ∀ l ∈ ls, ∃ c, l = [c] := fun l hl => by
    obtain ⟨c, _, e⟩ := List.mem_map.mp (p.mem_iff.mp hl)
    exact ⟨c, e.symm⟩
  have e : ls = (ls.map fun l => l.headD 0).map fun c => [c] := by
    rw [List.map_map]
    conv => lhs; rw [← List.map_id ls]
    refine List.map_congr_left fun l hl => ?_
    obtain ⟨c, rfl⟩ := hs l hl
    rfl
  have p2 : (ls.map fun l => l.headD 0).Perm ns := by
    have := p.map fun l => l.headD 0
    rw [List.map_map] at this
    have e2 : ns.map ((fun l : List Nat => l.headD 0) ∘ fun c => [c]) = ns := by
      conv => rhs; rw [← List.map_id ns]
      exact List.map_congr_left fun _ _ => rfl
    rw [e2] at this
    exact this
  refine ⟨_, e, p2, ?_⟩
  have nd2 := p2.nodup_iff.mpr nd
  generalize ls.map (fun l => l.headD 0) = qs at *
  subst e
  rw [List.pairwise_map] at o
  refine List.Pairwise.imp (fun {a b} h => ?_) (o.and nd2)
  have h1 : sltB (ch1 b) (ch1 a) = false := h.1
  rw [slt_ch] at h1
  have := of_decide_eq_false h1
  have := h.2
  omega
theorem tzu_ln (l : List (List Nat)) : (tzs l).length = l.length := List.length_map ..
theorem tzu_gt {l : List (List Nat)} {i : Nat} {x : V} (h : (tzs l)[i]? = some x) : ∃ u, l[i]? = some u ∧ x = .str (tx u) := by
  unfold tzs at h
  rw [List.getElem?_map] at h
  obtain ⟨u, h1, h2⟩ := Option.map_eq_some_iff.mp h
  exact ⟨u, h1, h2.symm⟩
def txU (l : List Int) : PyData := .tuple (l.map PyData.int)
theorem look_vals {ad : Nat → Addr} {f : Nat → List Int} : ∀ {ns : List Nat} {c : Nat}, c ∈ ns → lookK (dk (valsD ns ad)) (ns.map fun c => txU (f c)) (kS c) = some (txU (f c))
  | x :: r, c, h => by
    by_cases e : x = c
    · subst e
      exact if_pos rfl
    · have h2 : c ∈ r := (List.mem_cons.mp h).resolve_left fun z => e z.symm
      have e2 : ¬ ((Sum.inr (tx [x]) : Key) = kS c) := fun z => e (List.cons.inj (tx_inj (Sum.inr.inj z))).1
      exact (if_neg e2).trans (look_vals h2)
theorem ints_back (l : List Int) : (l.map PyData.int).map intD = l := by
  induction l with
  | nil => rfl
  | cons a l ih => rw [List.map_cons, List.map_cons, ih]; rfl
theorem blk_vals {ad : Nat → Addr} {f : Nat → List Int} {ns : List Nat} {c : Nat} (h : c ∈ ns) : blkK (dk (valsD ns ad)) (ns.map fun c => txU (f c)) c = f c := by
  unfold blkK
  rw [look_vals h]
  exact ints_back _
theorem okval_txU {l : List Int} (h0 : l ≠ []) (h1 : l.length ≤ 4096) (h2 : ∀ n ∈ l, 0 ≤ n ∧ n ≤ 999999) : okVal (txU l) = true := by
  have z : textD (txU l) = true := txt_txD h1 h2
  unfold okVal
  rw [z]
  cases l with
  | nil => exact absurd rfl h0
  | cons _ _ => rfl
theorem are_vals {ad : Nat → Addr} {f : Nat → List Int} {ns cs : List Nat} (p : ns.Perm (met cs)) (ok : ∀ c ∈ ns, f c ≠ [] ∧ (f c).length ≤ 4096 ∧ ∀ n ∈ f c, 0 ≤ n ∧ n ≤ 999999) : areB cs (dk (valsD ns ad)) (ns.map fun c => txU (f c)) = true := by
  unfold areB
  rw [vals_len, decide_eq_true p.length_eq, Bool.true_and]
  refine List.all_eq_true.mpr fun c hc => ?_
  have hn := p.mem_iff.mpr hc
  unfold hasVal
  rw [look_vals hn]
  obtain ⟨h0, h1, h2⟩ := ok c hn
  exact okval_txU h0 h1 h2
theorem vals_dx {N : Addr → Prop} {H : Hp} {ad : Nat → Addr} {f : Nat → List Int} : ∀ {ns : List Nat}, (∀ c ∈ ns, H (ad c) = some (.tup ((f c).map V.int)) ∧ ¬ N (ad c)) → DxAll N H ((dk (valsD ns ad)).map (·.2)) (ns.map fun c => txU (f c))
  | [], _ => .nil
  | x :: r, h => .cons (.tup (h x List.mem_cons_self).1 (h x List.mem_cons_self).2 (ints_dx _)) (vals_dx fun c hc => h c (List.mem_cons_of_mem _ hc))
/-- the place as data -/
def plcD (s : Nat) (ns : List Nat) (ad : Nat → Addr) (f : Nat → List Int) : PyData := .tuple [.int (s : Int), .dict (((dk (valsD ns ad)).map fun kv => keyD kv.1).zip (ns.map fun c => txU (f c)))]
theorem place_dx {N : Addr → Prop} {H : Hp} {p a : Addr} {s : Nat} {ns : List Nat} {ad : Nat → Addr} {f : Nat → List Int} (hp : H p = some (.tup [.int (s : Int), .ref a])) (np : ¬ N p) (na : ¬ N a) (h : VsAt H a ns ad f) (nn : ∀ c ∈ ns, ¬ N (ad c)) : Dx N H (.ref p) (plcD s ns ad f) :=
  .tup hp np (.cons (.int _) (.cons (.dct h.ha na (vals_dx fun c hc => ⟨h.el c hc, nn c hc⟩)) .nil))
theorem bulk_vals {ad : Nat → Addr} {f : Nat → List Int} {m : Nat} : ∀ {ns : List Nat}, (∀ c ∈ ns, (f c).length ≤ m) → PyData.bulkKv (((dk (valsD ns ad)).map fun kv => keyD kv.1).zip (ns.map fun c => txU (f c))) ≤ ns.length * (2 * m + 10)
  | [], _ => by simp [valsD, dk, PyData.bulkKv]
  | x :: r, h => by
    have ih := bulk_vals (ad := ad) (f := f) (m := m) (ns := r) fun c hc => h c (List.mem_cons_of_mem _ hc)
    have h0 := h x List.mem_cons_self
    have e : ((dk (valsD (x :: r) ad)).map fun kv => keyD kv.1).zip ((x :: r).map fun c => txU (f c)) = (keyD (Sum.inr (tx [x])), txU (f x)) :: ((dk (valsD r ad)).map fun kv => keyD kv.1).zip (r.map fun c => txU (f c)) := rfl
    rw [e]
    simp only [PyData.bulkKv]
    have h1 : (keyD (Sum.inr (tx [x]))).bulk ≤ 1 := by
      show PyData.bulk (.str (tx [x])) ≤ 1
      simp only [PyData.bulk]
      exact Nat.le_refl _
    have h2 : (txU (f x)).bulk ≤ 2 * m + 4 := by
      unfold txU
      simp only [PyData.bulk]
      rw [bulk_ints]
      omega
    rw [List.length_cons, Nat.succ_mul]
    omega
end Mo

/-! ### descents: what the program counts -/
namespace Mo
open PySem PySem.Spec PyProof.Rows L2
theorem offq_zero {q m p : Nat} (hm : m + 1 < q) (z : offq q m p = 0) : p % q = m + 1 := by
  unfold offq at z
  have a := Nat.div_add_mod p q
  have b := Nat.mod_lt p (show 0 < q by omega)
  have e : (p + (q - 1 - m)) % q = (p % q + (q - 1 - m)) % q := by rw [Nat.add_mod, Nat.mod_eq_of_lt (show q - 1 - m < q by omega)]
  rw [e] at z
  by_cases w : p % q + (q - 1 - m) < q
  · rw [Nat.mod_eq_of_lt w] at z
    omega
  · rw [Nat.mod_eq_sub_mod (by omega), Nat.mod_eq_of_lt (by omega)] at z
    omega
/-- the distance as the program counts it -/
theorem dist_off {q m p : Nat} (hm : m < q) : ((p : Int) - (m : Int) - 1).fmod (q : Int) = ((offq q m p : Nat) : Int) := by
  rw [Int.fmod_eq_emod_of_nonneg _ (by omega)]
  unfold offq
  rw [Int.natCast_emod]
  have e : ((p + (q - 1 - m) : Nat) : Int) = ((p : Int) - (m : Int) - 1) + (q : Int) * 1 := by omega
  rw [e, Int.add_mul_emod_self_left]
/-- the new start as the program counts it -/
theorem start_cei {q m s : Nat} (hm : m < q) : ((s : Int) - (m : Int) + (q : Int) - 1).fdiv (q : Int) = ((cei q m s : Nat) : Int) := by
  rw [Int.fdiv_eq_ediv_of_nonneg _ (by omega)]
  unfold cei
  rw [Int.natCast_ediv]
  congr 1
  omega
/-- where the first pair stands -/
theorem first_pair {q m s : Nat} (hm : m < q) : ∃ x : Nat, ((m : Int) - (s : Int)).fmod (q : Int) = (x : Int) ∧ x < q ∧ s + x = cei q m s * q + m := by
  refine ⟨cei q m s * q + m - s, ?_, ?_⟩
  all_goals
    have a := Nat.div_add_mod (s + (q - 1 - m)) q
    have b := Nat.mod_lt (s + (q - 1 - m)) (show 0 < q by omega)
    rw [Nat.mul_comm] at a
    unfold cei
    generalize (s + (q - 1 - m)) / q = z at *
    generalize hw : z * q = w at *
  · rw [Int.fmod_eq_emod_of_nonneg _ (by omega)]
    have e : (m : Int) - (s : Int) = ((w + m - s : Nat) : Int) + (q : Int) * (-(z : Int)) := by
      have : (w : Int) = (z : Int) * (q : Int) := by rw [← hw, Int.natCast_mul]
      have h2 : (q : Int) * -(z : Int) = -(w : Int) := by rw [this, Int.mul_neg, Int.mul_comm]
      rw [h2]
      omega
    rw [e, Int.add_mul_emod_self_left, Int.emod_eq_of_lt (by omega) (by omega)]
  · omega
/-- how many pairs there are, as a range with a step counts them -/
theorem pair_count {q m s l x : Nat} (hm : m + 1 < q) (hx : s + x = cei q m s * q + m) (hl : 0 < l) (he : ∀ j, j * q + m + 1 ≠ s + l) (i : Nat) : i < cei q m (s + l) - cei q m s ↔ x + i * q + 1 < l := by
  have p := pair_in (q := q) (m := m) (s := s) (e := s + l) (j := cei q m s + i) (by omega) (he _)
  rw [Nat.add_mul] at p
  constructor
  · intro h
    have := p.mpr ⟨by omega, by omega⟩
    omega
  · intro h
    have := p.mp ⟨by omega, by omega⟩
    omega
theorem not_cut {q m p : Nat} (hm : m + 1 < q) (h : offq q m p ≠ 0) : ∀ j, j * q + m + 1 ≠ p := fun j e => h (by
  unfold offq
  rw [← e, show j * q + m + 1 + (q - 1 - m) = q + j * q by omega, Nat.add_mul_mod_self_right, Nat.mod_self])
theorem off_of_ne {q m p : Nat} (hm : m + 1 < q) (h : p % q ≠ m + 1) : offq q m p ≠ 0 := fun z => h (offq_zero hm z)
theorem rgc_step {x l q n : Nat} (q0 : 0 < q) (q1 : q < 1000) (l1 : l < 100000) (l0 : 0 < l) (h : ∀ i, i < n ↔ x + i * q + 1 < l) (x1 : x < 1000) : RgC (x : Int) ((l : Int) - 1) (q : Int) n := by
  have nl : n ≤ l := by
    rcases Nat.eq_zero_or_pos n with e | e
    · omega
    · have := (h (n - 1)).mp (by omega)
      have h2 : n - 1 ≤ (n - 1) * q := Nat.le_mul_of_pos_right _ q0
      omega
  have e : Builtin.Range.rangeSize (x : Int) ((l : Int) - 1) (q : Int) = (n : Int) := by
    unfold Builtin.Range.rangeSize
    rw [if_pos (by omega)]
    cases n with
    | zero =>
      have := h 0
      rw [if_neg (by omega)]
      rfl
    | succ n =>
      have h1 := (h n).mp (Nat.lt_succ_self n)
      have h2 : ¬ (x + (n + 1) * q + 1 < l) := fun z => by have := (h (n + 1)).mpr z; omega
      rw [Nat.succ_mul] at h2
      rw [if_pos (by have := Nat.zero_le (n * q); omega)]
      have z : (l - 1 - x - 1) / q = n := Nat.div_eq_of_lt_le (by omega) (by rw [Nat.succ_mul]; omega)
      have z2 : ((l : Int) - 1 - (x : Int) - 1) = ((l - 1 - x - 1 : Nat) : Int) := by omega
      rw [z2, ← Int.natCast_ediv, z]
      rfl
  refine ⟨by omega, by omega, ?_, e⟩
  unfold Builtin.Range.small
  rw [e]
  simp only [Builtin.Range.rangeFitsLong, Bool.and_eq_true, Bool.or_eq_true, decide_eq_true_eq, beq_iff_eq, show ((q : Int) > 0) from by omega, if_true]
  refine ⟨⟨⟨⟨⟨?_, ?_⟩, ?_, ?_⟩, ?_, ?_⟩, ?_, ?_⟩, ?_⟩ <;> omega
end Mo

/-! ### a walk whose turn is anything: for comprehensions of two sources -/
namespace Mo
open PySem PySem.Spec PyProof.Rows L2
theorem loop_it {J : It} {n : Nat} {G : Hp → Prop} {Y : Nat → Hp → V → Hp → Prop} {R : V → Hp → (Hp → Prop) → Prop} {H0 : Hp} {Qd : Hp → Prop} (w : Walk J n G Y) (Pv : Nat → Hp → Prop) (h0 : Pv 0 H0) (hG : ∀ i H, i ≤ n → Pv i H → G H)
    (hs : ∀ i x H H', i < n → Pv i H → Y i H x H' → R x H' (Pv (i + 1))) (hd : ∀ H, Pv n H → Qd H) :
    ∃ W : Nat → Nat → Hp → Prop, (∃ m, W 0 m H0) ∧ ∀ i m H, W i m H →
      (J.stop i H ∧ Qd H) ∨ (J.go i H ∧ ∃ Nx : Hp → Prop, (∀ H', Nx H' → ∃ m', m' < m ∧ W (i + 1) m' H') ∧ ∀ x H', J.yld i H x H' → R x H' Nx) := by
  refine ⟨fun i m H => Pv i H ∧ i + m = n, ⟨n, h0, Nat.zero_add n⟩, fun i m H h => ?_⟩
  obtain ⟨p, e⟩ := h
  have g := hG i H (by omega) p
  rcases Nat.eq_zero_or_pos m with z | z
  · have ei : i = n := by omega
    subst ei
    exact .inl ⟨w.stops H g, hd H p⟩
  · have lt : i < n := by omega
    exact .inr ⟨w.goes i H lt g, Pv (i + 1), fun H' q => ⟨m - 1, by omega, q, by omega⟩, fun x H' y => hs i x H H' lt p (w.yields i H x H' lt g y)⟩
end Mo

/-! ### where each value stands first -/
namespace Mo
open PySem PySem.Spec PyProof.Rows L2
theorem vs_get {H : Hp} {a : Addr} {ns : List Nat} {ad : Nat → Addr} {f : Nat → List Int} (va : VsAt H a ns ad f) (nd : ns.Nodup) {c : Nat} (hc : c ∈ ns) : DGet H a (sg c) (some (.ref (ad c))) := by
  have g := DGet.k (k := kS c) va.ha
  rw [vals_get nd hc] at g
  exact g
section
variable {P : Program} {w : World} {K : PySem.W.Frag} {mg : Str → Option Value} {base : Heap}
def spVst : Sp := fun vs H Q _ => ∃ (cs : List Nat) (s : Nat) (a : Addr) (ns : List Nat) (ad : Nat → Addr) (g : Nat → List Nat), vs = [.str (tx cs), .int (s : Nat), .ref a] ∧ cs.length ≤ 40 ∧ VsAt H a ns ad (fun c => intL (g c)) ∧ ns.Nodup ∧ (∀ c ∈ cs, c ∈ ns) ∧
  ∀ H' p, Same H H' → H p = none → H' p = some (.dK (dk (oneD (met cs) fun c => .int (staN s g cs c : Nat)))) → Q (.ref p) H'
theorem ok_vst {k : Nat} (T : Txt K mg) : FnOk P w K mg base CX0 (k + 1) T.aValueStarts T.dValueStarts ["pattern", "start", "values"] spVst := by
  refine T.fValueStarts.ok scValueStarts (fun vs H Q E h => ?_) (fun cdv A outer s H vs Q E hr h => ?_)
  · obtain ⟨_, _, _, _, _, _, rfl, _⟩ := h
    rfl
  · obtain ⟨cs, st, a, ns, ad, g, rfl, hlen, va, nd, inn, q⟩ := h
    refine ⟨_, (pss_cons (ps_set (i := 3) scValueStarts.nd rfl (Or.inl rfl) pe_dnewK)
      (pss_cons (ps_set (i := 4) scValueStarts.nd rfl (Or.inl rfl) (pv 1))
      (pss_cons (ps_for PassesOwn.never rfl (pi_str (pv 0)) (pg_name (i := 5) scValueStarts.nd rfl (Or.inl rfl)) (pss_cons (ps_if (pt_cmp (pc_dnotin (Mo.room1 hr) (pv 5) (pv 3))) (pss_one (ps_dput (Mo.room1 hr) (pv 3) (pv 5) (pv 4) rfl)) pss_nil)
      (pss_one (ps_aug (i := 4) scValueStarts.nd rfl (Or.inl rfl) (pe_callB call_len_seq (by rfl) T.m_len PySem.boot_len (pa_cons (pe_dget (Mo.room1 hr) (pv 2) (pv 5) (fun _ _ => rfl)) pa_nil)) ip_add))))
      (pss_one (ps_ret (pv 3)))))), ?_⟩
    intro D nD
    have s0 := same_new (o := HO.dK []) nD
    refine ⟨_, rfl, _, rfl, tx cs, rfl, for_it walk_str (fun i σ H' => ∃ o5 : Option V, σ = [some (.str (tx cs)), some (.int (st : Nat)), some (.ref a), some (.ref D), some (.int ((st + ((cs.take i).flatMap g).length : Nat) : Int)), o5] ∧ Same H H' ∧ H' D = some (.dK (dk (oneD (met (cs.take i)) fun c => .int (staN st g cs c : Nat))))) ?_ ?_ ?_ ?_⟩
    · exact ⟨none, rfl, s0, upd_same⟩
    · exact fun _ _ _ _ _ => trivial
    · rintro i x σ H1 H1' hi ⟨o5, rfl, s1, hD⟩ ⟨rfl, c, hc, rfl⟩
      rw [tx_get] at hc
      have hcm := List.mem_of_getElem? hc
      have e1 := met_take_snoc hc
      have ml : (met (cs.take i)).length ≤ 40 := Nat.le_trans (met_length_le _) (by rw [List.length_take]; omega)
      have gv := vs_get (va.same s1) nd (inn c hcm)
      have hel := va.el c (inn c hcm)
      have e2 : ((st + ((cs.take (i + 1)).flatMap g).length : Nat) : Int) = ((st + ((cs.take i).flatMap g).length : Nat) : Int) + (((intL (g c)).map V.int).length : Int) := by
        rw [flat_takeN hc, List.length_append, List.length_map, intL_len]
        omega
      have gd := dget_t (p := [c]) hD
      by_cases hm : c ∈ met (cs.take i)
      · rw [one_get (met_nodup _) hm] at gd
        refine ⟨_, rfl, _, rfl, D, _, rfl, gd, _, rfl, iteF ?_⟩
        refine ⟨_, rfl, _, rfl, _, rfl, a, _, rfl, gv, _, _, rfl, .inr (SqT.of (s1 _ _ hel)), _, _, rfl, rfl, some (sg c), ?_, s1, ?_⟩
        · rw [e2]
          rfl
        · rw [e1]
          unfold metStep
          rw [if_pos hm]
          exact hD
      · rw [one_none hm] at gd
        refine ⟨_, rfl, _, rfl, D, _, rfl, gd, _, rfl, iteT ?_⟩
        have sp := Same.put (o := .dK (putK (dk (oneD (met (cs.take i)) fun c => V.int (staN st g cs c : Nat))) (kS c) (V.int ((st + ((cs.take i).flatMap g).length : Nat) : Int)))) s1 nD
        refine ⟨_, rfl, _, rfl, _, rfl, D, _, rfl, DPut.k (k := kS c) hD (fitsLt (by rw [one_len]; omega)), ?_⟩
        refine ⟨_, rfl, _, rfl, _, rfl, a, _, rfl, vs_get (va.same sp) nd (inn c hcm), _, _, rfl, .inr (SqT.of (sp _ _ hel)), _, _, rfl, rfl, some (sg c), ?_, sp, ?_⟩
        · rw [e2]
          rfl
        · have hb : before cs c = cs.take i := before_take hc fun z => hm (mem_met.mpr z)
          have ev : V.int ((st + ((cs.take i).flatMap g).length : Nat) : Int) = V.int (staN st g cs c : Nat) := by
            unfold staN
            rw [hb]
          rw [upd_same, e1, ev]
          unfold metStep
          rw [if_neg hm, ← one_put hm]
          rfl
    · rintro σ H1 ⟨o5, rfl, s1, hD⟩
      rw [tx_size, List.take_length] at hD
      exact ⟨_, rfl, q H1 D s1 nD hD⟩
end
end Mo

/-! ### the search for values: what it is to find -/
namespace Mo
open PySem PySem.Spec PyProof.Rows L2
abbrev Seg := Nat × List Nat
def Fu (f : Nat → List Int) (c : Nat) (b : List Int) : Nat → List Int := fun x => if x = c then b else f x
def flatS (segs : List Seg) : List Nat := segs.flatMap fun s => s.1 :: s.2
theorem flatS_cons (s : Seg) (r : List Seg) : flatS (s :: r) = s.1 :: s.2 ++ flatS r := by
  unfold flatS
  rw [List.flatMap_cons]
def ways (whole : Bool) (ts : List Int) : List Seg → Nat → (Nat → List Int) → List (List (List Int))
  | [], here, _ => if whole = true ∧ here ≠ ts.length then [] else [[]]
  | (c, run) :: rest, here, f => (List.range (ts.length - here)).flatMap fun i =>
      if run.flatMap (Fu f c ((ts.drop here).take (i + 1))) <+: ts.drop (here + (i + 1)) then
        (ways whole ts rest (here + (i + 1) + (run.flatMap (Fu f c ((ts.drop here).take (i + 1)))).length) (Fu f c ((ts.drop here).take (i + 1)))).map fun W => (ts.drop here).take (i + 1) :: W
      else []
/-- the ways with a length given -/
def brn (whole : Bool) (ts : List Int) (c : Nat) (run : List Nat) (rest : List Seg) (here : Nat) (f : Nat → List Int) (L : Nat) : List (List (List Int)) :=
  if run.flatMap (Fu f c ((ts.drop here).take L)) <+: ts.drop (here + L) then
    (ways whole ts rest (here + L + (run.flatMap (Fu f c ((ts.drop here).take L))).length) (Fu f c ((ts.drop here).take L))).map fun W => (ts.drop here).take L :: W
  else []
def Fus (f : Nat → List Int) : List Seg → List (List Int) → Nat → List Int
  | s :: rest, b :: W => Fus (Fu f s.1 b) rest W
  | _, _ => f
def Wf : List Nat → List Seg → Prop
  | _, [] => True
  | known, s :: rest => s.1 ∉ known ∧ (∀ x ∈ s.2, x = s.1 ∨ x ∈ known) ∧ Wf (s.1 :: known) rest
theorem pre_split {a b l : List Int} : a ++ b <+: l ↔ a <+: l ∧ b <+: l.drop a.length := by
  constructor
  · rintro ⟨t, rfl⟩
    refine ⟨⟨b ++ t, by simp⟩, ⟨t, ?_⟩⟩
    rw [List.append_assoc, List.drop_left]
  · rintro ⟨⟨t, rfl⟩, u, hu⟩
    rw [List.drop_left] at hu
    exact ⟨u, by rw [List.append_assoc, hu]⟩
theorem pre_len {a l : List Int} (h : a <+: l) : a.length ≤ l.length := h.length_le
/-- what is true of a way -/
def WayS (whole : Bool) (ts : List Int) (segs : List Seg) (here : Nat) (f : Nat → List Int) (W : List (List Int)) : Prop :=
  W.length = segs.length ∧ (∀ b ∈ W, b ≠ []) ∧ (flatS segs).flatMap (Fus f segs W) <+: ts.drop here ∧ (whole = true → here + ((flatS segs).flatMap (Fus f segs W)).length = ts.length)
/-! in order of their lengths -/
def lexL : List Nat → List Nat → Prop
  | a :: as, b :: bs => a < b ∨ (a = b ∧ lexL as bs)
  | _, _ => False
def Wlt (a b : List (List Int)) : Prop := lexL (a.map List.length) (b.map List.length)
/-! lengths left out -/
/-- what holds of a length that leads on -/
structure Goes (whole : Bool) (ts : List Int) (c : Nat) (run : List Nat) (rest : List Seg) (here : Nat) (F : Nat → List Int) (f : Nat → List Int) (known : List Nat) (L : Nat) : Prop where
  fc : F c = (ts.drop here).take L
  fl : (F c).length = L
  fk : ∀ x ∈ known, F x = f x
  pos : ∀ s ∈ rest, F s.1 ≠ []
  pre : (flatS ((c, run) :: rest)).flatMap F <+: ts.drop here
  all : whole = true → here + ((flatS ((c, run) :: rest)).flatMap F).length = ts.length
end Mo

/-! ### the search for values: what a length that leads on must keep -/
namespace Mo
open PySem PySem.Spec PyProof.Rows L2
theorem flatMap_len (F : Nat → List Int) (l : List Nat) : (l.flatMap F).length = (l.map fun x => (F x).length).sum := by
  induction l with
  | nil => rfl
  | cons x r ih => rw [List.flatMap_cons, List.length_append, List.map_cons, List.sum_cons, ih]
theorem sum_add (l : List Nat) (a b : Nat → Nat) : (l.map fun x => a x + b x).sum = (l.map a).sum + (l.map b).sum := by
  induction l with
  | nil => rfl
  | cons x r ih =>
    simp only [List.map_cons, List.sum_cons]
    rw [ih]
    omega
theorem sum_congr {l : List Nat} {a b : Nat → Nat} (h : ∀ x ∈ l, a x = b x) : (l.map a).sum = (l.map b).sum := by
  congr 1
  exact List.map_congr_left h
theorem sum_one {l : List Nat} {e : Nat → Nat} {c : Nat} (h : ∀ x ∈ l, x ≠ c → e x = 0) : (l.map e).sum = l.count c * e c := by
  induction l with
  | nil => simp
  | cons x r ih =>
    rw [List.map_cons, List.sum_cons, ih fun y hy => h y (List.mem_cons_of_mem _ hy)]
    by_cases hx : x = c
    · subst hx
      rw [List.count_cons_self, Nat.add_mul]
      omega
    · rw [List.count_cons_of_ne hx, h x List.mem_cons_self hx]
      omega
theorem sum_heads {l : List Nat} {e : Nat → Nat} : ∀ {hs : List Nat}, hs.Nodup → (∀ x ∈ l, x ∉ hs → e x = 0) → (l.map e).sum = (hs.map fun c => l.count c * e c).sum
  | [], _, h => by
    have : (l.map e).sum = (l.map fun _ => 0).sum := sum_congr fun x hx => h x hx (by simp)
    rw [this]
    have z : ∀ l : List Nat, (l.map fun _ : Nat => 0).sum = 0 := fun l => by
      induction l with
      | nil => rfl
      | cons x r ih => simpa using ih
    exact z l
  | c :: hs, nd, h => by
    obtain ⟨n1, n2⟩ := List.nodup_cons.mp nd
    have e1 : (l.map e).sum = (l.map fun x => (if x = c then e x else 0) + (if x = c then 0 else e x)).sum := sum_congr fun x _ => by split <;> omega
    have e2 : (l.map fun x => if x = c then e x else 0).sum = l.count c * e c := by
      rw [sum_one (c := c) fun x _ hx => if_neg hx, if_pos rfl]
    have e3 : (l.map fun x => if x = c then 0 else e x).sum = (hs.map fun d => l.count d * (if d = c then 0 else e d)).sum := sum_heads n2 fun x hx hn => by
      by_cases z : x = c
      · rw [if_pos z]
      · rw [if_neg z]
        exact h x hx fun w => (List.mem_cons.mp w).elim z hn
    have e4 : (hs.map fun d => l.count d * (if d = c then 0 else e d)).sum = (hs.map fun d => l.count d * e d).sum := sum_congr fun d hd => by
      rw [if_neg (fun z : d = c => n1 (z ▸ hd))]
    rw [e1, sum_add, e2, e3, e4, List.map_cons, List.sum_cons]
def lst (known : List Nat) (f : Nat → List Int) (x : Nat) : Nat := if x ∈ known then (f x).length else 1
def least (known : List Nat) (f : Nat → List Int) (l : List Nat) : Nat := (l.map (lst known f)).sum
theorem Wf_letters : ∀ {segs : List Seg} {known : List Nat} {x : Nat}, Wf known segs → x ∈ flatS segs → x ∈ known ∨ x ∈ segs.map (·.1)
  | [], _, _, _, h => by
    unfold flatS at h
    simp at h
  | s :: r, known, x, wf, h => by
    rw [flatS_cons, List.cons_append, List.mem_cons, List.mem_append] at h
    rw [List.map_cons]
    rcases h with h | h | h
    · rw [h]
      exact .inr List.mem_cons_self
    · rcases wf.2.1 x h with e | e
      · rw [e]
        exact .inr List.mem_cons_self
      · exact .inl e
    · rcases Wf_letters wf.2.2 h with e | e
      · rcases List.mem_cons.mp e with e | e
        · rw [e]
          exact .inr List.mem_cons_self
        · exact .inl e
      · exact .inr (List.mem_cons_of_mem _ e)
theorem Wf_heads : ∀ {segs : List Seg} {known : List Nat}, Wf known segs → (segs.map (·.1)).Nodup ∧ ∀ x ∈ segs.map (·.1), x ∉ known
  | [], _, _ => ⟨List.nodup_nil, fun x h => (List.not_mem_nil h).elim⟩
  | s :: r, known, wf => by
    obtain ⟨h1, h2⟩ := Wf_heads wf.2.2
    rw [List.map_cons]
    refine ⟨List.nodup_cons.mpr ⟨fun z => h2 _ z List.mem_cons_self, h1⟩, fun x hx => ?_⟩
    rcases List.mem_cons.mp hx with rfl | hx
    · exact wf.1
    · exact fun z => h2 x hx (List.mem_cons_of_mem _ z)
section
variable {whole : Bool} {ts : List Int} {c : Nat} {run : List Nat} {rest : List Seg} {here L : Nat} {F f : Nat → List Int} {known : List Nat}
/-- the exact length -/
theorem Goes.total (g : Goes whole ts c run rest here F f known L) (wf : Wf known ((c, run) :: rest)) (h1 : 1 ≤ L) : ((flatS ((c, run) :: rest)).flatMap F).length = least known f (flatS ((c, run) :: rest)) + (flatS ((c, run) :: rest)).count c * (L - 1) + ((rest.map (·.1)).map fun d => (flatS ((c, run) :: rest)).count d * ((F d).length - 1)).sum := by
  obtain ⟨hn, hk⟩ := Wf_heads wf
  rw [List.map_cons] at hn hk
  obtain ⟨hc, hn2⟩ := List.nodup_cons.mp hn
  rw [flatMap_len]
  have e : ((flatS ((c, run) :: rest)).map fun x => (F x).length).sum = ((flatS ((c, run) :: rest)).map fun x => lst known f x + (if x ∈ c :: rest.map (·.1) then (F x).length - 1 else 0)).sum := sum_congr fun x hx => by
    unfold lst
    by_cases k : x ∈ known
    · rw [if_pos k, if_neg (fun z => hk x z k), g.fk x k]
      rfl
    · rw [if_neg k]
      have hx2 : x ∈ c :: rest.map (·.1) := (Wf_letters wf hx).resolve_left k
      rw [if_pos hx2]
      have : 0 < (F x).length := by
        rcases List.mem_cons.mp hx2 with e | e
        · rw [e, g.fl]
          exact h1
        · obtain ⟨s, hs, rfl⟩ := List.mem_map.mp e
          exact List.length_pos_iff.mpr (g.pos s hs)
      omega
  rw [e, sum_add, Nat.add_assoc]
  congr 1
  rw [sum_heads (hs := c :: rest.map (·.1)) hn fun x _ hx => if_neg hx, List.map_cons, List.sum_cons, if_pos List.mem_cons_self, g.fl]
  congr 1
  exact sum_congr fun d hd => by rw [if_pos (List.mem_cons_of_mem _ hd)]
theorem Goes.room (g : Goes whole ts c run rest here F f known L) (wf : Wf known ((c, run) :: rest)) (h1 : 1 ≤ L) (hh : here ≤ ts.length) : here + least known f (flatS ((c, run) :: rest)) + (flatS ((c, run) :: rest)).count c * (L - 1) ≤ ts.length := by
  have h := g.total wf h1
  have hp := pre_len g.pre
  rw [List.length_drop] at hp
  omega
/-- ways to spread what is left -/
def Rep (counts : List Nat) (r : Nat) : Prop := ∃ es : List Nat, es.length = counts.length ∧ (List.zipWith (· * ·) counts es).sum = r
/-- what comes next -/
theorem Goes.next {r : Nat} {run' : List Nat} (g : Goes whole ts c (r :: run') rest here F f known L) : F r <+: ts.drop (here + L) := by
  have h := g.pre
  rw [flatS_cons, List.cons_append, List.flatMap_cons, List.cons_append, List.flatMap_cons, pre_split, pre_split, List.drop_drop, g.fl] at h
  exact h.2.1
theorem Goes.runs (g : Goes whole ts c run rest here F f known L) : run.flatMap F <+: ts.drop (here + L) ∧ (flatS rest).flatMap F <+: ts.drop (here + L + (run.flatMap F).length) := by
  have h := g.pre
  rw [flatS_cons, List.cons_append, List.flatMap_cons, List.flatMap_append, pre_split, pre_split, List.drop_drop, List.drop_drop, g.fl] at h
  exact h.2
end
/-! how often a value stands -/
def stands (ts b : List Int) (i : Nat) : Bool := decide (b <+: ts.drop i)
theorem stands_lt {ts b : List Int} {i : Nat} (hb : b ≠ []) (h : stands ts b i = true) : i < ts.length := by
  have h2 := pre_len (of_decide_eq_true h)
  have := List.length_pos_iff.mpr hb
  rw [List.length_drop] at h2
  omega
def cntF (ts b : List Int) (e : Nat) : Nat := ((List.range ts.length).filter fun i => stands ts b i && decide (e ≤ i)).length
theorem filter_le {l : List Nat} {p q : Nat → Bool} (h : ∀ i ∈ l, p i = true → q i = true) : (l.filter p).length ≤ (l.filter q).length := by
  induction l with
  | nil => exact Nat.le_refl _
  | cons x r ih =>
    have h2 := ih fun i hi => h i (List.mem_cons_of_mem _ hi)
    cases hp : p x with
    | true =>
      rw [List.filter_cons_of_pos hp, List.filter_cons_of_pos (h x List.mem_cons_self hp)]
      exact Nat.succ_le_succ h2
    | false =>
      rw [List.filter_cons_of_neg (by rw [hp]; decide)]
      cases hq : q x with
      | true =>
        rw [List.filter_cons_of_pos hq]
        exact Nat.le_succ_of_le h2
      | false =>
        rw [List.filter_cons_of_neg (by rw [hq]; decide)]
        exact h2
theorem cntF_mono {ts b : List Int} {e e' : Nat} (h : e ≤ e') : cntF ts b e' ≤ cntF ts b e := filter_le fun i _ hi => by
  rw [Bool.and_eq_true] at hi ⊢
  exact ⟨hi.1, decide_eq_true (Nat.le_trans h (of_decide_eq_true hi.2))⟩
theorem filter_or_len {l : List Nat} (nd : l.Nodup) {p q : Nat → Bool} {x : Nat} (hx : x ∈ l) (hq : q x = true) (hp : p x = false) (h : ∀ i ∈ l, p i = true → q i = true) : (l.filter p).length + 1 ≤ (l.filter q).length := by
  induction l with
  | nil => cases hx
  | cons y r ih =>
    obtain ⟨n1, n2⟩ := List.nodup_cons.mp nd
    by_cases e : x = y
    · subst e
      rw [List.filter_cons_of_pos hq, List.filter_cons_of_neg (by rw [hp]; decide), List.length_cons]
      exact Nat.succ_le_succ (filter_le fun i hi => h i (List.mem_cons_of_mem _ hi))
    · have h2 := ih n2 ((List.mem_cons.mp hx).resolve_left e) fun i hi => h i (List.mem_cons_of_mem _ hi)
      cases hpy : p y with
      | true =>
        rw [List.filter_cons_of_pos hpy, List.filter_cons_of_pos (h y List.mem_cons_self hpy), List.length_cons, List.length_cons]
        omega
      | false =>
        rw [List.filter_cons_of_neg (by rw [hpy]; decide)]
        cases hqy : q y with
        | true =>
          rw [List.filter_cons_of_pos hqy, List.length_cons]
          omega
        | false =>
          rw [List.filter_cons_of_neg (by rw [hqy]; decide)]
          exact h2
theorem count_stands {ts : List Int} {F : Nat → List Int} {c : Nat} (hc : F c ≠ []) : ∀ {l : List Nat} {e : Nat}, l.flatMap F <+: ts.drop e → l.count c ≤ cntF ts (F c) e
  | [], _, _ => Nat.zero_le _
  | x :: r, e, h => by
    rw [List.flatMap_cons, pre_split, List.drop_drop] at h
    have ih := count_stands hc h.2
    by_cases hx : x = c
    · subst hx
      rw [List.count_cons_self]
      have hs : stands ts (F x) e = true := decide_eq_true h.1
      have hl := List.length_pos_iff.mpr hc
      refine Nat.le_trans (Nat.succ_le_succ ih) (filter_or_len List.nodup_range (x := e) (List.mem_range.mpr (stands_lt hc hs)) ?_ ?_ fun i _ hi => ?_)
      · rw [hs, decide_eq_true (Nat.le_refl e)]
        rfl
      · rw [decide_eq_false (by omega), Bool.and_false]
      · rw [Bool.and_eq_true] at hi ⊢
        exact ⟨hi.1, decide_eq_true (by have := of_decide_eq_true hi.2; omega)⟩
    · rw [List.count_cons_of_ne hx]
      exact Nat.le_trans ih (cntF_mono (Nat.le_add_right _ _))
/-- enough places beyond the end, for this length and all greater ones -/
theorem Goes.enough {whole : Bool} {ts : List Int} {c : Nat} {run : List Nat} {rest : List Seg} {here L L0 e0 : Nat} {F f : Nat → List Int} {known : List Nat} (g : Goes whole ts c run rest here F f known L) (wf : Wf known ((c, run) :: rest)) (h0 : 1 ≤ L0) (h01 : L0 ≤ L) (he : e0 ≤ here + L + (run.flatMap F).length) :
    (flatS rest).count c ≤ ((List.range ts.length).filter fun i => stands ts ((ts.drop here).take L0) i && decide (e0 < i)).length := by
  have hr := g.runs.2
  have hF : F c ≠ [] := fun z => by
    have := g.fl
    rw [z] at this
    have : (0 : Nat) = L := this
    omega
  cases rest with
  | nil => exact Nat.zero_le _
  | cons s r =>
    have hs : F s.1 ≠ [] := g.pos s List.mem_cons_self
    have hsc : s.1 ≠ c := fun z => wf.2.2.1 (by rw [z]; exact List.mem_cons_self)
    have hl := List.length_pos_iff.mpr hs
    rw [flatS_cons, List.cons_append, List.flatMap_cons, pre_split, List.drop_drop] at hr
    rw [flatS_cons, List.cons_append, List.count_cons_of_ne hsc]
    refine Nat.le_trans (count_stands hF hr.2) (filter_le fun i _ hi => ?_)
    rw [Bool.and_eq_true] at hi ⊢
    refine ⟨?_, decide_eq_true (by have := of_decide_eq_true hi.2; omega)⟩
    have h1 : F c <+: ts.drop i := of_decide_eq_true hi.1
    rw [g.fc] at h1
    refine decide_eq_true (List.IsPrefix.trans ?_ h1)
    exact List.take_prefix_take_left h01
end Mo

/-! ### the search for values: a pattern cut at its first occurrences -/
namespace Mo
open PySem PySem.Spec PyProof.Rows L2
def sgs : Nat → List Nat → List Nat → List Seg
  | 0, _, _ => []
  | _ + 1, _, [] => []
  | n + 1, known, x :: r => (x, r.takeWhile fun y => decide (y = x ∨ y ∈ known)) :: sgs n (x :: known) (r.dropWhile fun y => decide (y = x ∨ y ∈ known))
def segsOf (cs : List Nat) : List Seg := sgs cs.length [] cs
def off (segs : List Seg) (k : Nat) : Nat := (flatS (segs.take k)).length
/-! how many steps -/
def cst : Nat → Nat → Nat
  | 0, _ => 0
  | m + 1, N => 1 + ((List.range N).map fun i => cst m (N - (i + 1))).sum
end Mo

/-! ### the search for values: where its things stand -/
namespace Mo
open PySem PySem.Spec PyProof.Rows L2
def namesS : List Str := ["pattern", "text", "whole", "limit", "found", "failed", "order", "starts", "counts", "marks", "spread"]
def valsS (cs : List Nat) (tp : Addr) (whole : Bool) (limit : Nat) (F D sp cp mp xp : Addr) : List V := [.str (tx cs), .ref tp, .bl whole, .int (limit : Int), .ref F, .ref D, .str (tx (met cs)), .ref sp, .ref cp, .ref mp, .ref xp]
def fldsS (cs : List Nat) (tp : Addr) (whole : Bool) (limit : Nat) (F D sp cp mp xp : Addr) : List (Str × V) := namesS.zip (valsS cs tp whole limit F D sp cp mp xp)
section
variable {cs : List Nat} {tp : Addr} {whole : Bool} {limit : Nat} {F D sp cp mp xp : Addr}
end
/-- all but two things stand -/
def Bq (F D : Addr) (H H' : Hp) : Prop := ∀ b o, b ≠ F → b ≠ D → H b = some o → H' b = some o
theorem Bq.refl (F D : Addr) (H : Hp) : Bq F D H H := fun _ _ _ _ h => h
theorem Bq.trans {F D : Addr} {H H' H2 : Hp} (a : Bq F D H H') (b : Bq F D H' H2) : Bq F D H H2 := fun x o n m h => b x o n m (a x o n m h)
theorem Bq.same {F D : Addr} {H H' : Hp} (s : Same H H') : Bq F D H H' := fun x o _ _ h => s x o h
/-- what changes: a list and a dict of tuples -/
structure Dyn (P : Program) (w : World) (H : Hp) (F D : Addr) (ps : List Addr) (xs : NX) : Prop where
  hF : H F = some (.lst (ps.map V.ref))
  hD : H D = some (nkHO P w D xs)
  ok : NkOk H xs
theorem Dyn.fd {P : Program} {w : World} {H : Hp} {F D : Addr} {ps : List Addr} {xs : NX} (d : Dyn P w H F D ps xs) : F ≠ D := fun z => by
  have h := d.hF
  rw [z, d.hD] at h
  unfold nkHO at h
  cases h
theorem Dyn.ne {P : Program} {w : World} {H : Hp} {F D : Addr} {ps : List Addr} {xs : NX} (d : Dyn P w H F D ps xs) {b : Addr} {o : HO} (h : H b = some o) (n1 : ∀ l, o ≠ .lst l) (n2 : ∀ φ, o ≠ .ext φ) : b ≠ F ∧ b ≠ D := by
  refine ⟨fun z => ?_, fun z => ?_⟩
  · rw [z, d.hF] at h
    exact n1 _ (Option.some.inj h).symm
  · rw [z, d.hD] at h
    unfold nkHO at h
    exact n2 _ (Option.some.inj h).symm
theorem Dyn.same {P : Program} {w : World} {H H' : Hp} {F D : Addr} {ps : List Addr} {xs : NX} (d : Dyn P w H F D ps xs) (s : Same H H') : Dyn P w H' F D ps xs := ⟨s _ _ d.hF, s _ _ d.hD, d.ok.by fun b vs h => s _ _ h⟩
theorem Dyn.new {P : Program} {w : World} {H : Hp} {F D p : Addr} {ps : List Addr} {xs : NX} (d : Dyn P w H F D ps xs) (h : H p = none) : p ≠ F ∧ p ≠ D := ⟨(ne_of_none d.hF h).symm, (ne_of_none d.hD h).symm⟩
/-- a dict of names to things -/
def vlK (ns : List Nat) (ad : Nat → Addr) : List (Key × V) := ns.map fun c => (Sum.inr (tx [c]), V.ref (ad c))
def Ad (ad : Nat → Addr) (c : Nat) (p : Addr) : Nat → Addr := fun x => if x = c then p else ad x
structure VlAt (H : Hp) (a : Addr) (ns : List Nat) (ad : Nat → Addr) (f : Nat → List Int) : Prop where
  ha : H a = some (.dK (vlK ns ad))
  el : ∀ c ∈ ns, H (ad c) = some (.tup ((f c).map V.int))
theorem VlAt.same {H H' : Hp} {a : Addr} {ns : List Nat} {ad : Nat → Addr} {f : Nat → List Int} (h : VlAt H a ns ad f) (s : Same H H') : VlAt H' a ns ad f := ⟨s _ _ h.ha, fun c hc => s _ _ (h.el c hc)⟩
theorem VlAt.bq {P : Program} {w : World} {H H' : Hp} {F D a : Addr} {ps : List Addr} {xs : NX} {ns : List Nat} {ad : Nat → Addr} {f : Nat → List Int} (h : VlAt H a ns ad f) (d : Dyn P w H F D ps xs) (b : Bq F D H H') : VlAt H' a ns ad f := by
  refine ⟨?_, fun c hc => ?_⟩
  · obtain ⟨n1, n2⟩ := d.ne h.ha (fun _ z => nomatch z) (fun _ z => nomatch z)
    exact b _ _ n1 n2 h.ha
  · obtain ⟨n1, n2⟩ := d.ne (h.el c hc) (fun _ z => nomatch z) (fun _ z => nomatch z)
    exact b _ _ n1 n2 (h.el c hc)
def natV (l : List Nat) : List V := l.map fun i => V.int ((i : Nat) : Int)
structure SpAt (H : Hp) (F a : Addr) (ns : List Nat) (ad : Nat → Addr) (g : Nat → List Nat) : Prop where
  ha : H a = some (.dK (vlK ns ad))
  el : ∀ c ∈ ns, H (ad c) = some (.lst (natV (g c))) ∧ ad c ≠ F
theorem SpAt.same {H H' : Hp} {F a : Addr} {ns : List Nat} {ad : Nat → Addr} {g : Nat → List Nat} (h : SpAt H F a ns ad g) (s : Same H H') : SpAt H' F a ns ad g := ⟨s _ _ h.ha, fun c hc => ⟨s _ _ (h.el c hc).1, (h.el c hc).2⟩⟩
theorem SpAt.bq {P : Program} {w : World} {H H' : Hp} {F D a : Addr} {ps : List Addr} {xs : NX} {ns : List Nat} {ad : Nat → Addr} {g : Nat → List Nat} (h : SpAt H F a ns ad g) (d : Dyn P w H F D ps xs) (b : Bq F D H H') : SpAt H' F a ns ad g := by
  refine ⟨?_, fun c hc => ⟨?_, (h.el c hc).2⟩⟩
  · obtain ⟨n1, n2⟩ := d.ne h.ha (fun _ z => nomatch z) (fun _ z => nomatch z)
    exact b _ _ n1 n2 h.ha
  · refine b _ _ (h.el c hc).2 (fun z => ?_) (h.el c hc).1
    have := (h.el c hc).1
    rw [z, d.hD] at this
    unfold nkHO at this
    cases this
def posT (ts : List Int) (x : Int) : List Nat := (List.range ts.length).filter fun i => decide (ts[i]? = some x)
/-- the lists of places of the letters -/
structure MkAt (H : Hp) (F D mp : Addr) (ts : List Int) : Prop where
  ex : ∃ kvs, H mp = some (.dK kvs) ∧ ∀ x ∈ ts, ∃ p, valV kvs (Sum.inl x) = some (.ref p) ∧ H p = some (.lst (natV (posT ts x))) ∧ p ≠ F ∧ p ≠ D
/-- the table of what can be spread -/
structure SxAt (H : Hp) (F D xp : Addr) (counts : List Nat) (size : Nat) : Prop where
  ex : ∃ ps : List Addr, H xp = some (.lst (ps.map V.ref)) ∧ ps.length = counts.length + 1 ∧ ∀ k, k ≤ counts.length → ∃ (p : Addr) (bs : List Bool), ps[k]? = some p ∧ H p = some (.lst (bs.map V.bl)) ∧ bs.length = size + 1 ∧ p ≠ F ∧ p ≠ D ∧ ∀ r, r ≤ size → Rep (counts.drop k) r → bs[r]? = some true
def startsL (cs : List Nat) : List Nat := (List.range ((segsOf cs).length + 1)).map fun k => off (segsOf cs) k
def countsL (cs : List Nat) : List Nat := (met cs).map fun c => cs.count c
/-- the search, made -/
structure SrAt (C : Addr) (H : Hp) (r tp F D : Addr) (cs : List Nat) (ts : List Int) (whole : Bool) (limit : Nat) : Prop where
  ex : ∃ (dx sp cp mp xp : Addr), H r = some (.ins C dx (fldsS cs tp whole limit F D sp cp mp xp)) ∧ H tp = some (.tup (ts.map V.int)) ∧ H sp = some (.lst (natV (startsL cs))) ∧ H cp = some (.lst (natV (countsL cs))) ∧ MkAt H F D mp ts ∧
    (whole = true → SxAt H F D xp (countsL cs) ts.length ∧ xp ≠ F ∧ xp ≠ D) ∧ (∀ b ∈ [r, tp, sp, cp, mp], b ≠ F ∧ b ≠ D)
theorem SrAt.bq {C : Addr} {H H' : Hp} {r tp F D : Addr} {cs : List Nat} {ts : List Int} {whole : Bool} {limit : Nat} (h : SrAt C H r tp F D cs ts whole limit) (b : Bq F D H H') : SrAt C H' r tp F D cs ts whole limit := by
  obtain ⟨dx, sp, cp, mp, xp, h1, h2, h3, h4, ⟨kvs, h5, h6⟩, h7, h8⟩ := h.ex
  have g : ∀ {a : Addr} {o : HO}, a ∈ [r, tp, sp, cp, mp] → H a = some o → H' a = some o := fun {a o} ha e => b _ _ (h8 a ha).1 (h8 a ha).2 e
  refine ⟨dx, sp, cp, mp, xp, g (by simp) h1, g (by simp) h2, g (by simp) h3, g (by simp) h4, ⟨kvs, g (by simp) h5, fun x hx => ?_⟩, fun hw => ?_, h8⟩
  · obtain ⟨p, e1, e2, e3, e4⟩ := h6 x hx
    exact ⟨p, e1, b _ _ e3 e4 e2, e3, e4⟩
  · obtain ⟨⟨ps, e1, e2, e3⟩, e4, e5⟩ := h7 hw
    refine ⟨⟨ps, b _ _ e4 e5 e1, e2, fun k hk => ?_⟩, e4, e5⟩
    obtain ⟨p, bs, g1, g2, g3, g4, g5, g6⟩ := e3 k hk
    exact ⟨p, bs, g1, b _ _ g4 g5 g2, g3, g4, g5, g6⟩
theorem SrAt.same {C : Addr} {H H' : Hp} {r tp F D : Addr} {cs : List Nat} {ts : List Int} {whole : Bool} {limit : Nat} (h : SrAt C H r tp F D cs ts whole limit) (s : Same H H') : SrAt C H' r tp F D cs ts whole limit := h.bq (Bq.same s)
/-- how the search stands at a variable -/
structure StK (cs : List Nat) (ts : List Int) (whole : Bool) (k here : Nat) (f : Nat → List Int) (Q : Nat → Nat → Bool) : Prop where
  hk : k ≤ (segsOf cs).length
  room : here + least ((met cs).take k) f (flatS ((segsOf cs).drop k)) ≤ ts.length
  wh : whole = true → (flatS ((segsOf cs).take k)).flatMap f <+: ts ∧ here = ((flatS ((segsOf cs).take k)).flatMap f).length
  ne : ∀ c ∈ (met cs).take k, f c ≠ []
  sup : ∀ c ∈ (met cs).take k, ∀ i, stands ts (f c) i = true → Q c i = true
  exa : ∀ c ∈ (met cs).take k, c ∈ flatS ((segsOf cs).drop k) → ∀ i, i < ts.length → Q c i = true → stands ts (f c) i = true
  one : ∀ c ∈ (met cs).take k, ∃ i, stands ts (f c) i = true
def gQ (ts : List Int) (Q : Nat → Nat → Bool) (c : Nat) : List Nat := (List.range ts.length).filter (Q c)
end Mo

/-! ### l += m of lists; a dict != {} -/
namespace Mo
open PySem PySem.Spec PyProof.Rows L2
section
variable {X : Cx}
theorem ip_cat : PIp X .Add rExt2 := fun pins s σ H x y u v Q I rx ry h => iop_ext pins s σ H x y u v Q I rx ry h
/-- a dict of anything != {} -/
def rNeNilD : R2 := fun x y H Q => ∃ a b ks, x = .ref a ∧ y = .ref b ∧ H a = some (.dK ks) ∧ H b = some (.dK []) ∧ Q (.bl (!ks.isEmpty)) H
end
end Mo

/-! ### an index at which nothing is cut -/
namespace Mo
open PySem PySem.Spec PyProof.Rows L2
section
variable {P : Program} {w : World} {K : PySem.W.Frag} {mg : Str → Option Value} {base : Heap}
def spUnc : Sp := fun vs H Q _ => ∃ (q : Nat) (sd a : Addr) (ks ns : List Nat) (ad : Nat → Addr) (g : Nat → List Nat) (st : Nat → Nat), vs = [.int q, .ref sd, .ref a] ∧ 0 < q ∧ ks.length ≤ 8 ∧ ks.Nodup ∧ H sd = some (.dK (dk (oneD ks fun c => .int (st c : Nat)))) ∧
  VsAt H a ns ad (fun c => intL (g c)) ∧ ns.Nodup ∧ (∀ c ∈ ks, c ∈ ns) ∧
  ∀ H' m, Same H H' → m ≤ 2 * ks.length → (∀ c ∈ ks, st c % q ≠ m + 1 ∧ (st c + (g c).length) % q ≠ m + 1) → Q (.int (m : Nat)) H'
theorem mod_cut {q : Nat} (hq : 0 < q) (n : Nat) : ((n : Nat) : Int).fmod (q : Int) = ((n % q : Nat) : Int) := by
  rw [Int.fmod_eq_emod_of_nonneg _ (by omega), Int.natCast_emod]
theorem flat_natV (l : List Nat) : (natV l).all flatV = true := by
  unfold natV
  rw [List.all_map, List.all_eq_true]
  exact fun _ _ => rfl
theorem inV_natV (n : Nat) (l : List Nat) : inV (.int (n : Nat)) (natV l) = decide (n ∈ l) := by
  unfold inV natV
  rw [List.any_map]
  rw [Bool.eq_iff_iff, List.any_eq_true, decide_eq_true_iff]
  constructor
  · rintro ⟨x, hx, e⟩
    have e : (((x : Nat) : Int) == ((n : Nat) : Int)) = true := e
    have := eq_of_beq e
    rw [show n = x by omega]
    exact hx
  · exact fun h => ⟨n, h, by show (((n : Nat) : Int) == ((n : Nat) : Int)) = true; exact beq_self_eq_true _⟩
theorem ok_unc {k : Nat} (T : Txt K mg) : FnOk P w K mg base CX0 (k + 1) T.aUncutIndex T.dUncutIndex ["size", "starts", "values"] spUnc := by
  refine T.fUncutIndex.ok scUncutIndex (fun vs H Q E h => ?_) (fun cdv A outer s H vs Q E hr h => ?_)
  · obtain ⟨_, _, _, _, _, _, _, _, rfl, _⟩ := h
    rfl
  · obtain ⟨qq, sd, a, ks, ns, ad, g, st, rfl, q0, k8, knd, hsd, va, nnd, inn, q⟩ := h
    refine ⟨_, (pss_cons (ps_lock (ps_setLc (i := 3) (own := [("name", 4)]) (g := gName 4) (tt := tYes) rfl scUncutIndex.nd rfl rfl (sw_true rfl rfl rfl (by decide +kernel)) (pi_keys (pv 1)) (blkOk_by (N := ["size", "starts", "values", "cuts", "name", "mark"]) (sc := defScope sUncutIndex) (by decide +kernel)) (fun _ _ _ _ _ => pg_name (i := 4) scUncutIndex.nd rfl (Or.inl rfl)) (fun _ _ _ _ _ => pts_nil) (fun _ _ _ _ _ => (pe_op op_modN (pe_dget (Mo.room1 hr) (pv 1) (pv 4) (fun _ _ => rfl)) (pv 0)))))
      (pss_cons (ps_aug (i := 3) scUncutIndex.nd rfl (Or.inl rfl) (pe_lock (pe_lc (own := [("name", 4)]) (g := gName 4) (tt := tYes) rfl scUncutIndex.nd (pi_keys (pv 1)) (blkOk_by (N := ["size", "starts", "values", "cuts", "name", "mark"]) (sc := defScope sUncutIndex) (by decide +kernel)) (fun _ _ _ _ _ => pg_name (i := 4) scUncutIndex.nd rfl (Or.inl rfl)) (fun _ _ _ _ _ => pts_nil) (fun _ _ _ _ _ => (pe_op op_modN (pe_op op_add (pe_dget (Mo.room1 hr) (pv 1) (pv 4) (fun _ _ => rfl)) (pe_callB (Mo.call_len_seqK (K := K) rfl) (by rfl) T.m_len PySem.boot_len (pa_cons (pe_dget (Mo.room1 hr) (pv 2) (pv 4) (fun _ _ => rfl)) pa_nil))) (pv 0))))) Mo.ip_cat)
      (pss_cons (ps_set (i := 5) scUncutIndex.nd rfl (Or.inl rfl) pe_int)
      (pss_cons (ps_while PassesOwn.never (pt_cmpR op_in_seq (pe_op op_add (pv 5) pe_int) (pv 3) rfl) (pss_one (ps_aug (i := 5) scUncutIndex.nd rfl (Or.inl rfl) pe_int ip_add)))
      (pss_one (ps_ret (pv 5))))))), ?_⟩
    have sdl : (dk (oneD ks fun c => V.int (st c : Nat))).length = ks.length := one_len _ _
    have ne1 : ∀ c ∈ ns, ad c ≠ sd := fun c hc z => by
      have := va.el c hc
      rw [z, hsd] at this
      cases this
    -- the starts
    refine ⟨sd, _, hsd, trivial, fun od => ⟨_, rfl, sd, od, rfl, .inl ⟨_, upd_same, fun D nD => ?_⟩⟩⟩
    have frz0 : upd H sd (.frz od (.dK (dk (oneD ks fun c => V.int (st c : Nat))))) sd = some (.frz od (.dK (dk (oneD ks fun c => V.int (st c : Nat))))) := upd_same
    have nDa : D ≠ sd := fun z => by rw [z, frz0] at nD; cases nD
    have nD0 : H D = none := by rw [upd_ne nDa] at nD; exact nD
    have back : ∀ {H' : Hp}, Same (upd H sd (.frz od (.dK (dk (oneD ks fun c => V.int (st c : Nat)))))) H' → Same H (upd H' sd (.dK (dk (oneD ks fun c => V.int (st c : Nat))))) := fun s => lock_samE hsd s
    generalize upd H sd (.frz od (.dK (dk (oneD ks fun c => V.int (st c : Nat))))) = Hz at *
    refine lc_it walk_keys (fun i H' => H' sd = some (.frz od (.dK (dk (oneD ks fun c => V.int (st c : Nat))))) ∧ Same Hz H' ∧ H' D = some (.lst (((ks.take i).map fun c => ((st c % qq : Nat) : Int)).map V.int))) ?_ ?_ ?_ ?_
    · exact ⟨by rw [upd_ne nDa.symm]; exact frz0, same_new nD, upd_same⟩
    · exact fun _ _ _ h => h.1
    · rintro j x H9 H9' hj ⟨h1, s9, hD⟩ ⟨rfl, kk, vv, hkv, rfl⟩
      obtain ⟨c, hc, rfl, rfl⟩ := one_at hkv
      have g1 := dget_r (p := [c]) (.inr ⟨od, h1⟩)
      rw [one_get knd (List.mem_of_getElem? hc)] at g1
      refine ⟨rfl, _, rfl, _, rfl, sd, _, rfl, g1, _, rfl, _, _, rfl, rfl, by omega, _, hD, fitsLt (by rw [List.length_map, List.length_map, List.length_take]; omega), by rw [upd_ne nDa.symm]; exact h1, Same.put s9 nD, ?_⟩
      rw [upd_same, List.take_add_one, hc]
      dsimp only
      rw [mod_cut q0, List.map_append, List.map_append]
      rfl
    rintro H9 ⟨h1, s9, hD⟩
    rw [one_len, List.take_length] at hD
    refine ⟨h1, ?_⟩
    have s1 := back s9
    have hD1 : upd H9 sd (.dK (dk (oneD ks fun c => V.int (st c : Nat)))) D = some (.lst ((ks.map fun c => ((st c % qq : Nat) : Int)).map V.int)) := by rw [upd_ne nDa]; exact hD
    clear s9 hD h1 frz0 back nD
    generalize upd H9 sd (.dK (dk (oneD ks fun c => V.int (st c : Nat)))) = H1 at *
    -- the ends
    have hsd1 := s1 _ _ hsd
    have va1 := va.same s1
    refine ⟨_, rfl, sd, _, hsd1, trivial, fun od => ⟨_, rfl, sd, od, rfl, .inl ⟨_, upd_same, fun E nE => ?_⟩⟩⟩
    have frz0 : upd H1 sd (.frz od (.dK (dk (oneD ks fun c => V.int (st c : Nat))))) sd = some (.frz od (.dK (dk (oneD ks fun c => V.int (st c : Nat))))) := upd_same
    have nEa : E ≠ sd := fun z => by rw [z, frz0] at nE; cases nE
    have nE0 : H1 E = none := by rw [upd_ne nEa] at nE; exact nE
    have back : ∀ {H' : Hp}, Same (upd H1 sd (.frz od (.dK (dk (oneD ks fun c => V.int (st c : Nat)))))) H' → Same H1 (upd H' sd (.dK (dk (oneD ks fun c => V.int (st c : Nat))))) := fun s => lock_samE hsd1 s
    have gv : ∀ c ∈ ks, DGet (upd H1 sd (.frz od (.dK (dk (oneD ks fun c => V.int (st c : Nat)))))) a (sg c) (some (.ref (ad c))) := fun c hc => by
      by_cases e : a = sd
      · have := va1.ha
        rw [e, hsd1] at this
        have e2 := HO.dK.inj (Option.some.inj this)
        have g := dget_r (H := upd H1 sd (.frz od (.dK (dk (oneD ks fun c => V.int (st c : Nat)))))) (a := sd) (p := [c]) (.inr ⟨od, frz0⟩)
        have e3 : valV (dk (oneD ks fun c => V.int (st c : Nat))) (Sum.inr (tx [c])) = some (.ref (ad c)) := by
          rw [e2]
          exact vals_get nnd (inn c hc)
        rw [e3] at g
        rw [e]
        exact g
      · have g := vs_get va1 nnd (inn c hc)
        have h0 : upd H1 sd (.frz od (.dK (dk (oneD ks fun c => V.int (st c : Nat))))) a = some (.dK (dk (valsD ns ad))) := by rw [upd_ne e]; exact va1.ha
        have g := dget_r (p := [c]) (.inl h0)
        rw [show valV (dk (valsD ns ad)) (Sum.inr (tx [c])) = some (.ref (ad c)) from vals_get nnd (inn c hc)] at g
        exact g
    have ge : ∀ c ∈ ks, upd H1 sd (.frz od (.dK (dk (oneD ks fun c => V.int (st c : Nat))))) (ad c) = some (.tup ((intL (g c)).map V.int)) := fun c hc => by
      rw [upd_ne (ne1 c (inn c hc))]
      exact va1.el c (inn c hc)
    have keepG : ∀ {H' : Hp} {c : Nat}, Same (upd H1 sd (.frz od (.dK (dk (oneD ks fun c => V.int (st c : Nat)))))) H' → c ∈ ks → DGet H' a (sg c) (some (.ref (ad c))) := fun {H' c} s hc => by
      rcases gv c hc with ⟨kvs, k, r, e1, e2⟩ | ⟨kvs, k, b, r, e1, e2, e3⟩
      · exact .inl ⟨kvs, k, rd_keep r s, e1, e2⟩
      · exact .inr ⟨kvs, k, b, rd_keep r s, e1, s _ _ e2, e3⟩
    generalize upd H1 sd (.frz od (.dK (dk (oneD ks fun c => V.int (st c : Nat))))) = Hz at *
    refine lc_it walk_keys (fun i H' => H' sd = some (.frz od (.dK (dk (oneD ks fun c => V.int (st c : Nat))))) ∧ Same Hz H' ∧ H' E = some (.lst (((ks.take i).map fun c => (((st c + (g c).length) % qq : Nat) : Int)).map V.int))) ?_ ?_ ?_ ?_
    · exact ⟨by rw [upd_ne nEa.symm]; exact frz0, same_new nE, upd_same⟩
    · exact fun _ _ _ h => h.1
    · rintro j x H9 H9' hj ⟨h1, s9, hD⟩ ⟨rfl, kk, vv, hkv, rfl⟩
      obtain ⟨c, hc, rfl, rfl⟩ := one_at hkv
      have hck := List.mem_of_getElem? hc
      have g1 := dget_r (p := [c]) (.inr ⟨od, h1⟩)
      rw [one_get knd hck] at g1
      refine ⟨rfl, _, rfl, _, rfl, sd, _, rfl, g1, _, rfl, _, rfl, a, _, rfl, keepG s9 hck, _, _, rfl, .inr (SqT.of (s9 _ _ (ge c hck))), _, _, rfl, rfl, _, rfl, _, (qq : Int), rfl, rfl, by omega, _, hD, fitsLt (by rw [List.length_map, List.length_map, List.length_take]; omega), by rw [upd_ne nEa.symm]; exact h1, Same.put s9 nE, ?_⟩
      rw [upd_same, List.take_add_one, hc]
      dsimp only
      rw [List.length_map, intL_len, ← Int.natCast_add, mod_cut q0, List.map_append, List.map_append]
      rfl
    rintro H9 ⟨h1, s9, hD⟩
    rw [one_len, List.take_length] at hD
    refine ⟨h1, ?_⟩
    have s2 := back s9
    have hE2 : upd H9 sd (.dK (dk (oneD ks fun c => V.int (st c : Nat)))) E = some (.lst ((ks.map fun c => (((st c + (g c).length) % qq : Nat) : Int)).map V.int)) := by rw [upd_ne nEa]; exact hD
    clear s9 hD h1 frz0 back nE gv ge keepG
    generalize upd H9 sd (.dK (dk (oneD ks fun c => V.int (st c : Nat)))) = H2 at *
    have hD2 := s2 _ _ hD1
    refine ⟨D, E, _, _, rfl, rfl, hD2, hE2, fits5 (by rw [List.length_map, List.length_map, List.length_map, List.length_map]; omega), ?_⟩
    have s12 := s1.trans s2
    have s3 := Same.put (o := .lst ((ks.map fun c => ((st c % qq : Nat) : Int)).map V.int ++ (ks.map fun c => (((st c + (g c).length) % qq : Nat) : Int)).map V.int)) s12 nD0
    have hC : upd H2 D (.lst ((ks.map fun c => ((st c % qq : Nat) : Int)).map V.int ++ (ks.map fun c => (((st c + (g c).length) % qq : Nat) : Int)).map V.int)) D = some (.lst (natV (ks.map (fun c => st c % qq) ++ ks.map fun c => (st c + (g c).length) % qq))) := by
      rw [upd_same]
      unfold natV
      rw [List.map_append, List.map_map, List.map_map, List.map_map, List.map_map]
      rfl
    generalize upd H2 D (.lst ((ks.map fun c => ((st c % qq : Nat) : Int)).map V.int ++ (ks.map fun c => (((st c + (g c).length) % qq : Nat) : Int)).map V.int)) = H3 at *
    obtain ⟨m, hm1, hm2, hm3⟩ := uncut (ks.map (fun c => st c % qq) ++ ks.map fun c => (st c + (g c).length) % qq) (2 * ks.length) (by rw [List.length_append, List.length_map, List.length_map]; omega)
    refine ⟨fun n σ H' => ∃ (o4 : Option V) (j : Nat), σ = [some (.int (qq : Nat)), some (.ref sd), some (.ref a), some (.ref D), o4, some (.int (j : Nat))] ∧ H' = H3 ∧ j + n = m, ⟨m, _, 0, rfl, rfl, by omega⟩, ?_⟩
    rintro n σ H4 ⟨o4, j, rfl, rfl, hj⟩
    refine ⟨_, rfl, _, 1, rfl, rfl, _, rfl, D, _, rfl, .inl (SqL.of hC), rfl, flat_natV _, decide (j + 1 ∈ ks.map (fun c => st c % qq) ++ ks.map fun c => (st c + (g c).length) % qq), ?_, ite2 (fun e => ?_) (fun e => ?_)⟩
    · rw [← inV_natV]
      rfl
    · cases n with
      | zero =>
        rw [show j = m by omega] at e
        exact absurd (of_decide_eq_true e) hm2
      | succ n =>
        refine ⟨fun σ H' => ∃ (o4 : Option V) (j : Nat), σ = [some (.int (qq : Nat)), some (.ref sd), some (.ref a), some (.ref D), o4, some (.int (j : Nat))] ∧ H' = H4 ∧ j + n = m, fun σ' H' h => ⟨n, Nat.lt_succ_self n, h⟩, ?_⟩
        exact ⟨_, rfl, _, 1, rfl, rfl, _, j + 1, rfl, rfl, by omega⟩
    · have hjm : j = m := by
        by_cases z : j < m
        · exact absurd (hm3 j z) (fun y => e (decide_eq_true y))
        · omega
      subst hjm
      refine ⟨_, rfl, q H4 j s3 hm1 fun c hc => ⟨fun z => ?_, fun z => ?_⟩⟩
      · exact hm2 (List.mem_append_left _ (List.mem_map.mpr ⟨c, hc, z⟩))
      · exact hm2 (List.mem_append_right _ (List.mem_map.mpr ⟨c, hc, z⟩))
end
end Mo

namespace Mo
open PySem PySem.Spec PyProof.Rows L2
/-! ### variable sets -/
def vset (cs : List Nat) : List Nat := lett.filter fun c => decide (c ∈ cs)
theorem filter_snoc {p : Nat → Bool} {cs : List Nat} {i c : Nat} (h : cs[i]? = some c) : (cs.take (i + 1)).filter p = (cs.take i).filter p ++ (if p c = true then [c] else []) := by
  rw [List.take_add_one, h, List.filter_append]
  cases hp : p c <;> simp [List.filter, hp]
theorem lett_asc : lett.Pairwise (· < ·) := by decide
theorem vset_asc (cs : List Nat) : (vset cs).Pairwise (· < ·) := List.Pairwise.filter _ lett_asc
theorem mem_vset {cs : List Nat} {c : Nat} : c ∈ vset cs ↔ c ∈ lett ∧ c ∈ cs := by
  unfold vset
  rw [List.mem_filter]
  simp
theorem vset_of_asc {ls : List Nat} (h : ls.Pairwise (· < ·)) (hl : Low ls) : ls = vset ls := asc_ext ls (vset ls) h (vset_asc ls) fun x => by
  rw [mem_vset]
  exact ⟨fun hx => ⟨low_lett hl x hx, hx⟩, fun hx => hx.2⟩
section
variable {P : Program} {w : World} {K : PySem.W.Frag} {mg : Str → Option Value} {base : Heap}
def spIsVS (K : PySem.W.Frag) : Sp := fun vs H Q _ => ∃ x, vs = [x] ∧
  ((∃ cs : List Nat, x = .str (tx cs) ∧ ∀ H', Same H H' → Q (.bl (decide (V.str (tx cs) = V.str (tx (vset cs))))) H') ∨ (∃ t, TyX K H x (.type t) ∧ kitB t "str" = some false ∧ ∀ H', Same H H' → Q (.bl false) H'))
theorem ok_isVS {k : Nat} (T : Txt K mg) : FnOk P w K mg base CX0 (k + 1) T.aIsVariableSet T.dIsVariableSet ["value"] (spIsVS K) := by
  refine T.fIsVariableSet.ok scIsVariableSet (fun vs H Q E h => ?_) (fun cdv A outer s H vs Q E hr h => ?_)
  · obtain ⟨x, rfl, _⟩ := h
    rfl
  · obtain ⟨x, rfl, h⟩ := h
    refine ⟨_, (pss_one (ps_ret (pe_and (pe_callB call_isi (by rfl) T.m_isinstance (by decide +kernel) (pa_cons (pv 0) (pa_cons (pe_bltn (v := .ty "str") (by rfl) T.m_str (by decide +kernel) rfl) pa_nil))) (pe_one (pe_cmpR op_eq (pv 0) (pe_join pe_str (pe_lc (own := [("name", 1)]) (g := gName 1) rfl scIsVariableSet.nd (pi_str (pe_glob (v := .str "abcdefghijklmnopqrstuvwxyz") rfl T.m_VARIABLES ⟨_, rfl⟩)) (blkOk_by (N := ["value", "name"]) (sc := defScope sIsVariableSet) (by decide +kernel)) (fun _ _ _ _ _ => pg_name (i := 1) scIsVariableSet.nd rfl (Or.inl rfl)) (fun _ _ _ _ _ => pts_one (pt_cmpR op_in_sign (pv 1) (pv 0) rfl)) (fun _ _ _ _ _ => (pv 1)))) (nomark _)))))), ?_⟩
    rcases h with ⟨cs, rfl, q⟩ | ⟨t, ty, hk, q⟩
    · refine ⟨_, rfl, _, _, .type "str", .type "str", true, rfl, .ty "str", .base (.str _), kit_ty (by decide +kernel), true, rfl, ?_⟩
      refine ⟨_, rfl, ⟨_, rfl⟩, Str.ofString "abcdefghijklmnopqrstuvwxyz", rfl, fun D nD => lc_it walk_str (fun i H' => Same H H' ∧ H' D = some (.lst (((lett.take i).filter fun c => decide (c ∈ cs)).map sg))) ?_ ?_ ?_ ?_⟩
      · exact ⟨same_new nD, upd_same⟩
      · exact fun _ _ _ _ => trivial
      · rintro i x H1 H2 hi ⟨s1, hD⟩ ⟨rfl, c, hc, rfl⟩
        rw [← Array.getElem?_toList, lett_text] at hc
        have hlt : i < 26 := (List.getElem?_eq_some_iff.mp hc).1
        have hfl : ((lett.take i).filter fun c => decide (c ∈ cs)).length ≤ 26 := Nat.le_trans (List.length_filter_le _ _) (by rw [List.length_take]; exact Nat.min_le_right _ _)
        refine ⟨rfl, _, rfl, _, rfl, c, _, rfl, rfl, _, rfl, ?_⟩
        by_cases e : c ∈ cs
        · rw [tx_list, decide_eq_true e]
          refine ⟨_, rfl, _, hD, fitsLt (by rw [List.length_map]; omega), Same.put s1 nD, ?_⟩
          rw [upd_same, filter_snoc hc, if_pos (decide_eq_true e), List.map_append]
          rfl
        · rw [tx_list, decide_eq_false e]
          refine ⟨s1, ?_⟩
          rw [hD, filter_snoc hc, if_neg (by rw [decide_eq_false e]; exact Bool.false_ne_true), List.append_nil]
      · rintro H1 ⟨s1, hD⟩
        have e26 : (Str.ofString "abcdefghijklmnopqrstuvwxyz").cps.size = 26 := by decide +kernel
        have ev : (lett.take 26).filter (fun c => decide (c ∈ cs)) = vset cs := rfl
        rw [e26, ev] at hD
        have hfl : (vset cs).length ≤ 26 := List.length_filter_le _ _
        refine ⟨_, D, (vset cs).map fun c => (⟨#[c]⟩ : Str), rfl, rfl, .inl (SqL.of (by rw [← sgs_map]; exact hD)), sgs_room (by omega), rfl, ?_⟩
        rw [join_signs]
        exact q H1 s1
    · exact ⟨_, rfl, _, _, .type t, .type "str", false, rfl, .ty "str", ty, kit_ty hk, false, rfl, q H (Same.refl H)⟩
end
end Mo

/-! ### the law's walk down a list of free sets -/
namespace Mo
open PySem PySem.Spec PyProof.Rows L2
theorem sgs_fl (cs : List Nat) : (cs.map sg).all flatV = true := by
  rw [sgs_map]
  exact flat_strs' _
theorem natV_snoc {f : Nat → Nat} {ls : List Nat} {i c : Nat} (h : ls[i]? = some c) : natV ((ls.take (i + 1)).map f) = natV ((ls.take i).map f) ++ [V.int ((f c : Nat) : Int)] := by
  rw [List.take_add_one, h]
  unfold natV
  simp
section
variable {P : Program} {w : World} {K : PySem.W.Frag} {mg : Str → Option Value} {base : Heap}
def spIsf : Sp := fun vs H Q _ => ∃ cs ls : List Nat, vs = [.str (tx cs), .str (tx ls)] ∧ cs.length ≤ 40 ∧ ls.length ≤ 40 ∧ (∀ c ∈ ls, c ∈ cs) ∧ Free (nbr cs) ls ∧ ∀ H', Same H H' → Q (.bl true) H'
theorem ok_lisf {k : Nat} (T : Txt K mg) : FnOk P w K mg base CX0 (k + 2) T.aLIsFree T.dLIsFree ["_law_pattern", "_law_letters"] spIsf := by
  have GLComponents : FnOk P w K mg base CX0 (k + 1) T.aLComponents T.dLComponents ["_law_pattern"] spCmp := ok_cmp T
  refine T.fLIsFree.ok scLIsFree (fun vs H Q E h => ?_) (fun cdv A outer s H vs Q E hr h => ?_)
  · obtain ⟨_, _, rfl, _⟩ := h
    rfl
  · obtain ⟨cs, ls, rfl, hl, h26, sub, fr, q⟩ := h
    refine ⟨_, (pss_cons (ps_set (i := 2) scLIsFree.nd rfl (Or.inr rfl) (pe_call GLComponents hr (by rfl) T.gLComponents T.fLComponents.kp T.bLComponents .nil pass0 (pa_cons (pv 0) pa_nil)))
      (pss_cons (ps_if (pt_cmpR (Mo.op_neNil hr.units) (pe_lc (own := [("_law_sign", 3)]) (g := gName 3) rfl scLIsFree.nd (pi_str (pv 1)) (blkOk_by (N := ["_law_pattern", "_law_letters", "_law_label", "_law_sign", "_law_left", "_law_right", "_law_number"]) (sc := defScope sLIsFree) (by decide +kernel)) (fun _ _ _ _ _ => pg_name (i := 3) scLIsFree.nd rfl (Or.inl rfl)) (fun _ _ _ _ _ => pts_one (pt_cmpR op_notIn_sign (pv 3) (pv 0) rfl)) (fun _ _ _ _ _ => (pv 3))) (pe_lst pa_nil) (nomark _)) (pss_one (ps_ret pe_bl)) pss_nil)
      (pss_cons (ps_asg (pe_tup (pa_cons (pe_lc (own := [("_law_sign", 3)]) (g := gName 3) (tt := tYes) rfl scLIsFree.nd (pi_str (pv 1)) (blkOk_by (N := ["_law_pattern", "_law_letters", "_law_label", "_law_sign", "_law_left", "_law_right", "_law_number"]) (sc := defScope sLIsFree) (by decide +kernel)) (fun _ _ _ _ _ => pg_name (i := 3) scLIsFree.nd rfl (Or.inl rfl)) (fun _ _ _ _ _ => pts_nil) (fun _ _ _ _ _ => (pe_dget (Mo.room1 hr) (pv 2) (pe_tup (pa_cons (pv 3) (pa_cons pe_int pa_nil))) (fun _ _ => rfl)))) (pa_cons (pe_lc (own := [("_law_sign", 3)]) (g := gName 3) (tt := tYes) rfl scLIsFree.nd (pi_str (pv 1)) (blkOk_by (N := ["_law_pattern", "_law_letters", "_law_label", "_law_sign", "_law_left", "_law_right", "_law_number"]) (sc := defScope sLIsFree) (by decide +kernel)) (fun _ _ _ _ _ => pg_name (i := 3) scLIsFree.nd rfl (Or.inl rfl)) (fun _ _ _ _ _ => pts_nil) (fun _ _ _ _ _ => (pe_dget (Mo.room1 hr) (pv 2) (pe_tup (pa_cons (pv 3) (pa_cons pe_int pa_nil))) (fun _ _ => rfl)))) pa_nil))) (pg_tup (by rfl) (pgs_cons (pg_name (i := 4) scLIsFree.nd rfl (Or.inl rfl)) (pgs_cons (pg_name (i := 5) scLIsFree.nd rfl (Or.inr rfl)) pgs_nil))))
      (pss_one (ps_ret (pe_cmpR (Mo.op_eqNil hr.units) (pe_lc (own := [("_law_number", 6)]) (g := gName 6) rfl scLIsFree.nd (pi_list (pv 4)) (blkOk_by (N := ["_law_pattern", "_law_letters", "_law_label", "_law_sign", "_law_left", "_law_right", "_law_number"]) (sc := defScope sLIsFree) (by decide +kernel)) (fun _ _ _ _ _ => pg_name (i := 6) scLIsFree.nd rfl (Or.inl rfl)) (fun _ _ _ _ _ => pts_one (pt_cmpR (Mo.op_in_seqK (K := K) rfl) (pv 6) (pv 5) rfl)) (fun _ _ _ _ _ => (pv 6))) (pe_lst pa_nil) (nomark _))))))), ?_⟩
    refine ⟨_, rfl, cs, rfl, hl, fun H1 L ns lab s1 nL hL mem snd => ?_⟩
    have inn : ∀ c ∈ ls, c ∈ ns := fun c h => (mem c).mpr (sub c h)
    refine ⟨_, rfl, tx ls, rfl, fun D nD => lc_it walk_str (fun i H' => Same H1 H' ∧ H' D = some (.lst [])) ?_ ?_ ?_ ?_⟩
    · exact ⟨same_new nD, upd_same⟩
    · exact fun _ _ _ _ => trivial
    · rintro i x H3 H4 hi ⟨s3, hD⟩ ⟨rfl, c, hc, rfl⟩
      rw [tx_get] at hc
      refine ⟨rfl, _, rfl, _, rfl, c, _, rfl, rfl, _, rfl, ?_⟩
      rw [tx_list, decide_eq_true (sub c (List.mem_of_getElem? hc))]
      exact iteF ⟨s3, hD⟩
    rintro H2 ⟨s2, hD⟩
    refine ⟨Nat.zero_le _, fun E0 nE => ⟨D, E0, [], rfl, rfl, SqL.of ((same_new nE) _ _ hD), SqL.of upd_same, false, rfl, iteF ?_⟩⟩
    have s02 := s2.trans (same_new (o := .lst []) nE)
    have hL2 := s02 _ _ hL
    have t2 := s1.trans s02
    clear s02 s2 hD nD nL s1 hL
    generalize upd H2 E0 (.lst []) = H3 at *
    -- the left labels
    refine ⟨_, rfl, tx ls, rfl, fun D1 nD1 => lc_it walk_str (fun i H' => Same H3 H' ∧ H' D1 = some (.lst (natV ((ls.take i).map (lab 0))))) ?_ ?_ ?_ ?_⟩
    · exact ⟨same_new nD1, upd_same⟩
    · exact fun _ _ _ _ => trivial
    · rintro i x H4 H5 hi ⟨s4, hD4⟩ ⟨rfl, c, hc, rfl⟩
      rw [tx_get] at hc
      refine ⟨rfl, _, rfl, _, rfl, by show 2 ≤ sizeLine; decide, fun b nb => ?_⟩
      have u1 := same_new (o := .tup [sg c, V.int 0]) nb
      have hb1 : upd H5 b (.tup [sg c, V.int 0]) b = some (.tup ((kN 0 c).map kV)) := upd_same
      have g1 := DGet.t (k := kN 0 c) (u1 _ _ (s4 _ _ hL2)) hb1
      rw [lab_get (by decide) (inn c (List.mem_of_getElem? hc))] at g1
      refine ⟨L, _, rfl, g1, _, u1 _ _ hD4, fitsLt (by unfold natV; rw [List.length_map, List.length_map, List.length_take]; omega), Same.put (s4.trans u1) nD1, ?_⟩
      rw [upd_same, natV_snoc hc]
    rintro H4 ⟨s4, hD4⟩
    rw [List.take_of_length_le (by rw [tx_size]; exact Nat.le_refl _)] at hD4
    have hL4 := s4 _ _ hL2
    have t4 := t2.trans s4
    -- the right labels
    refine ⟨_, rfl, tx ls, rfl, fun D2 nD2 => lc_it walk_str (fun i H' => Same H4 H' ∧ H' D2 = some (.lst (natV ((ls.take i).map (lab 1))))) ?_ ?_ ?_ ?_⟩
    · exact ⟨same_new nD2, upd_same⟩
    · exact fun _ _ _ _ => trivial
    · rintro i x H5 H6 hi ⟨s5, hD5⟩ ⟨rfl, c, hc, rfl⟩
      rw [tx_get] at hc
      refine ⟨rfl, _, rfl, _, rfl, by show 2 ≤ sizeLine; decide, fun b nb => ?_⟩
      have u1 := same_new (o := .tup [sg c, V.int 1]) nb
      have hb1 : upd H6 b (.tup [sg c, V.int 1]) b = some (.tup ((kN 1 c).map kV)) := upd_same
      have g1 := DGet.t (k := kN 1 c) (u1 _ _ (s5 _ _ hL4)) hb1
      rw [lab_get (by decide) (inn c (List.mem_of_getElem? hc))] at g1
      refine ⟨L, _, rfl, g1, _, u1 _ _ hD5, fitsLt (by unfold natV; rw [List.length_map, List.length_map, List.length_take]; omega), Same.put (s5.trans u1) nD2, ?_⟩
      rw [upd_same, natV_snoc hc]
    rintro H5 ⟨s5, hD5⟩
    rw [List.take_of_length_le (by rw [tx_size]; exact Nat.le_refl _)] at hD5
    refine ⟨by show 2 ≤ sizeLine; decide, fun tp ntp => ⟨tp, _, rfl, SqT.of upd_same, rfl, _, _, rfl, _, _, rfl, rfl, ?_⟩⟩
    have s6 := same_new (o := .tup [V.ref D1, V.ref D2]) ntp
    have t6 := (t4.trans s5).trans s6
    have h1 := s6 _ _ (s5 _ _ hD4)
    have h2 := s6 _ _ hD5
    clear hD4 hD5 s5 s4 t2 t4 hL4 hL2
    generalize upd H5 tp (.tup [V.ref D1, V.ref D2]) = H6 at *
    clear s6 ntp nD1 nD2
    -- none stands in both
    refine ⟨_, rfl, D1, rfl, ⟨_, SqL.of h1⟩, fun F nF => lc_it (walk_list (xs := natV (ls.map (lab 0)))) (fun i H' => Same H6 H' ∧ H' F = some (.lst [])) ?_ ?_ ?_ ?_⟩
    · exact ⟨same_new nF, upd_same⟩
    · exact fun _ _ _ ⟨s, _⟩ => SqL.of (s _ _ h1)
    · rintro i x H7 H8 hi ⟨s7, hF⟩ ⟨rfl, hx⟩
      unfold natV at hx
      rw [List.getElem?_map, List.getElem?_map] at hx
      obtain ⟨n, hn, rfl⟩ := Option.map_eq_some_iff.mp hx
      obtain ⟨c, hc, rfl⟩ := Option.map_eq_some_iff.mp hn
      have cm := List.mem_of_getElem? hc
      refine ⟨rfl, _, rfl, _, rfl, D2, _, rfl, .inl (SqL.of (s7 _ _ h2)), rfl, ?_, _, rfl, ?_⟩
      · unfold natV
        rw [List.all_map]
        exact List.all_eq_true.mpr fun _ _ => rfl
      · rw [show (if false = true then !inV (V.int ((lab 0 c : Nat) : Int)) (natV (ls.map (lab 1))) else inV (V.int ((lab 0 c : Nat) : Int)) (natV (ls.map (lab 1)))) = inV (V.int ((lab 0 c : Nat) : Int)) (natV (ls.map (lab 1))) from rfl, inV_natV, decide_eq_false (fun z => ?_)]
        · exact iteF ⟨s7, hF⟩
        · obtain ⟨d, hd, e⟩ := List.mem_map.mp z
          exact fr c cm d hd (snd 0 c 1 d (by decide) (by decide) (inn c cm) (inn d hd) e.symm)
    · rintro H7 ⟨s7, hF⟩
      refine ⟨Nat.zero_le _, fun G nG => ⟨F, G, [], rfl, rfl, SqL.of ((same_new nG) _ _ hF), SqL.of upd_same, ?_⟩⟩
      exact q _ ((t6.trans s7).trans (same_new nG))
def spWithout : Sp := fun vs H Q _ => ∃ cs ls : List Nat, vs = [.str (tx cs), .str (tx ls)] ∧ cs.length ≤ 1000 ∧ ∀ H', Same H H' → Q (.str (tx (wo cs ls))) H'
theorem ok_without {k : Nat} (T : Txt K mg) : FnOk P w K mg base CX0 (k + 1) T.aLWithout T.dLWithout ["_law_pattern", "_law_letters"] spWithout := by
  refine T.fLWithout.ok scLWithout (fun vs H Q E h => ?_) (fun cdv A outer s H vs Q E hr h => ?_)
  · obtain ⟨_, _, rfl, _⟩ := h
    rfl
  · obtain ⟨cs, ls, rfl, hlen, q⟩ := h
    refine ⟨_, (pss_one (ps_ret (pe_join pe_str (pe_lc (own := [("_law_sign", 2)]) (g := gName 2) rfl scLWithout.nd (pi_str (pv 0)) (blkOk_by (N := ["_law_pattern", "_law_letters", "_law_sign"]) (sc := defScope sLWithout) (by decide +kernel)) (fun _ _ _ _ _ => pg_name (i := 2) scLWithout.nd rfl (Or.inl rfl)) (fun _ _ _ _ _ => pts_one (pt_cmpR op_notIn_sign (pv 2) (pv 1) rfl)) (fun _ _ _ _ _ => (pv 2)))))), ?_⟩
    refine ⟨⟨_, rfl⟩, _, rfl, tx cs, rfl, fun D nD => lc_it walk_str (fun i H' => Same H H' ∧ H' D = some (.lst (((cs.take i).filter fun c => !decide (c ∈ ls)).map sg))) ?_ ?_ ?_ ?_⟩
    · exact ⟨same_new nD, upd_same⟩
    · exact fun _ _ _ _ => trivial
    · rintro i x H3 H4 hi ⟨s3, hD⟩ ⟨rfl, c, hc, rfl⟩
      rw [tx_get] at hc
      have hfl : ((cs.take i).filter fun c => !decide (c ∈ ls)).length ≤ 1000 := Nat.le_trans (List.length_filter_le _ _) (by rw [List.length_take]; omega)
      refine ⟨rfl, _, rfl, _, rfl, c, _, rfl, rfl, _, rfl, ?_⟩
      rw [tx_list, filter_snoc hc]
      by_cases e : c ∈ ls
      · rw [decide_eq_true e]
        exact iteF ⟨s3, by rw [if_neg (by simp), List.append_nil]; exact hD⟩
      · rw [decide_eq_false e]
        refine iteT ⟨_, rfl, _, hD, fitsLt (by rw [List.length_map]; omega), Same.put s3 nD, ?_⟩
        rw [upd_same, if_pos (by rfl), List.map_append]
        rfl
    · rintro H3 ⟨s3, hD⟩
      rw [List.take_of_length_le (by rw [tx_size]; exact Nat.le_refl _)] at hD
      have hfl : (wo cs ls).length ≤ 1000 := Nat.le_trans (List.length_filter_le _ _) hlen
      refine ⟨_, D, (wo cs ls).map fun c => (⟨#[c]⟩ : Str), rfl, rfl, .inl (SqL.of (by rw [← sgs_map]; exact hD)), sgs_room (by omega), ?_⟩
      rw [join_signs]
      exact q H3 s3
def spBst : Sp := fun vs H Q _ => ∃ (cs : List Nat) (l : Addr) (v : List (List Nat)) (rest : List Nat), vs = [.str (tx cs), .ref l] ∧ cs.length ≤ 40 ∧ H l = some (.lst (tzs v)) ∧ Steps cs v rest ∧ ∀ H', Same H H' → Q (.str (tx rest)) H'
theorem ok_bst {k : Nat} (T : Txt K mg) : FnOk P w K mg base CX0 (k + 3) T.aLBehindSteps T.dLBehindSteps ["_law_pattern", "_law_steps"] spBst := by
  have GLIsFree : FnOk P w K mg base CX0 (k + 2) T.aLIsFree T.dLIsFree ["_law_pattern", "_law_letters"] spIsf := ok_lisf T
  have GLWithout : FnOk P w K mg base CX0 (k + 2) T.aLWithout T.dLWithout ["_law_pattern", "_law_letters"] spWithout := ok_without T
  refine T.fLBehindSteps.ok scLBehindSteps (fun vs H Q E h => ?_) (fun cdv A outer s H vs Q E hr h => ?_)
  · obtain ⟨_, _, _, _, rfl, _⟩ := h
    rfl
  · obtain ⟨cs, l, v, rest, rfl, hl, hv, st, q⟩ := h
    refine ⟨_, (pss_cons (ps_for PassesOwn.never rfl (pi_list (pv 1)) (pg_name (i := 2) scLBehindSteps.nd rfl (Or.inl rfl)) (pss_cons (ps_if (PW.pt (pw_or (pt_not (pt_val (pe_callB call_isi (by rfl) T.m_isinstance (by decide +kernel) (pa_cons (pv 2) (pa_cons (pe_bltn (v := .ty "str") (by rfl) T.m_str (by decide +kernel) rfl) pa_nil))))) (pw_or (pt_cmpR op_eq (pv 2) pe_str (nomark _)) (pw_or1 (pt_cmpR (Mo.op_neFl hr.units) (pe_callTy (Mo.cr_lstS rfl) (by rfl) T.m_list (by decide +kernel) (pa_cons (pv 2) pa_nil)) (pe_callB (Mo.cr_sortSg (P := P) (w := w) rfl rfl rfl) (by rfl) T.m_sorted (by decide +kernel) (pa_cons (pe_callTy (Mo.cr_setSg (P := P) (w := w) rfl rfl rfl) (by rfl) T.m_set (by decide +kernel) (pa_cons (pv 2) pa_nil)) pa_nil)) (nomark _)))))) (pss_one (ps_ret pe_non)) pss_nil)
      (pss_cons (ps_if (pt_not (pt_val (pe_call GLIsFree hr (by rfl) T.gLIsFree T.fLIsFree.kp T.bLIsFree .nil pass0 (pa_cons (pv 0) (pa_cons (pv 2) pa_nil))))) (pss_one (ps_ret pe_non)) pss_nil)
      (pss_one (ps_set (i := 0) scLBehindSteps.nd rfl (Or.inl rfl) (pe_call GLWithout hr (by rfl) T.gLWithout T.fLWithout.kp T.bLWithout .nil pass0 (pa_cons (pv 0) (pa_cons (pv 2) pa_nil))))))))
      (pss_one (ps_ret (pv 0)))), ?_⟩
    refine ⟨_, rfl, l, rfl, ⟨_, SqL.of hv⟩, for_it (walk_list (xs := tzs v)) (fun i σ H' => ∃ o2 : Option V, σ = [some (.str (tx (wo cs (v.take i).flatten))), some (.ref l), o2] ∧ Same H H') ?_ ?_ ?_ ?_⟩
    · exact ⟨none, by rw [List.take_zero, List.flatten_nil, wo_nil]; rfl, .refl _⟩
    · rintro j σ H' _ ⟨_, _, s⟩
      exact SqL.of (s _ _ hv)
    · rintro i x σ H1 H1' hi ⟨o2, rfl, s1⟩ ⟨rfl, hx⟩
      unfold tzs at hx
      rw [List.getElem?_map] at hx
      obtain ⟨ls, hls, rfl⟩ := Option.map_eq_some_iff.mp hx
      obtain ⟨ne, asc, sub, fr, nx⟩ := st.nth i ls hls
      have wl : (wo cs (v.take i).flatten).length ≤ 40 := Nat.le_trans (wo_len _ _) hl
      have nd : ls.Nodup := asc.imp fun h => Nat.ne_of_lt h
      have ll : ls.length ≤ 40 := Nat.le_trans (nd_sub _ _ nd sub) wl
      have lm : (met ls).length ≤ 40 := Nat.le_trans (met_length_le ls) ll
      refine ⟨_, rfl, _, _, .type "str", .type "str", true, rfl, .ty "str", .base (.str _), kit_ty (by decide +kernel), true, rfl, iteF ?_⟩
      refine ⟨_, rfl, rfl, false, congrArg V.bl (decide_eq_false fun z => ne (tx_inj ((V.str.inj z).trans tx_nil.symm))), iteF ?_⟩
      refine ⟨_, rfl, ls, rfl, by omega, fun p np => ?_⟩
      have u1 := same_new (o := .lst (ls.map sg)) np
      have hp : upd H1' p (.lst (ls.map sg)) p = some (.lst (ls.map sg)) := upd_same
      generalize upd H1' p (.lst (ls.map sg)) = H2 at *
      refine ⟨_, rfl, tx ls, rfl, by rw [tx_size]; omega, fun S nS => ⟨S, (tx ls).cps.toList, rfl, upd_same, by rw [tx_list]; omega, fun ys R pm so nR => ?_⟩⟩
      rw [tx_list] at pm
      obtain ⟨zs, rfl, za, zm, _⟩ := signs_set pm so
      obtain rfl : zs = ls := asc_ext zs ls za asc zm
      have u2 := same_new (o := SetSg P w S (tx zs).cps.toList) nS
      have u3 := same_new (o := .lst ((zs.map ch1).map V.str)) nR
      have hp3 := u3 _ _ (u2 _ _ hp)
      have hR : upd (upd H2 S (SetSg P w S (tx zs).cps.toList)) R (.lst ((zs.map ch1).map V.str)) R = some (.lst (zs.map sg)) := by
        rw [upd_same, List.map_map]
        rfl
      have t3 := (s1.trans u1).trans (u2.trans u3)
      refine ⟨_, _, ⟨p, R, rfl, rfl, sgs_fl zs, sgs_fl zs, .inl ⟨SqL.of hp3, SqL.of hR⟩⟩, false, congrArg V.bl (by rw [eqLs_self (sgs_fl zs)]; rfl), iteF ?_⟩
      refine ⟨_, rfl, _, rfl, _, zs, rfl, wl, ll, sub, fr, fun H4 s4 => ⟨true, rfl, iteF ?_⟩⟩
      refine ⟨_, rfl, _, rfl, _, zs, rfl, by omega, fun H5 s5 => ?_⟩
      exact ⟨some (.str (tx zs)), by rw [nx]; rfl, (t3.trans s4).trans s5⟩
    · rintro σ H1 ⟨o2, rfl, s1⟩
      have e : (tzs v).length = v.length := List.length_map ..
      rw [e, List.take_length, ← st.gone]
      exact ⟨_, rfl, q H1 s1⟩
end
end Mo

/-! ### a place, written -/
namespace Mo
open PySem PySem.Spec PyProof.Rows L2
theorem ints_depth : ∀ l : List Int, PyData.depthAll (l.map PyData.int) = 0
  | [] => by simp [PyData.depthAll]
  | n :: l => by
    rw [List.map_cons]
    simp only [PyData.depthAll, PyData.depth, ints_depth l]
    rfl
theorem merge_vals {ad : Nat → Addr} : ∀ {ns : List Nat}, ns.Nodup → ∀ {ms : List Nat}, (∀ c ∈ ns, c ∉ ms) → mergeK (dk (valsD ms ad)) (dk (valsD ns ad)) = dk (valsD (ms ++ ns) ad)
  | [], _, ms, _ => by rw [List.append_nil]; rfl
  | x :: r, nd, ms, h => by
    have nd2 := List.nodup_cons.mp nd
    have e : mergeK (dk (valsD ms ad)) (dk (valsD (x :: r) ad)) = mergeK (putK (dk (valsD ms ad)) (Sum.inr (tx [x])) (.ref (ad x))) (dk (valsD r ad)) := rfl
    have e2 : dk (valsD ms ad ++ [([x], V.ref (ad x))]) = dk (valsD (ms ++ [x]) ad) := by
      unfold valsD
      rw [List.map_append]
      rfl
    rw [e, dk_put (p := [x]) (by
      rw [vals_keys]
      intro z
      obtain ⟨y, hy, e⟩ := List.mem_map.mp z
      exact h x List.mem_cons_self ((List.cons.inj e).1 ▸ hy)), e2, merge_vals nd2.2 (fun c hc z => by
      rcases List.mem_append.mp z with z | z
      · exact h c (List.mem_cons_of_mem _ hc) z
      · rw [List.mem_singleton.mp z] at hc
        exact nd2.1 hc), List.append_assoc]
    rfl
theorem merge_vals0 {ad : Nat → Addr} {ns : List Nat} (nd : ns.Nodup) : mergeK [] (dk (valsD ns ad)) = dk (valsD ns ad) := merge_vals (ms := []) nd fun _ _ h => absurd h (by simp)
end Mo

/-! ### which data is a pattern -/
namespace Mo
open PySem PySem.Spec PyProof.Rows L2
def patL (cs : List Nat) : Bool := decide (cs.length ≤ 40) && (decide ((met cs).length ≤ 8) && cs.all fun c => decide (c ∈ lett))
def patD : PyData → Bool
  | .str z => patL z.cps.toList
  | _ => false
theorem notStr {d : PyData} (h : isStrD d = false) : patD d = false := by
  cases d <;> first | rfl | exact absurd (show true = false from h) (by decide)
theorem patL_of {cs : List Nat} : patL cs = true ↔ Pat cs := by
  unfold patL
  rw [Bool.and_eq_true, Bool.and_eq_true, decide_eq_true_eq, decide_eq_true_eq, List.all_eq_true]
  constructor
  · rintro ⟨h1, h2, h3⟩
    exact ⟨h1, fun c hc => (show ∀ c ∈ lett, 97 ≤ c ∧ c ≤ 122 by decide) c (of_decide_eq_true (h3 c hc)), h2⟩
  · rintro ⟨h1, h2, h3⟩
    exact ⟨h1, h3, fun c hc => decide_eq_true (low_lett h2 c hc)⟩
section
variable {P : Program} {w : World} {K : PySem.W.Frag} {mg : Str → Option Value} {base : Heap}
theorem ok_patX {k : Nat} (T : Txt K mg) : FnOk P w K mg base CX0 (k + 1) T.aIsPattern T.dIsPattern ["value"] (spAsk patD) := by
  refine T.fIsPattern.ok scIsPattern (fun vs H Q E h => ?_) (fun cdv A outer s H vs Q E hr h => ?_)
  · obtain ⟨_, _, _, rfl, _⟩ := h
    rfl
  · obtain ⟨N, x, d, rfl, hd, hb, q⟩ := h
    refine ⟨_, (pss_cons (ps_if (PW.pt (pw_or (pt_not (pt_val (pe_callB call_isi (by rfl) T.m_isinstance (by decide +kernel) (pa_cons (pv 0) (pa_cons (pe_bltn (v := .ty "str") (by rfl) T.m_str (by decide +kernel) rfl) pa_nil))))) (pw_or1 (pt_cmpR op_gt (pe_callB call_len_str (by rfl) T.m_len PySem.boot_len (pa_cons (pv 0) pa_nil)) (pe_glob (v := .int 40) rfl T.m_LONGEST_PATTERN ⟨_, rfl⟩) (nomark _))))) (pss_one (ps_ret pe_bl)) pss_nil)
      (pss_one (ps_ret (pe_and (pe_cmpR op_le (pe_callB Mo.cr_lenK (by rfl) T.m_len PySem.boot_len (pa_cons (pe_callTy (Mo.cr_setS rfl) (by rfl) T.m_set (by decide +kernel) (pa_cons (pv 0) pa_nil)) pa_nil)) (pe_glob (v := .int 8) rfl T.m_MOST_VARIABLES ⟨_, rfl⟩) (nomark _)) (pe_one (pe_callB (cr_all rfl) (by rfl) T.m_all (by decide +kernel) (pa_cons (pe_lc (own := [("name", 1)]) (g := gName 1) (tt := tYes) rfl scIsPattern.nd (pi_str (pv 0)) (blkOk_by (N := ["value", "name"]) (sc := defScope sIsPattern) (by decide +kernel)) (fun _ _ _ _ _ => pg_name (i := 1) scIsPattern.nd rfl (Or.inl rfl)) (fun _ _ _ _ _ => pts_nil) (fun _ _ _ _ _ => (pe_cmpR op_in_sign (pv 1) (pe_glob (v := .str "abcdefghijklmnopqrstuvwxyz") rfl T.m_VARIABLES ⟨_, rfl⟩) rfl))) pa_nil))))))), ?_⟩
    have ty := hd.ty (K := K)
    refine ⟨_, rfl, _, _, .type (tyD d), .type "str", isStrD d, rfl, .ty "str", ty, kit_ty (kit_str d), isStrD d, rfl, ?_⟩
    cases e : isStrD d with
    | false =>
      have q0 := q H (Same.refl H)
      rw [notStr e] at q0
      exact iteT q0
    | true =>
      obtain ⟨cs, rfl, rfl⟩ := str_dx hd e
      simp only [PyData.bulk] at hb
      rw [tx_size] at hb
      have zp : patD (.str (tx cs)) = (decide (cs.length ≤ 40) && (decide ((met cs).length ≤ 8) && cs.all fun c => decide (c ∈ lett))) := rfl
      refine iteF ⟨_, rfl, _, rfl, Nat.le_trans (by rw [tx_len]; exact hb) (by decide), _, _, rfl, rfl, _, rfl, ite2 (fun e => ?_) (fun e => ?_)⟩
      · have h1 := of_decide_eq_true e
        rw [tx_len] at h1
        have q0 := q H (Same.refl H)
        rw [zp, decide_eq_false (by omega)] at q0
        exact q0
      · have h1 : ¬ (40 : Int) < (tx cs).length := fun z => e (decide_eq_true z)
        rw [tx_len] at h1
        rw [zp, decide_eq_true (by omega), Bool.true_and] at q
        refine ⟨_, rfl, tx cs, rfl, by rw [tx_size]; omega, fun p np => ?_⟩
        have hml := met_length_le cs
        refine ⟨p, _, _, rfl, upd_same, by rw [tx_list]; omega, _, _, rfl, rfl, decide ((met cs).length ≤ 8), congrArg V.bl (decide_eq_decide.mpr (by rw [tx_list]; omega)), ?_⟩
        have sm := same_new (o := SetK P w p (inS (tx cs).cps.toList) (met (tx cs).cps.toList).length) np
        cases e8 : decide ((met cs).length ≤ 8) with
        | false =>
          rw [e8] at q
          exact q _ sm
        | true =>
          rw [e8, Bool.true_and] at q
          refine iteT ⟨_, rfl, tx cs, rfl, fun D nD => lc_it walk_str (fun i H' => Same (upd H p (SetK P w p (inS (tx cs).cps.toList) (met (tx cs).cps.toList).length)) H' ∧ H' D = some (.lst (((cs.take i).map fun c => decide (c ∈ lett)).map V.bl))) ?_ ?_ ?_ ?_⟩
          · exact ⟨same_new nD, upd_same⟩
          · exact fun _ _ _ _ => trivial
          · rintro i x H1 H2 hi ⟨s1, hD⟩ ⟨rfl, c, hc, rfl⟩
            rw [tx_get] at hc
            refine ⟨rfl, _, rfl, c, _, rfl, rfl, _, hD, fitsLt (by rw [List.length_map, List.length_map, List.length_take]; omega), Same.put s1 nD, ?_⟩
            rw [upd_same, lett_text, List.take_add_one, hc, List.map_append, List.map_append]
            rfl
          · rintro H1 ⟨s1, hD⟩
            rw [tx_size, List.take_length] at hD
            refine ⟨D, cs.map fun c => decide (c ∈ lett), rfl, SqL.of hD, ?_⟩
            rw [show (cs.map fun c => decide (c ∈ lett)).all id = cs.all fun c => decide (c ∈ lett) by rw [List.all_map]; rfl]
            exact q H1 (sm.trans s1)
/-- what may be refused, by the class C with the very value -/
def OutV (C : Addr) (H : Hp) (E : XK) (x : V) : Prop := ∀ dd H', H dd = none → Same H H' → H' dd = some (.xd [("value", x)]) → E (.ref C) (some dd) H'
theorem OutV.same {C : Addr} {H H1 : Hp} {E : XK} {x : V} (h : OutV C H E x) (s : Same H H1) : OutV C H1 E x := fun dd H' nd s2 hd => h dd H' (s.free nd) (s.trans s2) hd
theorem ok_initPat {k : Nat} (T : Txt K mg) : FnOk P w K mg base CX0 (k + 1) T.iInvalidPattern T.dInvalidPattern ["self", "value"] (spInit T.cInvalidPattern "value") := by
  refine T.fInitInvalidPattern.ok scInitInvalidPattern (fun vs H Q E h => ?_) (fun cdv A outer s H vs Q E hr h => ?_)
  · obtain ⟨a, y, rfl, _⟩ := h
    rfl
  · obtain ⟨a, y, rfl, ha, q⟩ := h
    refine ⟨_, pss_one (ps_ost (pv 0) (pv 1)), ?_⟩
    exact ⟨_, rfl, _, rfl, a, T.cInvalidPattern, rfl, T.xInvalidPattern.oex, T.xInvalidPattern.no, .inl ⟨ha, fun dx nd ne => q dx nd ne⟩⟩
def spChkF0 : Sp := fun vs H Q _ => ∃ cs : List Nat, vs = [.str (tx cs)] ∧ Pat cs ∧ cs ≠ [] ∧ ∀ H', Same H H' → Q .non H'
theorem ok_chkF0 {k : Nat} (T : Txt K mg) : FnOk P w K mg base CX0 (k + 2) T.aCheckFilledPattern T.dCheckFilledPattern ["value"] spChkF0 := by
  have GIsPattern : FnOk P w K mg base CX0 (k + 1) T.aIsPattern T.dIsPattern ["value"] (spAsk patD) := ok_patX T
  refine T.fCheckFilledPattern.ok scCheckFilledPattern (fun vs H Q E h => ?_) (fun cdv A outer s H vs Q E hr h => ?_)
  · obtain ⟨_, rfl, _⟩ := h
    rfl
  · obtain ⟨cs, rfl, pat, ne, q⟩ := h
    refine ⟨_, (pss_one (ps_if (PW.pt (pw_or (pt_not (pt_val (pe_call GIsPattern hr (by rfl) T.gIsPattern T.fIsPattern.kp T.bIsPattern .nil pass0 (pa_cons (pv 0) pa_nil)))) (pw_or1 (pt_cmpR op_eq (pv 0) pe_str (nomark _))))) (pss_one ps_never) pss_nil)), ?_⟩
    have b : (PyData.str (tx cs)).bulk ≤ 1000000 := by
      simp only [PyData.bulk]
      rw [tx_size]
      have := pat.len
      omega
    refine ⟨_, rfl, (fun _ => False), _, .str (tx cs), rfl, .str _, b, fun H1 s1 => ⟨true, congrArg V.bl (patL_of.mpr pat), iteF ?_⟩⟩
    exact ⟨_, rfl, rfl, false, congrArg V.bl (decide_eq_false fun e => ne (tx_inj ((V.str.inj e).trans tx_nil))), iteF (q H1 s1)⟩
def fldD : PyData → Bool
  | .str z => patL z.cps.toList && decide (z.cps.toList ≠ [])
  | _ => false
def spChkF (C : Addr) : Sp := fun vs H Q E => ∃ (N : Addr → Prop) (x : V) (d : PyData), vs = [x] ∧ Dx N H x d ∧ d.bulk ≤ 1000000 ∧ (fldD d = true → ∀ H', Same H H' → Q .non H') ∧ (fldD d = false → OutV C H E x)
theorem ok_chkF {k : Nat} (T : Txt K mg) : FnOk P w K mg base (L2.CX P w) (k + 4) T.aCheckFilledPattern T.dCheckFilledPattern ["value"] (spChkF T.cInvalidPattern) := by
  have GIsPattern : FnOk P w K mg base CX0 (k + 3) T.aIsPattern T.dIsPattern ["value"] (spAsk patD) := ok_patX T
  have GInitInvalidPattern : FnOk P w K mg base CX0 (k + 2) T.iInvalidPattern T.dInvalidPattern ["self", "value"] (spInit T.cInvalidPattern "value") := ok_initPat T
  refine T.fCheckFilledPattern.okX scCheckFilledPattern (fun vs H Q E h => ?_) (fun cdv A outer s H vs Q E hr h => ?_)
  · obtain ⟨_, _, _, rfl, _⟩ := h
    rfl
  · obtain ⟨N, x, d, rfl, dx, bx, yes, no⟩ := h
    refine ⟨_, (pss_one (ps_if (PW.pt (pw_or (pt_not (pt_val (pe_call GIsPattern hr (by rfl) T.gIsPattern T.fIsPattern.kp T.bIsPattern .nil pass0 (pa_cons (pv 0) pa_nil)))) (pw_or1 (pt_cmpR op_eq (pv 0) pe_str (nomark _))))) (pss_one (ps_raise rfl (takes_of rfl rfl rfl rfl) (pmk_oex T.xInvalidPattern.oex T.xInvalidPattern.iC T.xInvalidPattern.tI GInitInvalidPattern hr T.bInitInvalidPattern .nil pass0 (by rfl) T.eInvalidPattern (pa_cons (pv 0) pa_nil)))) pss_nil)), ?_⟩
    refine ⟨_, rfl, N, x, d, rfl, dx, bx, fun H1 s1 => ⟨patD d, rfl, ?_⟩⟩
    cases ep : patD d with
    | false =>
      have e0 : fldD d = false := by
        cases d <;> first | rfl | skip
        rename_i z
        show (patL z.cps.toList && _) = false
        rw [show patL z.cps.toList = false from ep]
        rfl
      exact iteT ⟨_, rfl, err_read fun dd H' nd s5 hd => no e0 dd H' (s1.free nd) (s1.trans s5) hd⟩
    | true =>
      obtain ⟨cs, rfl, rfl⟩ := str_dx (dx) (by cases d <;> first | rfl | exact absurd (show false = true from ep) (by decide))
      have ez : fldD (.str (tx cs)) = decide (cs ≠ []) := by
        show (patL cs && decide ((tx cs).cps.toList ≠ [])) = _
        rw [show patL cs = true from ep, tx_list]
        rfl
      refine iteF ⟨_, rfl, rfl, decide (cs = []), congrArg V.bl (decide_eq_decide.mpr ⟨fun e => tx_inj ((V.str.inj e).trans tx_nil), fun e => by rw [e]; rfl⟩), ?_⟩
      by_cases e : cs = []
      · rw [decide_eq_true e]
        have e0 : fldD (.str (tx cs)) = false := by rw [ez]; exact decide_eq_false fun z => z e
        exact iteT ⟨_, rfl, err_read fun dd H' nd s5 hd => no e0 dd H' (s1.free nd) (s1.trans s5) hd⟩
      · rw [decide_eq_false e]
        exact iteF (yes (by rw [ez]; exact decide_eq_true e) H1 s1)
end
end Mo

namespace Mo
open PySem PySem.Spec PyProof.Rows L2
section
variable {P : Program} {w : World} {K : PySem.W.Frag} {mg : Str → Option Value} {base : Heap}
def spPlain : Sp := fun vs H Q _ => ∃ i : Int, vs = [.int i] ∧ ∀ H', Same H H' → Q (.bl true) H'
theorem ok_plain {k : Nat} (T : Txt K mg) : FnOk P w K mg base CX0 (k + 1) T.aIsPlainInteger T.dIsPlainInteger ["value"] spPlain := by
  refine T.fIsPlainInteger.ok scIsPlainInteger (fun vs H Q E h => ?_) (fun cdv A outer s H vs Q E hr h => ?_)
  · obtain ⟨i, rfl, _⟩ := h
    rfl
  · obtain ⟨i, rfl, q⟩ := h
    refine ⟨_, (pss_one (ps_ret (pe_and (pe_callB call_isi (by rfl) T.m_isinstance (by decide +kernel) (pa_cons (pv 0) (pa_cons (pe_bltn (v := .ty "int") (by rfl) T.m_int (by decide +kernel) rfl) pa_nil))) (pe_one (pe_not (pe_callB call_isi (by rfl) T.m_isinstance (by decide +kernel) (pa_cons (pv 0) (pa_cons (pe_bltn (v := .ty "bool") (by rfl) T.m_bool (by decide +kernel) rfl) pa_nil)))))))), ?_⟩
    refine ⟨_, rfl, _, _, .type "int", .type "int", true, rfl, .ty "int", .base (.int _), kit_ty (by decide +kernel), true, rfl, iteT ?_⟩
    refine ⟨_, rfl, _, _, .type "int", .type "bool", false, rfl, .ty "bool", .base (.int _), kit_ty (by decide +kernel), false, rfl, q H (Same.refl _)⟩
def spCount : Sp := fun vs H Q _ => ∃ i a b : Int, vs = [.int i, .int a, .int b] ∧ a ≤ i ∧ i ≤ b ∧ ∀ H', Same H H' → Q .non H'
theorem ok_count {k : Nat} (T : Txt K mg) : FnOk P w K mg base CX0 (k + 2) T.aCheckCount T.dCheckCount ["value", "least", "most"] spCount := by
  have GIsPlainInteger : FnOk P w K mg base CX0 (k + 1) T.aIsPlainInteger T.dIsPlainInteger ["value"] spPlain := ok_plain T
  refine T.fCheckCount.ok scCheckCount (fun vs H Q E h => ?_) (fun cdv A outer s H vs Q E hr h => ?_)
  · obtain ⟨i, a, b, rfl, _⟩ := h
    rfl
  · obtain ⟨i, a, b, rfl, h1, h2, q⟩ := h
    refine ⟨_, (pss_one (ps_if (PW.pt (pw_or (pt_not (pt_val (pe_call GIsPlainInteger hr (by rfl) T.gIsPlainInteger T.fIsPlainInteger.kp T.bIsPlainInteger .nil pass0 (pa_cons (pv 0) pa_nil)))) (pw_or (pt_cmpR op_lt (pv 0) (pv 1) (nomark _)) (pw_or1 (pt_cmpR op_gt (pv 0) (pv 2) (nomark _)))))) (pss_one ps_never) pss_nil)), ?_⟩
    refine ⟨_, rfl, i, rfl, fun H1 s1 => ⟨true, rfl, iteF ?_⟩⟩
    refine ⟨_, rfl, _, rfl, _, _, rfl, rfl, _, rfl, ite2 (fun e => ?_) (fun e => ?_)⟩
    · exact absurd (of_decide_eq_true e) (by omega)
    refine ⟨_, rfl, _, rfl, _, _, rfl, rfl, _, rfl, ite2 (fun e => ?_) (fun e => ?_)⟩
    · exact absurd (of_decide_eq_true e) (by omega)
    exact q H1 s1
end
end Mo

namespace Mo
open PySem PySem.Spec PyProof.Rows L2
/-- no divisor from 2 to n - 1 -/
def prm (n : Nat) : Bool := (List.range (n - 2)).all fun i => decide (n % (2 + i) ≠ 0)
/-- the modulus for n variables -/
def qOf (n : Nat) : Nat := [0, 5, 7, 11, 11, 13, 17, 17, 19].getD n 0
theorem qOf_in : ∀ c : Nat, 1 ≤ c → c ≤ 8 → 2 * c + 2 ≤ qOf c ∧ qOf c ≤ 19 ∧ prm (qOf c) = true ∧ ∀ m, 2 * c + 2 ≤ m → m < qOf c → prm m = false := by
  have h : ∀ c : Fin 9, 1 ≤ c.val → 2 * c.val + 2 ≤ qOf c.val ∧ qOf c.val ≤ 19 ∧ prm (qOf c.val) = true ∧ ∀ m : Fin 19, 2 * c.val + 2 ≤ m.val → m.val < qOf c.val → prm m.val = false := by decide +kernel
  intro c h1 h2
  obtain ⟨a, b, d, e⟩ := h ⟨c, by omega⟩ h1
  have b' : qOf c ≤ 19 := b
  exact ⟨a, b, d, fun m hm hl => e ⟨m, by omega⟩ hm hl⟩
/-- the letter at j of the block of c -/
def ltr (q c j : Nat) : Nat := j * q + (c / q + c % q * j) % q
def blk (q c : Nat) : List Int := (List.range q).map fun j => ((ltr q c j : Nat) : Int)
theorem ne_mod (n i : Nat) : (!decide (V.int ((n : Int).fmod (2 + (i : Int))) = V.int 0)) = decide (n % (2 + i) ≠ 0) := by
  have h : (n : Int).fmod (2 + (i : Int)) = ((n % (2 + i) : Nat) : Int) := by
    rw [Int.fmod_eq_emod_of_nonneg _ (by omega)]
    exact (Int.natCast_emod n (2 + i)).symm
  rw [h]
  by_cases e : n % (2 + i) = 0
  · rw [e]
    simp
  · rw [decide_eq_true e, decide_eq_false (fun z => e (Int.natCast_eq_zero.mp (V.int.inj z)))]
    rfl
theorem ltr_eq (q c j : Nat) (hq : 0 < q) : (j : Int) * q + (((c : Int).fdiv q) + (c : Int).fmod q * j).fmod q = ((ltr q c j : Nat) : Int) := by
  unfold ltr
  rw [Int.fdiv_eq_ediv_of_nonneg _ (by omega), Int.fmod_eq_emod_of_nonneg _ (by omega), Int.fmod_eq_emod_of_nonneg _ (by omega)]
  rw [Int.natCast_add, Int.natCast_mul, Int.natCast_emod, Int.natCast_add, Int.natCast_mul, Int.natCast_ediv, Int.natCast_emod]
section
variable {P : Program} {w : World} {K : PySem.W.Frag} {mg : Str → Option Value} {base : Heap}
def spPrime : Sp := fun vs H Q _ => ∃ n : Nat, vs = [.int n] ∧ 2 ≤ n ∧ n ≤ 19 ∧ ∀ H', Same H H' → Q (.bl (prm n)) H'
theorem ok_prime {k : Nat} (T : Txt K mg) : FnOk P w K mg base CX0 (k + 1) T.aIsPrime T.dIsPrime ["number"] spPrime := by
  refine T.fIsPrime.ok scIsPrime (fun vs H Q E h => ?_) (fun cdv A outer s H vs Q E hr h => ?_)
  · obtain ⟨n, rfl, _⟩ := h
    rfl
  · obtain ⟨n, rfl, h2, h19, q⟩ := h
    refine ⟨_, (pss_one (ps_ret (pe_callB (cr_all rfl) (by rfl) T.m_all (by decide +kernel) (pa_cons (pe_lc (own := [("divisor", 1)]) (g := gName 1) (tt := tYes) rfl scIsPrime.nd (pi_range2 (by rfl) T.m_range (pa_cons pe_int (pa_cons (pv 0) pa_nil))) (blkOk_by (N := ["number", "divisor"]) (sc := defScope sIsPrime) (by decide +kernel)) (fun _ _ _ _ _ => pg_name (i := 1) scIsPrime.nd rfl (Or.inl rfl)) (fun _ _ _ _ _ => pts_nil) (fun _ _ _ _ _ => (pe_cmpR op_ne (pe_op op_modN (pv 0) (pv 1)) pe_int (nomark _)))) pa_nil)))), ?_⟩
    refine ⟨_, rfl, 2, n, rfl, ⟨by omega, by omega, by omega, by omega⟩, fun D nD => lc_range (lo := 2) (n := ((n : Int) - 2).toNat) (fun i H' => Same H H' ∧ H' D = some (.lst (((List.range i).map fun j => decide (n % (2 + j) ≠ 0)).map V.bl))) ?_ ?_ ?_⟩
    · exact ⟨same_new nD, upd_same⟩
    · rintro i H1 hi ⟨s1, hD⟩
      refine ⟨rfl, _, rfl, _, rfl, n, 2 + i, rfl, rfl, by omega, rfl, _, hD, fitsLt (by simp; omega), Same.put s1 nD, ?_⟩
      rw [upd_same, List.range_succ, List.map_append, List.map_append]
      exact congrArg (fun z => some (HO.lst (_ ++ [V.bl z]))) (ne_mod n i)
    · rintro H1 ⟨s1, hD⟩
      refine ⟨D, _, rfl, SqL.of hD, ?_⟩
      rw [show ((n : Int) - 2).toNat = n - 2 by omega, show (((List.range (n - 2)).map fun j => decide (n % (2 + j) ≠ 0)).all id) = prm n by unfold prm; rw [List.all_map]; rfl]
      exact q H1 s1
def spMod : Sp := fun vs H Q _ => ∃ c : Nat, vs = [.int c] ∧ 1 ≤ c ∧ c ≤ 8 ∧ ∀ H', Same H H' → Q (.int (qOf c : Nat)) H'
theorem ok_mod {k : Nat} (T : Txt K mg) : FnOk P w K mg base CX0 (k + 3) T.aModulus T.dModulus ["count"] spMod := by
  have GCheckCount : FnOk P w K mg base CX0 (k + 2) T.aCheckCount T.dCheckCount ["value", "least", "most"] spCount := ok_count T
  have GIsPrime : FnOk P w K mg base CX0 (k + 2) T.aIsPrime T.dIsPrime ["number"] spPrime := ok_prime T
  refine T.fModulus.ok scModulus (fun vs H Q E h => ?_) (fun cdv A outer s H vs Q E hr h => ?_)
  · obtain ⟨c, rfl, _⟩ := h
    rfl
  · obtain ⟨c, rfl, c1, c8, q⟩ := h
    obtain ⟨q1, q2, q3, q4⟩ := qOf_in c c1 c8
    refine ⟨_, (pss_cons (ps_expr (pe_call GCheckCount hr (by rfl) T.gCheckCount T.fCheckCount.kp T.bCheckCount .nil pass0 (pa_cons (pv 0) (pa_cons pe_int (pa_cons (pe_glob (v := .int 8) rfl T.m_MOST_VARIABLES ⟨_, rfl⟩) pa_nil)))))
      (pss_cons (ps_set (i := 1) scModulus.nd rfl (Or.inl rfl) (pe_op op_add (pe_op op_mul pe_int (pv 0)) pe_int))
      (pss_cons (ps_while PassesOwn.never (pt_not (pt_val (pe_call GIsPrime hr (by rfl) T.gIsPrime T.fIsPrime.kp T.bIsPrime .nil pass0 (pa_cons (pv 1) pa_nil)))) (pss_one (ps_aug (i := 1) scModulus.nd rfl (Or.inl rfl) pe_int ip_add)))
      (pss_one (ps_ret (pv 1)))))), ?_⟩
    refine ⟨_, rfl, c, 1, 8, rfl, by omega, by omega, fun H1 s1 => ?_⟩
    refine ⟨_, rfl, 2, c, rfl, rfl, .inl ⟨by decide, by decide⟩, _, 2, rfl, rfl, ?_⟩
    refine while_by (fun σ H' => ∃ m : Nat, σ = [some (.int (c : Nat)), some (.int (m : Nat))] ∧ 2 * c + 2 ≤ m ∧ m ≤ qOf c ∧ Same H H') (fun σ H' => match σ with | [_, some (.int r)] => 30 - r.toNat | _ => 0) ?_ ?_ ?_
    · exact ⟨2 * c + 2, rfl, by omega, by omega, s1⟩
    · rintro σ H2 ⟨m, rfl, m1, m2, s2⟩
      refine ⟨_, rfl, m, rfl, by omega, by omega, fun H3 s3 => ⟨prm m, rfl, ?_⟩⟩
      by_cases e : m = qOf c
      · subst e
        rw [q3]
        exact ⟨_, rfl, q H3 (s2.trans s3)⟩
      · rw [q4 m m1 (by omega)]
        refine ⟨_, rfl, m, 1, rfl, rfl, ⟨⟨m + 1, rfl, by omega, by omega, s2.trans s3⟩, ?_⟩⟩
        show 30 - ((m : Int) + 1).toNat < 30 - (m : Int).toNat
        omega
    · rintro σ H2 Q1 Q2 hq ⟨v, h1, n, h2, h3, h4, h5⟩
      exact ⟨v, h1, n, h2, h3, h4, fun H3 s3 => (h5 H3 s3).elim fun b hb => ⟨b, hb.1, hq _ _ hb.2⟩⟩
def spWithin : Sp := fun vs H Q _ => ∃ q c j : Nat, vs = [.int q, .int c, .int j] ∧ 0 < q ∧ q ≤ 1000 ∧ j ≤ 1000 ∧ ∀ H', Same H H' → Q (.int (ltr q c j : Nat)) H'
theorem ok_within {k : Nat} (T : Txt K mg) : FnOk P w K mg base CX0 (k + 1) T.aLetterWithin T.dLetterWithin ["size", "letter", "index"] spWithin := by
  refine T.fLetterWithin.ok scLetterWithin (fun vs H Q E h => ?_) (fun cdv A outer s H vs Q E hr h => ?_)
  · obtain ⟨q, c, j, rfl, _⟩ := h
    rfl
  · obtain ⟨q, c, j, rfl, q0, q1, j1, hq⟩ := h
    refine ⟨_, (pss_one (ps_ret (pe_op op_add (pe_op op_mul (pv 2) (pv 0)) (pe_op op_modN (pe_op op_add (pe_op op_fdivN (pv 1) (pv 0)) (pe_op op_mul (pe_op op_modN (pv 1) (pv 0)) (pv 2))) (pv 0))))), ?_⟩
    refine ⟨_, rfl, _, rfl, j, q, rfl, rfl, .inl ⟨by omega, by omega⟩, ?_⟩
    refine ⟨_, rfl, _, rfl, c, q, rfl, rfl, ⟨by omega, by omega⟩, _, rfl, _, rfl, c, q, rfl, rfl, by omega, _, rfl, _, j, rfl, rfl, .inr ⟨by omega, by omega⟩, _, _, rfl, rfl, _, rfl, _, q, rfl, rfl, by omega, _, _, rfl, rfl, ?_⟩
    have z := hq H (Same.refl H)
    rw [← ltr_eq q c j q0] at z
    exact z
end
end Mo

namespace Mo
open PySem PySem.Spec PyProof.Rows L2
/-- the letter of the avoiding text at i -/
def av (q i : Nat) : Nat := if h : q < 2 ∨ i = 0 then 0 else ltr q (av q (i / q)) (i % q)
termination_by i
decreasing_by exact Nat.div_lt_self (by omega) (by omega)
theorem av_zero (q : Nat) : av q 0 = 0 := by
  rw [av, dif_pos (.inr rfl)]
theorem av_step {q : Nat} (hq : 2 ≤ q) (i : Nat) : av q i = ltr q (av q (i / q)) (i % q) := by
  by_cases e : i = 0
  · subst e
    rw [av_zero, Nat.zero_div, av_zero, Nat.zero_mod]
    unfold ltr
    simp
  · rw [av, dif_neg (by omega)]
theorem av_at {q : Nat} (hq : 2 ≤ q) (i : Nat) {j : Nat} (hj : j < q) : av q (i * q + j) = ltr q (av q i) j := by
  rw [av_step hq, Nat.mul_comm, Nat.mul_add_div (by omega), Nat.div_eq_of_lt hj, Nat.add_zero, Nat.mul_add_mod, Nat.mod_eq_of_lt hj]
theorem ltr_lt {q c j : Nat} (hj : j < q) : ltr q c j < q * q := by
  unfold ltr
  have h1 := Nat.mod_lt (c / q + c % q * j) (show 0 < q by omega)
  have h2 : (j + 1) * q ≤ q * q := Nat.mul_le_mul_right q hj
  rw [Nat.add_mul] at h2
  omega
theorem av_lt {q : Nat} (hq : 2 ≤ q) (i : Nat) : av q i < q * q := by
  rw [av_step hq]
  exact ltr_lt (Nat.mod_lt _ (by omega))
theorem ltr_div {q c j : Nat} (hq : 0 < q) : ltr q c j / q = j := by
  unfold ltr
  have := Nat.mod_lt (c / q + c % q * j) hq
  rw [Nat.mul_comm, Nat.mul_add_div hq, Nat.div_eq_of_lt this, Nat.add_zero]
/-- the block of n letters from s on -/
def avs (q s n : Nat) : List Int := (List.range n).map fun j => ((av q (s + j) : Nat) : Int)
theorem avs_len (q s n : Nat) : (avs q s n).length = n := by unfold avs; simp
theorem avs_at {q s n j : Nat} (h : j < n) : (avs q s n)[j]? = some ((av q (s + j) : Nat) : Int) := by
  unfold avs
  rw [List.getElem?_map, List.getElem?_range h]
  rfl
theorem avs_snoc (q s n : Nat) : avs q s (n + 1) = avs q s n ++ [((av q (s + n) : Nat) : Int)] := by
  unfold avs
  rw [List.range_succ, List.map_append]
  rfl
theorem avs_app (q s m n : Nat) : avs q s m ++ avs q (s + m) n = avs q s (m + n) := by
  induction n with
  | zero => unfold avs; simp
  | succ n ih => rw [avs_snoc, ← List.append_assoc, ih, ← Nat.add_assoc, avs_snoc, Nat.add_assoc]
theorem avs_cut {q s N a n : Nat} (h : a + n ≤ N) : ((avs q s N).drop a).take n = avs q (s + a) n := by
  apply List.ext_getElem?
  intro i
  rw [List.getElem?_take, List.getElem?_drop]
  by_cases hi : i < n
  · rw [if_pos hi, avs_at (by omega), avs_at hi, Nat.add_assoc]
  · rw [if_neg hi, List.getElem?_eq_none (by rw [avs_len]; omega)]
theorem avs_blk {q : Nat} (hq : 2 ≤ q) (i : Nat) : avs q (q * i) q = blk q (av q i) := by
  unfold avs blk
  refine List.map_congr_left fun j hj => ?_
  rw [Nat.mul_comm, av_at hq i (List.mem_range.mp hj)]
/-! two neighbours tell the letter -/
theorem low_eq {q c j : Nat} (hq : 2 ≤ q) : (((ltr q c (j + 1) : Nat) : Int) - ((ltr q c j : Nat) : Int)).fmod q = ((c % q : Nat) : Int) := by
  rw [Int.fmod_eq_emod_of_nonneg _ (by omega)]
  have h1 := Nat.div_add_mod (c / q + c % q * (j + 1)) q
  have h2 := Nat.div_add_mod (c / q + c % q * j) q
  have hb := Nat.mod_lt c (show 0 < q by omega)
  unfold ltr
  rw [Nat.mul_add, Nat.mul_one] at h1
  rw [Nat.mul_add (c % q) j 1, Nat.mul_one] at *
  generalize hx : (c / q + (c % q * j + c % q)) % q = x at *
  generalize hy : (c / q + c % q * j) % q = y at *
  generalize (c / q + (c % q * j + c % q)) / q = u at *
  generalize (c / q + c % q * j) / q = v at *
  generalize c % q * j = bj at *
  generalize c % q = b at *
  generalize c / q = a at *
  have e : (((j + 1) * q + x : Nat) : Int) - ((j * q + y : Nat) : Int) = (b : Int) + (q : Int) * (1 - ((u : Int) - (v : Int))) := by
    have g1 : (q : Int) * u + x = a + (bj + b) := by
      have := congrArg (fun n : Nat => (n : Int)) h1
      simpa only [Int.natCast_add, Int.natCast_mul] using this
    have g2 : (q : Int) * v + y = a + bj := by
      have := congrArg (fun n : Nat => (n : Int)) h2
      simpa only [Int.natCast_add, Int.natCast_mul] using this
    simp only [Int.natCast_add, Int.natCast_mul, Int.natCast_one, Int.add_mul, Int.one_mul, Int.mul_sub, Int.mul_one]
    omega
  rw [e, Int.add_mul_emod_self_left, Int.emod_eq_of_lt (by omega) (by omega)]
theorem high_eq {q c j : Nat} (hq : 2 ≤ q) (hc : c < q * q) : (((ltr q c j : Nat) : Int) - ((c % q : Nat) : Int) * (j : Int)).fmod q = ((c / q : Nat) : Int) := by
  rw [Int.fmod_eq_emod_of_nonneg _ (by omega)]
  have h2 := Nat.div_add_mod (c / q + c % q * j) q
  have ha : c / q < q := Nat.div_lt_of_lt_mul hc
  unfold ltr
  generalize hy : (c / q + c % q * j) % q = y at *
  generalize (c / q + c % q * j) / q = v at *
  generalize c / q = a at *
  have e : ((j * q + y : Nat) : Int) - ((c % q : Nat) : Int) * (j : Int) = (a : Int) + (q : Int) * ((j : Int) - (v : Int)) := by
    have g2 : (q : Int) * v + y = (a : Int) + ((c % q : Nat) : Int) * j := by
      have := congrArg (fun n : Nat => (n : Int)) h2
      simpa only [Int.natCast_add, Int.natCast_mul] using this
    generalize ((c % q : Nat) : Int) * (j : Int) = bj at *
    simp only [Int.natCast_add, Int.natCast_mul, Int.mul_sub]
    rw [Int.mul_comm (j : Int) (q : Int)]
    omega
  rw [e, Int.add_mul_emod_self_left, Int.emod_eq_of_lt (by omega) (by omega)]
end Mo

namespace Mo
open PySem PySem.Spec PyProof.Rows L2
theorem cut_midS (xs : List V) {a b : Nat} (h : a ≤ b) (hb : b ≤ xs.length) : cutV xs (some (a : Int)) (some (b : Int)) = (xs.drop a).take (b - a) := by
  unfold cutV
  rw [HT.sIx_nat, HT.sIx_nat, Nat.min_eq_left (show a ≤ xs.length by omega), Nat.min_eq_left hb]
section
variable {P : Program} {w : World} {K : PySem.W.Frag} {mg : Str → Option Value} {base : Heap}
/-- stretch, of an end below 4 ^ B -/
def spStr (B : Nat) : Sp := fun vs H Q _ => ∃ q s n : Nat, vs = [.int q, .int s, .int n] ∧ 4 ≤ q ∧ q ≤ 19 ∧ n ≤ 4200 ∧ s + n ≤ 4 ^ B ∧ ∀ H' p, Same H H' → H' p = some (.tup ((avs q s n).map V.int)) → Q (.ref p) H'
def spStrR : Nat → Sp
  | 0 => fun _ _ _ _ => False
  | B + 1 => spStr B
theorem str_step {k B : Nat} (T : Txt K mg) (GStretch : FnOk P w K mg base CX0 (k + B + 1) T.aStretch T.dStretch ["size", "start", "length"] (spStrR B)) : FnOk P w K mg base CX0 (k + B + 2) T.aStretch T.dStretch ["size", "start", "length"] (spStr B) := by
  have GLetterWithin : FnOk P w K mg base CX0 (k + B + 1) T.aLetterWithin T.dLetterWithin ["size", "letter", "index"] spWithin := ok_within T
  refine T.fStretch.ok scStretch (fun vs H Q E h => ?_) (fun cdv A outer s H vs Q E hr h => ?_)
  · obtain ⟨q, s, n, rfl, _⟩ := h
    rfl
  · obtain ⟨q, st, n, rfl, q4, q19, hn, hB, qq⟩ := h
    refine ⟨_, (pss_cons (ps_if (pt_cmpR op_eq (pv 2) pe_int (nomark _)) (pss_one (ps_ret (pe_tup pa_nil))) pss_nil)
      (Evl.pss_cut (ps_if (PW.pt (pw_and (pt_cmpR op_eq (pv 1) pe_int (nomark _)) (pw_and1 (pt_cmpR op_eq (pv 2) pe_int (nomark _))))) (pss_one (ps_ret (pe_tup (pa_cons pe_int pa_nil)))) pss_nil)
      (pss_cons (ps_set (i := 3) scStretch.nd rfl (Or.inl rfl) (pe_op op_fdivN (pv 1) (pv 0)))
      (pss_cons (ps_set (i := 4) scStretch.nd rfl (Or.inl rfl) (pe_op op_fdivN (pe_op op_sub (pe_op op_add (pv 1) (pv 2)) pe_int) (pv 0)))
      (pss_cons (ps_setLc2 (i := 5) (own := [("letter", 6), ("index", 7)]) (vs1 := [7]) (g := gName 6) (g1 := gName 7) (tt := tYes) (tt1 := tYes) rfl scStretch.nd rfl rfl (sw_true rfl rfl rfl (by decide +kernel)) (pi_tup (pe_call GStretch hr (by rfl) T.gStretch T.fStretch.kp T.bStretch .nil pass0 (pa_cons (pv 0) (pa_cons (pv 3) (pa_cons (pe_op op_add (pe_op op_sub (pv 4) (pv 3)) pe_int) pa_nil))))) (blkOk_by (N := ["size", "start", "length", "low", "high", "letters", "letter", "index"]) (sc := defScope sStretch) (by decide +kernel)) (by decide) (fun _ _ _ _ _ => pg_name (i := 6) scStretch.nd rfl (Or.inl rfl)) (fun _ _ _ _ _ => pts_nil) (fun _ _ _ _ _ => (pi_range1 (by rfl) T.m_range (pa_cons (pv 0) pa_nil))) (fun _ _ _ _ _ => pg_name (i := 7) scStretch.nd rfl (Or.inl rfl)) (fun _ _ _ _ _ => pts_nil) (fun _ _ _ _ _ => (pe_call GLetterWithin hr (by rfl) T.gLetterWithin T.fLetterWithin.kp T.bLetterWithin .nil pass0 (pa_cons (pv 0) (pa_cons (pv 6) (pa_cons (pv 7) pa_nil))))))
      (pss_one (ps_ret (pe_callTy call_tuple_of (by rfl) T.m_tuple (by decide +kernel) (pa_cons (pe_slice sl_list (pv 5) (po_some (pe_op op_sub (pv 1) (pe_op op_mul (pv 3) (pv 0)))) (po_some (pe_op op_add (pe_op op_sub (pv 1) (pe_op op_mul (pv 3) (pv 0))) (pv 2)))) pa_nil))))))))), ?_⟩
    by_cases e0 : n = 0
    · subst e0
      exact ⟨_, rfl, rfl, true, congrArg V.bl (decide_eq_true rfl), iteT ⟨Nat.zero_le _, fun p np => qq _ p (same_new np) upd_same⟩⟩
    refine ⟨_, rfl, rfl, false, congrArg V.bl (decide_eq_false (fun z => e0 (Int.natCast_eq_zero.mp (V.int.inj z)))), iteF ?_⟩
    refine ⟨fun σ' H' => σ' = [some (.int (q : Nat)), some (.int (st : Nat)), some (.int (n : Nat)), none, none, none, none, none] ∧ H' = H ∧ ¬ (st = 0 ∧ n = 1), ?_, ?_⟩
    · by_cases e1 : st = 0
      · refine ⟨_, rfl, rfl, true, congrArg V.bl (decide_eq_true (by rw [e1]; rfl)), iteT ?_⟩
        by_cases e2 : n = 1
        · refine ⟨_, rfl, rfl, true, congrArg V.bl (decide_eq_true (by rw [e2]; rfl)), iteT ⟨by show 1 ≤ sizeLine; decide, fun p np => qq _ p (same_new np) ?_⟩⟩
          rw [upd_same, e1, e2]
          show some (HO.tup [V.int 0]) = some (HO.tup [V.int ((av q 0 : Nat) : Int)])
          rw [av_zero]
          rfl
        · exact ⟨_, rfl, rfl, false, congrArg V.bl (decide_eq_false (fun z => e2 (Int.ofNat_inj.mp (V.int.inj z)))), iteF ⟨rfl, rfl, fun z => e2 z.2⟩⟩
      · exact ⟨_, rfl, rfl, false, congrArg V.bl (decide_eq_false (fun z => e1 (Int.natCast_eq_zero.mp (V.int.inj z)))), iteF ⟨rfl, rfl, fun z => e1 z.1⟩⟩
    rintro σ' H' ⟨rfl, rfl, e1⟩
    obtain ⟨C, rfl⟩ : ∃ C, B = C + 1 := by
      cases B with
      | zero => exfalso; have : st + n ≤ 1 := hB; omega
      | succ C => exact ⟨C, rfl⟩
    have q0 : 0 < q := by omega
    have eL : (st : Int).fdiv q = ((st / q : Nat) : Int) := by rw [Int.fdiv_eq_ediv_of_nonneg _ (by omega), Int.natCast_ediv]
    have eH : ((st : Int) + (n : Int) - 1).fdiv q = (((st + n - 1) / q : Nat) : Int) := by
      rw [Int.fdiv_eq_ediv_of_nonneg _ (by omega), show (st : Int) + (n : Int) - 1 = ((st + n - 1 : Nat) : Int) by omega, Int.natCast_ediv]
    have d1 := Nat.div_add_mod st q
    have d2 := Nat.div_add_mod (st + n - 1) q
    have m1 := Nat.mod_lt st q0
    have m2 := Nat.mod_lt (st + n - 1) q0
    have lh : st / q ≤ (st + n - 1) / q := Nat.div_le_div_right (by omega)
    have top4 : (st + n - 1) / q < 4 ^ C := by
      have h1 : (st + n - 1) / q ≤ (st + n - 1) / 4 := Nat.div_le_div_left q4 (by decide)
      have h2 : (st + n - 1) / 4 < 4 ^ C := Nat.div_lt_of_lt_mul (by rw [Nat.pow_succ] at hB; omega)
      omega
    obtain ⟨lo, hlo⟩ : ∃ lo, st / q = lo := ⟨_, rfl⟩
    obtain ⟨hi, hhi⟩ : ∃ hi, (st + n - 1) / q = hi := ⟨_, rfl⟩
    rw [hlo] at eL d1 lh
    rw [hhi] at eH d2 lh top4
    obtain ⟨x, rfl⟩ : ∃ x, hi = lo + x := ⟨hi - lo, by omega⟩
    rw [Nat.mul_add] at d2
    have x4 : 4 * x ≤ q * x := Nat.mul_le_mul_right x q4
    refine ⟨_, rfl, _, rfl, st, q, rfl, rfl, ⟨by omega, by omega⟩, ?_⟩
    refine ⟨_, rfl, _, rfl, st, n, rfl, rfl, _, 1, rfl, rfl, _, rfl, _, q, rfl, rfl, ⟨by omega, by omega⟩, ?_⟩
    refine ⟨_, rfl, _, rfl, _, rfl, _, rfl, _, _, rfl, rfl, _, 1, rfl, rfl, q, lo, x + 1, ?_, q4, q19, by omega, by omega, fun H1 tp s1 htp => ?_⟩
    · show [V.int (q : Int), V.int ((st : Int).fdiv q), V.int (((st : Int) + (n : Int) - 1).fdiv q - (st : Int).fdiv q + 1)] = _
      rw [eL, eH, show ((lo + x : Nat) : Int) - (lo : Int) + 1 = ((x + 1 : Nat) : Int) by omega]
    have hqx : q * x ≤ 5000 := by omega
    refine ⟨tp, rfl, ⟨_, SqT.of htp⟩, fun D nD => turns_it (walk_tup (xs := (avs q lo (x + 1)).map V.int)) (fun i H' => Same H1 H' ∧ H' D = some (.lst ((avs q (lo * q) (i * q)).map V.int))) ?_ ?_ ?_ ?_⟩
    · refine ⟨same_new nD, ?_⟩
      rw [upd_same, Nat.zero_mul]
      rfl
    · exact fun _ _ _ h => SqT.of (h.1 _ _ htp)
    · rintro i v HA HB hi' ⟨sA, hD⟩ ⟨rfl, hv⟩
      rw [List.length_map, avs_len] at hi'
      rw [List.getElem?_map, avs_at hi'] at hv
      obtain rfl := Option.some.inj hv
      have hiq : i * q ≤ x * q := Nat.mul_le_mul_right q (by omega)
      rw [Nat.mul_comm x q] at hiq
      refine ⟨rfl, _, rfl, q, rfl, by omega, by omega, turns_it walk_range (fun j H' => Same H1 H' ∧ H' D = some (.lst ((avs q (lo * q) (i * q + j)).map V.int))) ?_ ?_ ?_ ?_⟩
      · exact ⟨sA, hD⟩
      · exact fun _ _ _ _ => trivial
      · rintro j v HC HE hj ⟨sC, hD2⟩ ⟨rfl, rfl⟩
        have hj2 : j < q := by
          have : j < ((q : Nat) : Int).toNat := hj
          omega
        refine ⟨rfl, _, rfl, _, rfl, _, rfl, q, av q (lo + i), j, ?_, q0, by omega, by omega, fun HF sF => ⟨_, sF _ _ hD2, fitsLt (by rw [List.length_map, avs_len]; omega), Same.put (sC.trans sF) nD, ?_⟩⟩
        · show [V.int (q : Int), V.int ((av q (lo + i) : Nat) : Int), V.int (0 + (j : Int))] = _
          rw [show (0 : Int) + (j : Int) = ((j : Nat) : Int) by omega]
        · rw [upd_same, ← Nat.add_assoc, avs_snoc, List.map_append, ← Nat.add_assoc, ← Nat.add_mul, av_at (by omega) (lo + i) hj2]
          rfl
      · rintro HC ⟨sC, hD2⟩
        rw [show ((q : Nat) : Int).toNat = q by omega] at hD2
        refine ⟨sC, ?_⟩
        rw [hD2, Nat.add_mul i 1 q, Nat.one_mul]
    · rintro H2 ⟨s2, hD⟩
      rw [List.length_map, avs_len] at hD
      -- the slice
      have a0 : q * lo ≤ st := by omega
      have ea : (st : Int) - (st : Int).fdiv q * (q : Int) = ((st - lo * q : Nat) : Int) := by
        rw [eL, ← Int.natCast_mul, Nat.mul_comm lo q]
        omega
      have cov : st - lo * q + n ≤ (x + 1) * q := by
        rw [Nat.mul_comm lo q, Nat.mul_comm (x + 1) q, Nat.mul_add]
        omega
      refine ⟨_, rfl, _, rfl, _, rfl, _, rfl, _, _, rfl, rfl, .inr ⟨by omega, by omega⟩, st, _, rfl, rfl, ((st - lo * q : Nat) : Int), congrArg V.int ea, ?_⟩
      refine ⟨_, rfl, _, rfl, _, rfl, _, _, rfl, rfl, .inr ⟨by omega, by omega⟩, st, _, rfl, rfl, _, rfl, _, n, rfl, rfl, ((st - lo * q + n : Nat) : Int), ?_, ?_⟩
      · refine congrArg V.int ?_
        show (st : Int) - (st : Int).fdiv q * (q : Int) + (n : Int) = _
        rw [ea]
        omega
      refine ⟨D, _, rfl, SqL.of hD, fun m nm => ?_⟩
      have ec : cutV ((avs q (lo * q) ((x + 1) * q)).map V.int) (some ((st - lo * q : Nat) : Int)) (some ((st - lo * q + n : Nat) : Int)) = (avs q st n).map V.int := by
        rw [cut_midS _ (by omega) (by rw [List.length_map, avs_len]; exact cov), ← List.map_drop, ← List.map_take, show st - lo * q + n - (st - lo * q) = n by omega, avs_cut cov, show lo * q + (st - lo * q) = st by rw [Nat.mul_comm lo q]; omega]
      have s3 := same_new (o := .lst (cutV ((avs q (lo * q) ((x + 1) * q)).map V.int) (some ((st - lo * q : Nat) : Int)) (some ((st - lo * q + n : Nat) : Int)))) nm
      refine ⟨m, _, rfl, .inl ⟨SqL.of upd_same, fun p np => ?_⟩⟩
      refine qq _ p (((s1.trans s2).trans s3).trans (same_new np)) ?_
      rw [upd_same, ec]
theorem ok_str {k : Nat} (T : Txt K mg) : ∀ B : Nat, FnOk P w K mg base CX0 (k + B + 2) T.aStretch T.dStretch ["size", "start", "length"] (spStr B)
  | 0 => str_step (B := 0) T ⟨fun vs H Q E h => (show False from h).elim, fun A outer s H args us vs Q E hr e0 hb r hsp => (show False from hsp).elim⟩
  | B + 1 => str_step T (ok_str T B)
end
end Mo

namespace Mo
open PySem PySem.Spec PyProof.Rows L2
theorem four30 : (4 : Nat) ^ 30 = 1152921504606846976 := by decide
section
variable {P : Program} {w : World} {K : PySem.W.Frag} {mg : Str → Option Value} {base : Heap}
def spAT : Sp := fun vs H Q _ => ∃ n m st : Nat, vs = [.int n, .int m, .int st] ∧ 1 ≤ n ∧ n ≤ 8 ∧ m ≤ 4096 ∧ st ≤ 1000000000000000000 ∧ ∀ H' p, Same H H' → H' p = some (.tup ((avs (qOf n) st m).map V.int)) → Q (.ref p) H'
theorem ok_at {k : Nat} (T : Txt K mg) : FnOk P w K mg base CX0 (k + 33) T.aAvoidingText T.dAvoidingText ["count", "length", "start"] spAT := by
  have GModulus : FnOk P w K mg base CX0 (k + 32) T.aModulus T.dModulus ["count"] spMod := ok_mod T
  have GCheckCount : FnOk P w K mg base CX0 (k + 32) T.aCheckCount T.dCheckCount ["value", "least", "most"] spCount := ok_count T
  have GStretch : FnOk P w K mg base CX0 (k + 32) T.aStretch T.dStretch ["size", "start", "length"] (spStr 30) := ok_str T 30
  refine T.fAvoidingText.ok scAvoidingText (fun vs H Q E h => ?_) (fun cdv A outer s H vs Q E hr h => ?_)
  · obtain ⟨n, m, st, rfl, _⟩ := h
    rfl
  · obtain ⟨n, m, st, rfl, n1, n8, hm, hst, q⟩ := h
    obtain ⟨q1, q2, _⟩ := qOf_in n n1 n8
    refine ⟨_, (pss_cons (ps_set (i := 3) scAvoidingText.nd rfl (Or.inl rfl) (pe_call GModulus hr (by rfl) T.gModulus T.fModulus.kp T.bModulus .nil pass0 (pa_cons (pv 0) pa_nil)))
      (pss_cons (ps_expr (pe_call GCheckCount hr (by rfl) T.gCheckCount T.fCheckCount.kp T.bCheckCount .nil pass0 (pa_cons (pv 1) (pa_cons pe_int (pa_cons (pe_glob (v := .int 4096) rfl T.m_LONGEST_TEXT ⟨_, rfl⟩) pa_nil)))))
      (pss_cons (ps_expr (pe_call GCheckCount hr (by rfl) T.gCheckCount T.fCheckCount.kp T.bCheckCount .nil pass0 (pa_cons (pv 2) (pa_cons pe_int (pa_cons (pe_glob (v := .int 1000000000000000000) rfl T.m_GREATEST_START ⟨_, rfl⟩) pa_nil)))))
      (pss_one (ps_ret (pe_call GStretch hr (by rfl) T.gStretch T.fStretch.kp T.bStretch .nil pass0 (pa_cons (pv 3) (pa_cons (pv 2) (pa_cons (pv 1) pa_nil))))))))), ?_⟩
    refine ⟨_, rfl, n, rfl, n1, n8, fun H1 s1 => ?_⟩
    refine ⟨_, rfl, m, 0, 4096, rfl, by omega, by omega, fun H2 s2 => ?_⟩
    refine ⟨_, rfl, st, 0, 1000000000000000000, rfl, by omega, by omega, fun H3 s3 => ?_⟩
    exact ⟨_, rfl, _, rfl, _, rfl, qOf n, st, m, rfl, by omega, by omega, by omega, by rw [four30]; omega, fun H4 p s4 hp => q H4 p (((s1.trans s2).trans s3).trans s4) hp⟩
end
end Mo

set_option pp.maxSteps 300
namespace Mo
open PySem PySem.Spec PyProof.Rows L2
theorem sum_flat {f : Nat → List Int} : ∀ cs : List Nat, (cs.map fun c => ((f c).length : Int)).sum = ((cs.flatMap f).length : Int)
  | [] => rfl
  | c :: cs => by
    rw [List.map_cons, List.sum_cons, sum_flat cs, List.flatMap_cons, List.length_append]
    omega
section
variable {P : Program} {w : World} {K : PySem.W.Frag} {mg : Str → Option Value} {base : Heap}
def spSub : Sp := fun vs H Q _ => ∃ (cs : List Nat) (a : Addr) (kvs : List (Key × V)) (ds : List PyData) (N : Addr → Prop), vs = [.str (tx cs), .ref a] ∧ Pat cs ∧ H a = some (.dK kvs) ∧ DxAll N H (kvs.map (·.2)) ds ∧ (∀ d ∈ ds, d.bulk ≤ 1000000) ∧ areB cs kvs ds = true ∧ (cs.flatMap (blkK kvs ds)).length ≤ 4096 ∧
  ∀ H' p, Same H H' → H' p = some (.tup ((cs.flatMap (blkK kvs ds)).map V.int)) → Q (.ref p) H'
theorem ok_sub {k : Nat} (T : Txt K mg) : FnOk P w K mg base CX0 (k + 5) T.aSubstitute T.dSubstitute ["pattern", "values"] spSub := by
  have GCheckPattern : FnOk P w K mg base CX0 (k + 4) T.aCheckPattern T.dCheckPattern ["value"] spCheck := ok_check T
  have GAreValues : FnOk P w K mg base CX0 (k + 4) T.aAreValues T.dAreValues ["pattern", "value"] spAre := ok_are T
  refine T.fSubstitute.ok scSubstitute (fun vs H Q E h => ?_) (fun cdv A outer s H vs Q E hr h => ?_)
  · obtain ⟨_, _, _, _, _, rfl, _⟩ := h
    rfl
  · obtain ⟨cs, a, kvs, ds, N, rfl, pat, ha, hx, hb, hare, hl, q⟩ := h
    refine ⟨_, (pss_cons (ps_expr (pe_call GCheckPattern hr (by rfl) T.gCheckPattern T.fCheckPattern.kp T.bCheckPattern .nil pass0 (pa_cons (pv 0) pa_nil)))
      (pss_cons (ps_if (pt_not (pt_val (pe_call GAreValues hr (by rfl) T.gAreValues T.fAreValues.kp T.bAreValues .nil pass0 (pa_cons (pv 0) (pa_cons (pv 1) pa_nil))))) (pss_one ps_never) pss_nil)
      (pss_cons (ps_if (pt_cmpR op_gt (pe_callB (cr_sum rfl) (by rfl) T.m_sum (by decide +kernel) (pa_cons (pe_lc (own := [("name", 2)]) (g := gName 2) (tt := tYes) rfl scSubstitute.nd (pi_str (pv 0)) (blkOk_by (N := ["pattern", "values", "name", "letter"]) (sc := defScope sSubstitute) (by decide +kernel)) (fun _ _ _ _ _ => pg_name (i := 2) scSubstitute.nd rfl (Or.inl rfl)) (fun _ _ _ _ _ => pts_nil) (fun _ _ _ _ _ => (pe_callB (Mo.call_len_seqK (K := K) rfl) (by rfl) T.m_len PySem.boot_len (pa_cons (pe_dget (Mo.room1 hr) (pv 1) (pv 2) (fun _ _ => rfl)) pa_nil)))) pa_nil)) (pe_glob (v := .int 4096) rfl T.m_LONGEST_TEXT ⟨_, rfl⟩) (nomark _)) (pss_one ps_never) pss_nil)
      (pss_one (ps_ret (pe_callTy call_tuple_of (by rfl) T.m_tuple (by decide +kernel) (pa_cons (pe_lc2 (own := [("name", 2), ("letter", 3)]) (vs1 := [3]) (g := gName 2) (g1 := gName 3) (tt := tYes) (tt1 := tYes) rfl scSubstitute.nd (pi_str (pv 0)) (blkOk_by (N := ["pattern", "values", "name", "letter"]) (sc := defScope sSubstitute) (by decide +kernel)) (by decide) (fun _ _ _ _ _ => pg_name (i := 2) scSubstitute.nd rfl (Or.inl rfl)) (fun _ _ _ _ _ => pts_nil) (fun _ _ _ _ _ => (Mo.pi_tupK (K := K) rfl (pe_dget (Mo.room1 hr) (pv 1) (pv 2) (fun _ _ => rfl)))) (fun _ _ _ _ _ => pg_name (i := 3) scSubstitute.nd rfl (Or.inl rfl)) (fun _ _ _ _ _ => pts_nil) (fun _ _ _ _ _ => (pv 3))) pa_nil))))))), ?_⟩
    have p40 := pat.len
    refine ⟨_, rfl, cs, rfl, pat, fun H1 s1 => ?_⟩
    refine ⟨_, rfl, _, rfl, cs, .ref a, N, rfl, pat, .inl ⟨a, kvs, ds, rfl, s1 _ _ ha, hx.same s1, hb, fun H2 s2 => ⟨true, congrArg V.bl hare, iteF ?_⟩⟩⟩
    have s12 := s1.trans s2
    have blk : ∀ c ∈ cs, ∃ p, valV kvs (kS c) = some (.ref p) ∧ H p = some (.tup ((blkK kvs ds c).map V.int)) := fun c hc => by
      obtain ⟨p, _, h1, h2, _⟩ := are_blk hare hx hc
      exact ⟨p, h1, h2⟩
    have ble : ∀ c ∈ cs, (blkK kvs ds c).length ≤ 4096 := fun c hc => by
      have : (blkK kvs ds c).length ≤ (cs.flatMap (blkK kvs ds)).length := by
        obtain ⟨a, b, rfl⟩ := List.append_of_mem hc
        rw [List.flatMap_append, List.flatMap_cons]
        simp only [List.length_append]
        omega
      omega
    refine ⟨_, rfl, tx cs, rfl, fun D nD => lc_it walk_str (fun i H' => Same H2 H' ∧ H' D = some (.lst (((cs.take i).map fun c => ((blkK kvs ds c).length : Int)).map V.int))) ?_ ?_ ?_ ?_⟩
    · exact ⟨same_new nD, upd_same⟩
    · exact fun _ _ _ _ => trivial
    · rintro i x H3 H4 hi ⟨s3, hD⟩ ⟨rfl, c, hc, rfl⟩
      rw [tx_get] at hc
      rw [tx_size] at hi
      obtain ⟨p, hp1, hp2⟩ := blk c (List.mem_of_getElem? hc)
      have s13 := s12.trans s3
      have g := DGet.k (k := kS c) (s13 _ _ ha)
      rw [hp1] at g
      refine ⟨rfl, _, rfl, _, rfl, a, _, rfl, g, p, _, rfl, .inr (SqT.of (s13 _ _ hp2)), _, hD, fitsLt (by rw [List.length_map, List.length_map, List.length_take]; omega), Same.put s3 nD, ?_⟩
      rw [upd_same, List.take_add_one, hc, List.map_append, List.map_append, List.length_map]
      rfl
    rintro H3 ⟨s3, hD⟩
    rw [tx_size, List.take_length] at hD
    have fits : ∀ n ∈ cs.map fun c => ((blkK kvs ds c).length : Int), n.natAbs ≤ 4096 := fun n hn => by
      obtain ⟨c, hc, rfl⟩ := List.mem_map.mp hn
      have := ble c hc
      omega
    refine ⟨D, _, rfl, SqL.of hD, _, 4096, rfl, rfl, false, congrArg V.bl ?_, iteF ?_⟩
    · rw [sum_flat]
      exact decide_eq_false (by omega)
    have s13 := s12.trans s3
    refine ⟨_, rfl, tx cs, rfl, fun D nD => loop_it walk_str (fun m H' => Same H3 H' ∧ H' D = some (.lst (((cs.take m).flatMap (blkK kvs ds)).map V.int))) ?_ ?_ ?_ ?_⟩
    · exact ⟨same_new nD, upd_same⟩
    · exact fun _ _ _ _ => trivial
    · rintro m x H4 H5 hm ⟨s4, hD⟩ ⟨rfl, c, hc, rfl⟩
      rw [tx_get] at hc
      obtain ⟨p, hp1, hp2⟩ := blk c (List.mem_of_getElem? hc)
      have s14 := s13.trans s4
      have g := DGet.k (k := kS c) (s14 _ _ ha)
      rw [hp1] at g
      have fl : ((cs.take m).flatMap (blkK kvs ds)).length + (blkK kvs ds c).length ≤ 4096 := by
        have h1 := (flat_pre (f := blkK kvs ds) cs (m + 1)).length_le
        rw [flat_takeF hc, List.length_append] at h1
        omega
      refine ⟨rfl, _, rfl, _, rfl, a, _, rfl, g, p, rfl, ⟨_, SqT.of (s14 _ _ hp2)⟩, loop_it (walk_tup (K := K) (a := p) (xs := (blkK kvs ds c).map V.int)) (fun j H' => Same H3 H' ∧ H' D = some (.lst (((cs.take m).flatMap (blkK kvs ds) ++ (blkK kvs ds c).take j).map V.int))) ?_ ?_ ?_ ?_⟩
      · refine ⟨s4, ?_⟩
        rw [List.take_zero, List.append_nil]
        exact hD
      · rintro j H6 _ ⟨s6, _⟩
        exact SqT.of ((s13.trans s6) _ _ hp2)
      · rintro j u H6 H7 hj ⟨s6, hD6⟩ ⟨rfl, hu⟩
        rw [List.length_map] at hj
        rw [List.getElem?_map] at hu
        obtain ⟨e, he, rfl⟩ := Option.map_eq_some_iff.mp hu
        refine ⟨rfl, _, rfl, _, hD6, fitsLt (by rw [List.length_map, List.length_append, List.length_take]; omega), Same.put s6 nD, ?_⟩
        rw [upd_same, List.take_add_one, he, ← List.append_assoc, show (some e).toList = [e] from rfl, List.map_append, List.map_append, List.map_append]
        rfl
      · rintro H6 ⟨s6, hD6⟩
        rw [List.length_map, List.take_length, ← flat_takeF hc] at hD6
        exact ⟨s6, hD6⟩
    · rintro H4 ⟨s4, hD⟩
      rw [tx_size, List.take_length] at hD
      exact ⟨D, _, rfl, .inl ⟨SqL.of hD, fun p' np' => q _ p' ((s13.trans s4).trans (same_new np')) upd_same⟩⟩
/-- what must be true of a place in the avoiding text -/
def avB (cs : List Nat) (sd : PyData) (kvs : List (Key × V)) (ds : List PyData) : Bool :=
  plainD sd && (decide (0 ≤ intD sd) && (decide (intD sd ≤ 1000000000000000000) && (areB cs kvs ds && (decide ((cs.flatMap (blkK kvs ds)).length ≤ 4096) &&
    decide (cs.flatMap (blkK kvs ds) = avs (qOf (met cs).length) (intD sd).toNat (cs.flatMap (blkK kvs ds)).length)))))
/-- a value in the place of a place, and what the law asks of it -/
def AvD (N : Addr → Prop) (H : Hp) (cs : List Nat) (x : V) (d : PyData) (b : Bool) : Prop := Dx N H x d ∧ d.bulk ≤ 1000000 ∧ ((shp d = false ∧ b = false) ∨ ∃ p sv sd a kvs ds kvd, x = .ref p ∧ d = .tuple [sd, .dict kvd] ∧ H p = some (.tup [sv, .ref a]) ∧ H a = some (.dK kvs) ∧ Dx N H sv sd ∧ sd.bulk ≤ 100000 ∧
  DxAll N H (kvs.map (·.2)) ds ∧ (∀ d ∈ ds, d.bulk ≤ 1000000) ∧ b = avB cs sd kvs ds ∧ kvd = (kvs.map fun kv => keyD kv.1).zip ds)
theorem av_parts {N : Addr → Prop} {H : Hp} {cs : List Nat} {p : Addr} {sv xv : V} {sd xd : PyData} {b : Bool} (hp : H p = some (.tup [sv, xv])) (h : AvD N H cs (.ref p) (.tuple [sd, xd]) b) :
    ((plainD sd && (decide (0 ≤ intD sd) && decide (intD sd ≤ 1000000000000000000))) = false → b = false) ∧ ((isDictD xd = false ∧ b = false) ∨
            ∃ a kvs ds, xv = .ref a ∧ H a = some (.dK kvs) ∧ DxAll N H (kvs.map (·.2)) ds ∧ (∀ d ∈ ds, d.bulk ≤ 1000000) ∧ b = avB cs sd kvs ds ∧ xd = .dict ((kvs.map fun kv => keyD kv.1).zip ds)) := by
  obtain ⟨hd, hb, hc⟩ := h
  rcases hc with ⟨hs, rfl⟩ | ⟨p', sv', sd', a, kvs, ds, kvd, hx', hd', hp', ha, hsv', hsb, hds, hbd, hbb, hz⟩
  · refine ⟨fun _ => rfl, .inl ⟨?_, rfl⟩⟩
    cases xd <;> first | rfl | exact absurd (show true = false from hs) (by decide)
  · obtain rfl : p = p' := V.ref.inj hx'
    rw [hp] at hp'
    injection hp' with hp'
    injection hp' with hp'
    injection hp' with e1 e2
    injection e2 with e2 _
    subst e1 e2
    have hd2 := PyData.tuple.inj hd'
    injection hd2 with e3 e4
    injection e4 with e4 _
    subst e3 e4
    refine ⟨fun h => ?_, .inr ⟨a, kvs, ds, rfl, ha, hds, hbd, hbb, by rw [hz]⟩⟩
    rw [hbb]
    unfold avB
    revert h
    cases plainD sd <;> cases decide (0 ≤ intD sd) <;> cases decide (intD sd ≤ 1000000000000000000) <;> simp
def AvIn (N : Addr → Prop) (H : Hp) (cs : List Nat) (x : V) (b : Bool) : Prop := ∃ d, AvD N H cs x d b
def spIap : Sp := fun vs H Q _ => ∃ (cs : List Nat) (x : V) (N : Addr → Prop) (b : Bool), vs = [.str (tx cs), x] ∧ Pat cs ∧ cs ≠ [] ∧ AvIn N H cs x b ∧ ∀ H', Same H H' → Q (.bl b) H'
theorem ok_iap {k : Nat} (T : Txt K mg) : FnOk P w K mg base CX0 (k + 34) T.aIsAvoidingPlace T.dIsAvoidingPlace ["pattern", "value"] spIap := by
  have GCheckFilledPattern : FnOk P w K mg base CX0 (k + 33) T.aCheckFilledPattern T.dCheckFilledPattern ["value"] spChkF0 := ok_chkF0 T
  have GIsPlainInteger : FnOk P w K mg base CX0 (k + 33) T.aIsPlainInteger T.dIsPlainInteger ["value"] (spAsk plainD) := ok_plainX T
  have GAreValues : FnOk P w K mg base CX0 (k + 33) T.aAreValues T.dAreValues ["pattern", "value"] spAre := ok_are T
  have GSubstitute : FnOk P w K mg base CX0 (k + 33) T.aSubstitute T.dSubstitute ["pattern", "values"] spSub := ok_sub T
  have GVariables : FnOk P w K mg base CX0 (k + 33) T.aVariables T.dVariables ["pattern"] spVars := ok_vars T
  have GAvoidingText : FnOk P w K mg base CX0 (k + 33) T.aAvoidingText T.dAvoidingText ["count", "length", "start"] spAT := ok_at T
  refine T.fIsAvoidingPlace.ok scIsAvoidingPlace (fun vs H Q E h => ?_) (fun cdv A outer s H vs Q E hr h => ?_)
  · obtain ⟨_, _, _, _, rfl, _⟩ := h
    rfl
  · obtain ⟨cs, x, N, b, rfl, pat, ne, ⟨d, av⟩, q⟩ := h
    obtain ⟨hd, hb, hc⟩ := av
    have av : AvD N H cs x d b := ⟨hd, hb, hc⟩
    refine ⟨_, (pss_cons (ps_expr (pe_call GCheckFilledPattern hr (by rfl) T.gCheckFilledPattern T.fCheckFilledPattern.kp T.bCheckFilledPattern .nil pass0 (pa_cons (pv 0) pa_nil)))
      (pss_cons (ps_if (PW.pt (pw_or (pt_not (pt_val (pe_callB call_isi (by rfl) T.m_isinstance (by decide +kernel) (pa_cons (pv 1) (pa_cons (pe_bltn (v := .ty "tuple") (by rfl) T.m_tuple (by decide +kernel) rfl) pa_nil))))) (pw_or1 (pt_cmpR op_ne (pe_callB call_len_seq (by rfl) T.m_len PySem.boot_len (pa_cons (pv 1) pa_nil)) pe_int (nomark _))))) (pss_one (ps_ret pe_bl)) pss_nil)
      (pss_cons (ps_asg (pv 1) (pg_tup (by rfl) (pgs_cons (pg_name (i := 2) scIsAvoidingPlace.nd rfl (Or.inl rfl)) (pgs_cons (pg_name (i := 3) scIsAvoidingPlace.nd rfl (Or.inr rfl)) pgs_nil))))
      (pss_cons (ps_if (PW.pt (pw_or (pt_not (pt_val (pe_call GIsPlainInteger hr (by rfl) T.gIsPlainInteger T.fIsPlainInteger.kp T.bIsPlainInteger .nil pass0 (pa_cons (pv 2) pa_nil)))) (pw_or (pt_cmpR op_lt (pv 2) pe_int (nomark _)) (pw_or (pt_cmpR op_gt (pv 2) (pe_glob (v := .int 1000000000000000000) rfl T.m_GREATEST_START ⟨_, rfl⟩) (nomark _)) (pw_or1 (pt_not (pt_val (pe_call GAreValues hr (by rfl) T.gAreValues T.fAreValues.kp T.bAreValues .nil pass0 (pa_cons (pv 0) (pa_cons (pv 3) pa_nil)))))))))) (pss_one (ps_ret pe_bl)) pss_nil)
      (pss_cons (ps_set (i := 4) scIsAvoidingPlace.nd rfl (Or.inl rfl) (pe_callB (cr_sum rfl) (by rfl) T.m_sum (by decide +kernel) (pa_cons (pe_lc (own := [("name", 5)]) (g := gName 5) (tt := tYes) rfl scIsAvoidingPlace.nd (pi_str (pv 0)) (blkOk_by (N := ["pattern", "value", "start", "values", "size", "name"]) (sc := defScope sIsAvoidingPlace) (by decide +kernel)) (fun _ _ _ _ _ => pg_name (i := 5) scIsAvoidingPlace.nd rfl (Or.inl rfl)) (fun _ _ _ _ _ => pts_nil) (fun _ _ _ _ _ => (pe_callB (Mo.call_len_seqK (K := K) rfl) (by rfl) T.m_len PySem.boot_len (pa_cons (pe_dget (Mo.room1 hr) (pv 3) (pv 5) (fun _ _ => rfl)) pa_nil)))) pa_nil)))
      (pss_cons (ps_if (pt_cmpR op_gt (pv 4) (pe_glob (v := .int 4096) rfl T.m_LONGEST_TEXT ⟨_, rfl⟩) (nomark _)) (pss_one (ps_ret pe_bl)) pss_nil)
      (pss_one (ps_ret (pe_cmpR (Mo.op_eqFl hr.units) (pe_call GSubstitute hr (by rfl) T.gSubstitute T.fSubstitute.kp T.bSubstitute .nil pass0 (pa_cons (pv 0) (pa_cons (pv 3) pa_nil))) (pe_callN GAvoidingText hr (by rfl) T.gAvoidingText T.fAvoidingText.kp T.bAvoidingText pass0 (pa_cons (pe_callB call_len_str (by rfl) T.m_len PySem.boot_len (pa_cons (pe_call GVariables hr (by rfl) T.gVariables T.fVariables.kp T.bVariables .nil pass0 (pa_cons (pv 0) pa_nil)) pa_nil)) (pa_cons (pv 4) pa_nil)) (pk_cons (pv 2) pk_nil)) (nomark _)))))))))), ?_⟩
    have p40 := pat.len
    have m8 := pat.few
    refine ⟨_, rfl, cs, rfl, pat, ne, fun H0 s0 => ?_⟩
    have hd0 := hd.same s0
    refine ⟨_, rfl, _, _, .type (tyD d), .type "tuple", isTupD d, rfl, .ty "tuple", hd0.ty, kit_ty (kit_tup d), isTupD d, rfl, ?_⟩
    cases et : isTupD d with
    | false =>
      have hb0 : b = false := by
        rcases hc with ⟨_, h⟩ | ⟨_, _, _, _, _, _, _, _, h, _⟩
        · exact h
        · rw [h] at et; cases et
      refine iteT ?_
      rw [← hb0]
      exact q H0 s0
    | true =>
      obtain ⟨p, xs, es, rfl, rfl, hp, np, hx⟩ := tup_dx hd et
      have hl := hx.length
      refine iteF ⟨_, rfl, p, _, rfl, .inr (SqT.of (s0 _ _ hp)), rfl, _, rfl, ite2 (fun e => ?_) (fun e => ?_)⟩
      · have hb0 : b = false := by
          rcases hc with ⟨_, h⟩ | ⟨p', sv, sd, a, kvs, ds, kvd, hx', hd', _⟩
          · exact h
          · exfalso
            obtain rfl := PyData.tuple.inj hd'
            exact neg_of e (by rw [hl]; rfl)
        rw [← hb0]
        exact q H0 s0
      · have hl2 : xs.length = 2 := by
          have := V.int.inj (pos_of e)
          omega
        obtain ⟨sv, xv, rfl⟩ : ∃ a b, xs = [a, b] := by
          match xs, hl2 with
          | [a, b], _ => exact ⟨a, b, rfl⟩
        obtain ⟨sd, xd, rfl⟩ : ∃ a b, es = [a, b] := by
          match es, hl.symm.trans hl2 with
          | [a, b], _ => exact ⟨a, b, rfl⟩
        have hsv : Dx N H sv sd := by cases hx with | cons h t => exact h
        have hxv : Dx N H xv xd := by cases hx with | cons h t => cases t with | cons h t => exact h
        have sb : sd.bulk ≤ 1000000 := by
          simp only [PyData.bulk, PyData.bulkAll] at hb
          omega
        refine ⟨_, rfl, p, _, rfl, SqT.of (s0 _ _ hp), rfl, _, _, rfl, _, _, rfl, rfl, ?_⟩
        refine ⟨_, rfl, N, sv, sd, rfl, hsv.same s0, sb, fun H1 s1 => ⟨plainD sd, rfl, ?_⟩⟩
        have s01 := s0.trans s1
        -- what are_values says
        obtain ⟨fst, hA⟩ := av_parts hp av
        clear hc
        cases ep : plainD sd with
        | false =>
          refine iteT ?_
          rw [← fst (by rw [ep]; rfl)]
          exact q H1 s01
        | true =>
        obtain ⟨i, rfl, rfl⟩ := plain_int hsv ep
        refine iteF ⟨_, rfl, i, 0, rfl, rfl, decide (i < 0), rfl, ?_⟩
        by_cases g0 : 0 ≤ i
        case neg =>
          rw [decide_eq_true (show i < 0 by omega)]
          refine iteT ?_
          rw [← fst (by rw [show decide (0 ≤ intD (.int i)) = false from decide_eq_false g0]; simp)]
          exact q H1 s01
        rw [decide_eq_false (show ¬ i < 0 by omega)]
        refine iteF ⟨_, rfl, i, 1000000000000000000, rfl, rfl, decide (1000000000000000000 < i), rfl, ?_⟩
        by_cases g1 : i ≤ 1000000000000000000
        case neg =>
          rw [decide_eq_true (show 1000000000000000000 < i by omega)]
          refine iteT ?_
          rw [← fst (by rw [show decide (intD (.int i) ≤ 1000000000000000000) = false from decide_eq_false g1]; simp)]
          exact q H1 s01
        rw [decide_eq_false (show ¬ 1000000000000000000 < i by omega)]
        obtain ⟨n, rfl⟩ := nat_of g0
        rcases hA with ⟨nd, hb0⟩ | ⟨a, kvs, ds, rfl, ha, hds, hbd, hbb, _⟩
        · refine iteF ⟨_, rfl, _, rfl, cs, xv, N, rfl, pat, .inr ⟨xd, hxv.same s01, nd, fun H2 s2 => ⟨false, rfl, iteT ?_⟩⟩⟩
          rw [← hb0]
          exact q H2 (s01.trans s2)
        refine iteF ⟨_, rfl, _, rfl, cs, .ref a, N, rfl, pat, .inl ⟨a, kvs, ds, rfl, s01 _ _ ha, hds.same s01, hbd, fun H2 s2 => ⟨areB cs kvs ds, rfl, ?_⟩⟩⟩
        have s02 := s01.trans s2
        cases hare2 : areB cs kvs ds with
        | false =>
          refine iteT ?_
          rw [show b = false from by rw [hbb]; unfold avB; rw [hare2]; simp] at q
          exact q H2 s02
        | true =>
        have blk : ∀ c ∈ cs, ∃ p, valV kvs (kS c) = some (.ref p) ∧ H p = some (.tup ((blkK kvs ds c).map V.int)) ∧ (blkK kvs ds c).length ≤ 4096 := fun c hc => by
          obtain ⟨p, d, h1, h2, h3, h4, h5⟩ := are_blk hare2 hds hc
          refine ⟨p, h1, h2, ?_⟩
          unfold okVal at h5
          rw [Bool.and_eq_true] at h5
          unfold blkK
          rw [h3]
          have ht := text_tup h5.1
          cases d with
          | tuple es =>
            have zt : textD (.tuple es) = (decide (es.length ≤ 4096) && es.all letterD) := rfl
            rw [zt, Bool.and_eq_true, decide_eq_true_eq] at h5
            show (es.map intD).length ≤ 4096
            rw [List.length_map]
            exact h5.1.1
          | _ => exact Nat.zero_le _
        refine iteF ⟨_, rfl, tx cs, rfl, fun D nD => lc_it walk_str (fun i H' => Same H2 H' ∧ H' D = some (.lst (((cs.take i).map fun c => ((blkK kvs ds c).length : Int)).map V.int))) ?_ ?_ ?_ ?_⟩
        · exact ⟨same_new nD, upd_same⟩
        · exact fun _ _ _ _ => trivial
        · rintro j x H3 H4 hi ⟨s3, hD⟩ ⟨rfl, c, hc, rfl⟩
          rw [tx_get] at hc
          rw [tx_size] at hi
          obtain ⟨p, hp1, hp2, _⟩ := blk c (List.mem_of_getElem? hc)
          have s13 := s02.trans s3
          have g := DGet.k (k := kS c) (s13 _ _ ha)
          rw [hp1] at g
          refine ⟨rfl, _, rfl, _, rfl, a, _, rfl, g, p, _, rfl, .inr (SqT.of (s13 _ _ hp2)), _, hD, fitsLt (by rw [List.length_map, List.length_map, List.length_take]; omega), Same.put s3 nD, ?_⟩
          rw [upd_same, List.take_add_one, hc, List.map_append, List.map_append, List.length_map]
          rfl
        rintro H3 ⟨s3, hD⟩
        rw [tx_size, List.take_length] at hD
        have s03 := s02.trans s3
        refine ⟨D, _, rfl, SqL.of hD, ?_⟩
        rw [sum_flat]
        have hav : avB cs (.int (n : Int)) kvs ds = (decide ((cs.flatMap (blkK kvs ds)).length ≤ 4096) && decide (cs.flatMap (blkK kvs ds) = avs (qOf (met cs).length) n (cs.flatMap (blkK kvs ds)).length)) := by
          unfold avB
          rw [hare2, show plainD (.int (n : Int)) = true from rfl, show intD (.int (n : Int)) = (n : Int) from rfl, decide_eq_true g0, decide_eq_true g1, Int.toNat_natCast]
          rfl
        rw [hav] at hbb
        refine ⟨_, rfl, _, 4096, rfl, rfl, _, rfl, ite2 (fun e => ?_) (fun e => ?_)⟩
        · have : ¬ (cs.flatMap (blkK kvs ds)).length ≤ 4096 := by
            have := of_decide_eq_true e
            omega
          rw [decide_eq_false this, Bool.false_and] at hbb
          rw [← hbb]
          exact q H3 s03
        have le : (cs.flatMap (blkK kvs ds)).length ≤ 4096 := by
          have h6 : ¬ (4096 : Int) < ((cs.flatMap (blkK kvs ds)).length : Int) := fun z => e (decide_eq_true z)
          omega
        rw [decide_eq_true le, Bool.true_and] at hbb
        clear e hD
        have mne : 1 ≤ (met cs).length := by
          cases cs with
          | nil => exact absurd rfl ne
          | cons c r => exact List.length_pos_of_mem (mem_met.mpr (List.mem_cons_self (a := c) (l := r)))
        refine ⟨_, rfl, _, rfl, cs, a, kvs, ds, N, rfl, pat, s03 _ _ ha, hds.same s03, hbd, hare2, le, fun H4 p4 s4 hp4 => ?_⟩
        refine ⟨_, rfl, cs, rfl, pat, fun H5 s5 => ⟨tx (met cs), rfl, Nat.le_of_lt (small1000 (by rw [tx_len]; omega)), ?_⟩⟩
        refine ⟨_, rfl, _, rfl, rfl, rfl, (met cs).length, (cs.flatMap (blkK kvs ds)).length, n, congrArg (fun z : Nat => [V.int (z : Int), V.int ((cs.flatMap (blkK kvs ds)).length : Int), V.int (n : Int)]) (tx_len (met cs)), mne, m8, le, by omega, fun H6 p6 s6 hp6 => ?_⟩
        refine ⟨_, _, ⟨p4, p6, rfl, rfl, flat_ints _, flat_ints _, .inr ⟨SqT.of (s6 _ _ (s5 _ _ hp4)), SqT.of hp6⟩⟩, ?_⟩
        rw [eqLs_ints, ← hbb]
        exact q H6 (s03.trans ((s4.trans s5).trans s6))
def spIapX (C : Addr) : Sp := fun vs H Q E => ∃ (N : Addr → Prop) (x y : V) (d : PyData), vs = [x, y] ∧ Dx N H x d ∧ d.bulk ≤ 1000000 ∧ fldD d = false ∧ OutV C H E x
theorem ok_iapX {k : Nat} (T : Txt K mg) : FnOk P w K mg base (L2.CX P w) (k + 5) T.aIsAvoidingPlace T.dIsAvoidingPlace ["pattern", "value"] (spIapX T.cInvalidPattern) := by
  have GCheckFilledPatternX : FnOk P w K mg base (L2.CX P w) (k + 4) T.aCheckFilledPattern T.dCheckFilledPattern ["value"] (spChkF T.cInvalidPattern) := ok_chkF T
  refine T.fIsAvoidingPlace.okX scIsAvoidingPlace (fun vs H Q E h => ?_) (fun cdv A outer s H vs Q E hr h => ?_)
  · obtain ⟨_, _, _, _, rfl, _⟩ := h
    rfl
  · obtain ⟨N, x, y, d, rfl, dx, bx, no, out⟩ := h
    refine ⟨_, (pss_cons (ps_expr (pe_call GCheckFilledPatternX hr (by rfl) T.gCheckFilledPattern T.fCheckFilledPattern.kp T.bCheckFilledPattern .nil (passes_call (takes_of rfl rfl rfl rfl) (fun _ _ _ _ h => h)) (pa_cons (pv 0) pa_nil)))
      Mo.pss_never), ?_⟩
    exact ⟨_, rfl, N, x, d, rfl, dx, bx, (fun z => by rw [no] at z; cases z), fun _ => out⟩
end
end Mo

namespace Mo
open PySem PySem.Spec PyProof.Rows L2
section
variable {P : Program} {w : World} {K : PySem.W.Frag} {mg : Str → Option Value} {base : Heap}
def spPen (K : PySem.W.Frag) : Sp := fun vs H Q _ => ∃ (a : Addr) (ns : List Int), vs = [.ref a] ∧ SqL K H a (ns.map V.int) ∧ ns.length ≤ 63 ∧ ∀ H' d c, Same H H' → H d = none → Nxt H' d c 0 → Q (.ref d) H'
theorem ok_pen {k : Nat} (T : Txt K mg) : FnOk P w K mg base CX0 (k + 1) T.aLPen T.dLPen ["_law_script"] (spPen K) := by
  refine T.fLPen.ok scLPen (fun vs H Q E h => ?_) (fun cdv A outer s H vs Q E hr h => ?_)
  · obtain ⟨a, ns, rfl, _⟩ := h
    rfl
  · obtain ⟨a, ns, rfl, hs, hn, q⟩ := h
    refine ⟨_, (pss_one (ps_ret (pe_disp (pps_cons pe_str (pe_callTy call_list_of (by rfl) T.m_list (by decide +kernel) (pa_cons (pe_slice sl_list (pv 0) po_none (po_some pe_int)) pa_nil)) (pps_cons pe_str pe_int (pps_cons pe_str pe_int pps_nil))) (by rfl) (by rfl) (fun z => by cases z) (by decide)))), ?_⟩
    intro d nd
    have s1 := same_new (o := .dK []) nd
    refine ⟨_, rfl, 63, rfl, a, _, rfl, s1.seq hs, fun p np => ?_⟩
    have s2 := same_new (o := .lst (cutV (ns.map V.int) none (some 63))) np
    refine ⟨p, _, rfl, .inl (SqL.of upd_same), fun c nc => ?_⟩
    have s3 := same_new (o := .lst (cutV (ns.map V.int) none (some 63))) nc
    have ec : cutV (ns.map V.int) none (some 63) = ns.map V.int := by
      unfold cutV
      rw [HT.sIx_none, show (some (63 : Int)) = some ((63 : Nat) : Int) from rfl, HT.sIx_nat, List.drop_zero, Nat.sub_zero, List.length_map]
      exact List.take_of_length_le (by rw [List.length_map]; omega)
    rw [ec] at nc s2 s3 ⊢
    have hd3 := s3 _ _ (s2 _ _ (upd_same (H := H) (a := d) (o := .dK [])))
    refine ⟨hd3, nxtD c 0 0, rfl, by show 3 ≤ 15; decide, ?_⟩
    rw [nxt_merge]
    have ncd : c ≠ d := (ne_of_none (s2 _ _ (upd_same (H := H) (a := d) (o := .dK []))) nc).symm
    refine q _ d c (Same.put ((s1.trans s2).trans s3) nd) nd ⟨ns, 0, upd_same, by rw [upd_ne ncd, upd_same], hn, Int.le_refl 0⟩
end
end Mo

namespace Mo
open PySem PySem.Spec PyProof.Rows L2
theorem Nxt.here {H : Hp} {d c : Addr} {t : Nat} (h : Nxt H d c t) : H d ≠ none := by
  obtain ⟨_, _, h, _⟩ := h
  rw [h]
  exact Option.some_ne_none _
section
variable {P : Program} {w : World} {K : PySem.W.Frag} {mg : Str → Option Value} {base : Heap}
/-- an odd value -/
def spQ : Sp := fun vs H Q _ => ∃ c : Nat, vs = [.int c] ∧ 1 ≤ c ∧ c ≤ 8 ∧ ∀ H', Same H H' → Q (.int (qOf c : Nat)) H'
theorem empty_prm {m : Nat} : (((List.range (m - 2)).filter fun j => decide (m % (2 + j) = 0)).map fun j : Nat => V.int (2 + (j : Int))).isEmpty = prm m := by
  unfold prm
  cases h : (List.range (m - 2)).all fun i => decide (m % (2 + i) ≠ 0) with
  | true =>
    have e : (List.range (m - 2)).filter (fun j => decide (m % (2 + j) = 0)) = [] := by
      refine List.filter_eq_nil_iff.mpr fun j hj z => ?_
      have := of_decide_eq_true (List.all_eq_true.mp h j hj)
      exact this (of_decide_eq_true z)
    rw [e]
    rfl
  | false =>
    cases e : (List.range (m - 2)).filter (fun j => decide (m % (2 + j) = 0)) with
    | cons x r => rfl
    | nil =>
      have : (List.range (m - 2)).all (fun i => decide (m % (2 + i) ≠ 0)) = true := List.all_eq_true.mpr fun j hj => decide_eq_true fun z => by
        have := List.filter_eq_nil_iff.mp e j hj
        exact this (decide_eq_true z)
      rw [h] at this
      cases this
theorem ok_q {k : Nat} (T : Txt K mg) : FnOk P w K mg base CX0 (k + 1) T.aLQ T.dLQ ["_law_count"] spQ := by
  refine T.fLQ.ok scLQ (fun vs H Q E h => ?_) (fun cdv A outer s H vs Q E hr h => ?_)
  · obtain ⟨c, rfl, _⟩ := h
    rfl
  · obtain ⟨c, rfl, c1, c8, q⟩ := h
    obtain ⟨q1, q2, q3, q4⟩ := qOf_in c c1 c8
    refine ⟨_, (pss_cons (ps_set (i := 1) scLQ.nd rfl (Or.inr rfl) (pe_op op_add (pe_op op_mul pe_int (pv 0)) pe_int))
      (pss_cons (ps_while PassesOwn.never (pt_cmpR (Mo.op_neNil hr.units) (pe_lc (own := [("_law_k", 2)]) (g := gName 2) rfl scLQ.nd (pi_range2 (by rfl) T.m_range (pa_cons pe_int (pa_cons (pv 1) pa_nil))) (blkOk_by (N := ["_law_count", "_law_q_here", "_law_k"]) (sc := defScope sLQ) (by decide +kernel)) (fun _ _ _ _ _ => pg_name (i := 2) scLQ.nd rfl (Or.inl rfl)) (fun _ _ _ _ _ => pts_one (pt_cmpR op_eq (pe_op op_modN (pv 1) (pv 2)) pe_int (nomark _))) (fun _ _ _ _ _ => (pv 2))) (pe_lst pa_nil) (nomark _)) (pss_one (ps_set (i := 1) scLQ.nd rfl (Or.inr rfl) (pe_op op_add (pv 1) pe_int))))
      (pss_one (ps_ret (pv 1))))), ?_⟩
    refine ⟨_, rfl, 2, c, rfl, rfl, .inl ⟨by decide, by decide⟩, _, 2, rfl, rfl, ?_⟩
    refine while_raw (fun σ H' => ∃ m : Nat, σ = [some (.int (c : Nat)), some (.int (m : Nat)), none] ∧ 2 * c + 2 ≤ m ∧ m ≤ qOf c ∧ Same H H') (fun σ H' => match σ with | [_, some (.int r), _] => 30 - r.toNat | _ => 0) ?_ ?_
    · exact ⟨2 * c + 2, rfl, by omega, by omega, Same.refl _⟩
    · rintro σ H2 ⟨m, rfl, m1, m2, s2⟩
      refine ⟨_, rfl, 2, m, rfl, ⟨by omega, by omega, by omega, by omega⟩, fun D nD => lc_range (lo := 2) (n := ((m : Int) - 2).toNat) (fun i H' => Same H2 H' ∧ H' D = some (.lst (((List.range i).filter fun j => decide (m % (2 + j) = 0)).map fun j : Nat => V.int (2 + (j : Int))))) ?_ ?_ ?_⟩
      · exact ⟨same_new nD, upd_same⟩
      · rintro i H3 hi ⟨s3, hD⟩
        have hf : ((List.range i).filter fun j => decide (m % (2 + j) = 0)).length ≤ i := by
          refine Nat.le_trans (List.length_filter_le _ _) ?_
          rw [List.length_range]
          exact Nat.le_refl _
        have hi2 : i < ((m : Int) - 2).toNat := hi
        refine ⟨rfl, _, rfl, _, rfl, m, 2 + i, rfl, rfl, by omega, rfl, decide (m % (2 + i) = 0), ?_, ?_⟩
        · have := ne_mod m i
          show V.bl (decide (V.int ((m : Int).fmod (2 + (i : Int))) = V.int 0)) = V.bl (decide (m % (2 + i) = 0))
          by_cases e : m % (2 + i) = 0
          · rw [decide_eq_true e]
            rw [decide_eq_false (show ¬ (m % (2 + i) ≠ 0) from fun z => z e)] at this
            cases g : decide (V.int ((m : Int).fmod (2 + (i : Int))) = V.int 0) with
            | true => rfl
            | false => rw [g] at this; cases this
          · rw [decide_eq_false e]
            rw [decide_eq_true (show m % (2 + i) ≠ 0 from e)] at this
            cases g : decide (V.int ((m : Int).fmod (2 + (i : Int))) = V.int 0) with
            | false => rfl
            | true => rw [g] at this; cases this
        by_cases e : m % (2 + i) = 0
        · rw [decide_eq_true e]
          refine iteT ⟨_, rfl, _, hD, fitsLt (by rw [List.length_map]; omega), Same.put s3 nD, ?_⟩
          rw [upd_same, List.range_succ, List.filter_append, List.filter_cons, if_pos (decide_eq_true e), List.map_append]
          rfl
        · rw [decide_eq_false e]
          refine iteF ⟨s3, ?_⟩
          rw [hD, List.range_succ, List.filter_append, List.filter_cons, if_neg (by rw [decide_eq_false e]; exact Bool.false_ne_true), List.filter_nil, List.append_nil]
      · rintro H3 ⟨s3, hD⟩
        rw [show ((m : Int) - 2).toNat = m - 2 by omega] at hD
        refine ⟨Nat.zero_le _, fun z nz => ?_⟩
        have s4 := same_new (o := .lst []) nz
        refine ⟨D, z, _, rfl, rfl, SqL.of (s4 _ _ hD), SqL.of upd_same, !prm m, by rw [empty_prm], ?_⟩
        by_cases e : m = qOf c
        · subst e
          rw [q3]
          exact iteF ⟨_, rfl, q _ ((s2.trans s3).trans s4)⟩
        · rw [q4 m m1 (by omega)]
          refine iteT ⟨fun σ' H' => (∃ m' : Nat, σ' = [some (.int (c : Nat)), some (.int (m' : Nat)), none] ∧ 2 * c + 2 ≤ m' ∧ m' ≤ qOf c ∧ Same H H') ∧ (match σ' with | [_, some (.int r), _] => 30 - r.toNat | _ => 0) < 30 - (m : Int).toNat, fun σ' H' z => ⟨_, z.2, rfl, z.1⟩, ?_⟩
          refine ⟨_, rfl, m, 1, rfl, rfl, ⟨m + 1, rfl, by omega, by omega, (s2.trans s3).trans s4⟩, ?_⟩
          show 30 - ((m : Int) + 1).toNat < 30 - (m : Int).toNat
          omega
/-- the law's own block -/
def spLBlk : Sp := fun vs H Q _ => ∃ q c : Nat, vs = [.int q, .int c] ∧ 0 < q ∧ q ≤ 19 ∧ c ≤ 1000 ∧ ∀ H' p, Same H H' → H p = none → H' p = some (.tup ((blk q c).map V.int)) → Q (.ref p) H'
theorem ok_lblk {k : Nat} (T : Txt K mg) : FnOk P w K mg base CX0 (k + 1) T.aLBlock T.dLBlock ["_law_q_here", "_law_letter_here"] spLBlk := by
  refine T.fLBlock.ok scLBlock (fun vs H Q E h => ?_) (fun cdv A outer s H vs Q E hr h => ?_)
  · obtain ⟨_, _, rfl, _⟩ := h
    rfl
  · obtain ⟨q, c, rfl, q0, q1, hc, hq⟩ := h
    refine ⟨_, (pss_one (ps_ret (pe_callTy call_tuple_of (by rfl) T.m_tuple (by decide +kernel) (pa_cons (pe_lc (own := [("_law_k", 2)]) (g := gName 2) (tt := tYes) rfl scLBlock.nd (pi_range1 (by rfl) T.m_range (pa_cons (pv 0) pa_nil)) (blkOk_by (N := ["_law_q_here", "_law_letter_here", "_law_k"]) (sc := defScope sLBlock) (by decide +kernel)) (fun _ _ _ _ _ => pg_name (i := 2) scLBlock.nd rfl (Or.inl rfl)) (fun _ _ _ _ _ => pts_nil) (fun _ _ _ _ _ => (pe_op op_add (pe_op op_mul (pv 2) (pv 0)) (pe_op op_modN (pe_op op_add (pe_op op_fdivN (pv 1) (pv 0)) (pe_op op_mul (pe_op op_modN (pv 1) (pv 0)) (pv 2))) (pv 0))))) pa_nil)))), ?_⟩
    refine ⟨_, rfl, q, rfl, by omega, by omega, fun D nD => lc_range (lo := 0) (n := ((q : Nat) : Int).toNat) (fun i H' => Same H H' ∧ H' D = some (.lst (((List.range i).map fun j => ((ltr q c j : Nat) : Int)).map V.int))) ?_ ?_ ?_⟩
    · exact ⟨same_new nD, upd_same⟩
    · rintro j H3 hj ⟨s3, hD⟩
      have hj2 : j < ((q : Nat) : Int).toNat := hj
      have e0 : (0 : Int) + (j : Int) = ((j : Nat) : Int) := by omega
      refine ⟨rfl, _, rfl, _, rfl, 0 + (j : Int), q, rfl, rfl, .inl ⟨by omega, by omega⟩, ?_⟩
      refine ⟨_, rfl, _, rfl, c, q, rfl, rfl, ⟨by omega, by omega⟩, _, rfl, _, rfl, c, q, rfl, rfl, by omega, _, rfl, _, 0 + (j : Int), rfl, rfl, .inr ⟨by omega, by omega⟩, _, _, rfl, rfl, _, rfl, _, q, rfl, rfl, by omega, _, _, rfl, rfl, ?_⟩
      refine ⟨_, hD, fitsLt (by simp; omega), Same.put s3 nD, ?_⟩
      rw [upd_same, List.range_succ, List.map_append, List.map_append]
      refine congrArg (fun z => some (HO.lst (_ ++ [V.int z]))) ?_
      rw [e0, ltr_eq q c j q0]
    · rintro H3 ⟨s3, hD⟩
      refine ⟨D, _, rfl, .inl ⟨SqL.of hD, fun p np => ?_⟩⟩
      exact hq _ p (s3.trans (same_new np)) (s3.free np) upd_same
end
end Mo

namespace Mo
open PySem PySem.Spec PyProof.Rows L2
section
variable {P : Program} {w : World} {K : PySem.W.Frag} {mg : Str → Option Value} {base : Heap}
def spFar2 : Sp := fun vs H Q _ => ∃ (d c : Addr) (t : Nat), vs = [.ref d, .int 2] ∧ Nxt H d c t ∧ t + 20 < 1073741824 ∧
  ∀ H' (m t' : Nat), But d H H' → Nxt H' d c t' → t' ≤ t + 20 → m < 1000000000000 → Q (.int m) H'
theorem ok_far2 {k : Nat} (T : Txt K mg) : FnOk P w K mg base CX0 (k + 2) T.aLFar T.dLFar ["_law_pen_here", "_law_pieces"] spFar2 := by
  have GLDraw : FnOk P w K mg base CX0 (k + 1) T.aLDraw T.dLDraw ["_law_pen_here", "_law_many"] spNDraw := ok_draw T
  refine T.fLFar.ok scLFar (fun vs H Q E h => ?_) (fun cdv A outer s H vs Q E hr h => ?_)
  · obtain ⟨d, c, t, rfl, _⟩ := h
    rfl
  · obtain ⟨d, c, t, rfl, src, ht, q⟩ := h
    refine ⟨_, (pss_cons (ps_set (i := 2) scLFar.nd rfl (Or.inl rfl) pe_int)
      (pss_cons (ps_for PassesOwn.never rfl (pi_range1 (by rfl) T.m_range (pa_cons (pe_op op_add pe_int (pe_call GLDraw hr (by rfl) T.gLDraw T.fLDraw.kp T.bLDraw .nil pass0 (pa_cons (pv 0) (pa_cons (pv 1) pa_nil)))) pa_nil)) (pg_name (i := 3) scLFar.nd rfl (Or.inl rfl)) (pss_one (ps_set (i := 2) scLFar.nd rfl (Or.inl rfl) (pe_op op_add (pe_op op_mul (pv 2) (pe_op op_pow pe_int pe_int)) (pe_call GLDraw hr (by rfl) T.gLDraw T.fLDraw.kp T.bLDraw .nil pass0 (pa_cons (pv 0) (pa_cons (pe_op op_pow pe_int pe_int) pa_nil)))))))
      (pss_one (ps_ret (pv 2))))), ?_⟩
    refine ⟨_, rfl, _, rfl, d, c, 2, t, rfl, src, by omega, by omega, by omega, fun H0 x t0 but0 src0 ht0 x0 x1 => ?_⟩
    obtain ⟨x, rfl⟩ := nat_of x0
    refine ⟨1, x, rfl, rfl, _, rfl, by omega, by omega, for_range (lo := 0) (fun i σ H' => ∃ (m : Nat) (t' : Nat) (o3 : Option V), σ = [some (.ref d), some (.int 2), some (.int m), o3] ∧ m < 1000000 ^ i ∧ But d H H' ∧ Nxt H' d c t' ∧ t' ≤ t0 + i) ?_ ?_ ?_⟩
    · exact ⟨0, t0, _, rfl, by decide, but0, src0, by omega⟩
    · rintro i σ H1 hi ⟨m, t1, o3, rfl, m0, but1, src1, ht1⟩
      have hi2 : i < x + 1 := by
        have : i < ((1 : Int) + (x : Int)).toNat := hi
        omega
      refine ⟨_, rfl, 10, 6, rfl, rfl, ⟨by decide, by decide, by decide⟩, _, _, rfl, rfl, .inr ⟨by decide, by decide⟩, ?_⟩
      refine ⟨_, rfl, 10, 6, rfl, rfl, ⟨by decide, by decide, by decide⟩, d, c, _, t1, rfl, src1, by decide, by decide, by omega, fun H2 y t2 but2 src2 ht2 y0 y1 => ?_⟩
      obtain ⟨y, rfl⟩ := nat_of y0
      have y2 : y < 1000000 := by
        have : ((y : Nat) : Int) < (10 : Int) ^ (6 : Int).toNat := y1
        have e6 : (10 : Int) ^ (6 : Int).toNat = 1000000 := by decide
        omega
      refine ⟨_, _, rfl, rfl, m * 1000000 + y, t2, some (.int (0 + (i : Int))), ?_, ?_, but1.trans but2, src2, by omega⟩
      · have e6 : (10 : Int) ^ (6 : Int).toNat = ((1000000 : Nat) : Int) := by decide
        show [some (V.ref d), some (.int 2), some (.int ((m : Int) * (10 : Int) ^ (6 : Int).toNat + (y : Int))), some (.int (0 + (i : Int)))] = _
        rw [e6, ← Int.natCast_mul, ← Int.natCast_add]
      · rw [Nat.pow_succ]
        omega
    · rintro σ H1 ⟨m, t1, o3, rfl, m0, but1, src1, ht1⟩
      have hx : ((1 : Int) + (x : Int)).toNat ≤ 2 := by omega
      have le : 1000000 ^ ((1 : Int) + (x : Int)).toNat ≤ 1000000 ^ 2 := Nat.pow_le_pow_right (by decide) hx
      have e18 : 1000000 ^ 2 = 1000000000000 := by decide
      exact ⟨_, rfl, q H1 m t1 but1 src1 (by omega) (by omega)⟩
end
end Mo

set_option pp.maxSteps 300
namespace Mo
open PySem PySem.Spec PyProof.Rows L2
theorem map_erase {α β : Type} (f : α → β) : ∀ (l : List α) (k : Nat), (l.map f).eraseIdx k = (l.eraseIdx k).map f
  | [], _ => by simp
  | _ :: _, 0 => by simp
  | a :: l, k + 1 => by
    show f a :: (l.map f).eraseIdx k = f a :: (l.eraseIdx k).map f
    rw [map_erase f l k]
theorem erase_perm {α : Type} : ∀ (l : List α) (m : Nat) (h : m < l.length), (l[m] :: l.eraseIdx m).Perm l
  | [], _, h => by simp at h
  | a :: l, 0, _ => .refl _
  | a :: l, m + 1, h => (List.Perm.swap a (l[m]'(by simpa using h)) (l.eraseIdx m)).trans (.cons a (erase_perm l m (by simpa using h)))
def lenAt (H : Hp) (p : Addr) : Nat := match H p with
  | some (.lst xs) => xs.length
  | _ => 0
theorem lenAt_eq {H : Hp} {p : Addr} {xs : List V} (h : H p = some (.lst xs)) : lenAt H p = xs.length := by
  unfold lenAt
  rw [h]
section
variable {P : Program} {w : World} {K : PySem.W.Frag} {mg : Str → Option Value} {base : Heap}
def spShuffled : Sp := fun vs H Q _ => ∃ (d c : Addr) (cs : List Nat) (t : Nat), vs = [.ref d, .str (tx cs)] ∧ Nxt H d c t ∧ cs.length ≤ 1000 ∧ t < 1000000 ∧
  ∀ H' p (zs : List Nat) t', But d H H' → Nxt H' d c t' → t' ≤ t + cs.length → H p = none → p ≠ d → H' p = some (.lst (zs.map sg)) → zs.Perm cs → Q (.ref p) H'
theorem ok_shuffled {k : Nat} (T : Txt K mg) : FnOk P w K mg base CX0 (k + 2) T.aLShuffled T.dLShuffled ["_law_pen_here", "_law_values"] spShuffled := by
  have GLDraw : FnOk P w K mg base CX0 (k + 1) T.aLDraw T.dLDraw ["_law_pen_here", "_law_many"] spNDraw := ok_draw T
  refine T.fLShuffled.ok scLShuffled (fun vs H Q E h => ?_) (fun cdv A outer s H vs Q E hr h => ?_)
  · obtain ⟨_, _, _, _, rfl, _⟩ := h
    rfl
  · obtain ⟨d, c, cs, t, rfl, pen, hn, ht, q⟩ := h
    refine ⟨_, (pss_cons (ps_par (i := 2) (j := 3) (by rfl) scLShuffled.nd rfl rfl (by decide) rfl rfl (pa_cons (pe_callTy (Mo.cr_lstS rfl) (by rfl) T.m_list (by decide +kernel) (pa_cons (pv 1) pa_nil)) (pa_cons (pe_lst pa_nil) pa_nil)) (by rfl))
      (pss_cons (ps_while PassesOwn.never (pt_cmpR (Mo.op_neNil hr.units) (pv 2) (pe_lst pa_nil) (nomark _)) (pss_one (ps_expr (pe_bm PySem.F.plainAttrs_list PySem.F.slot_list_append PySem.F.type_list_append mt_append (pv 3) (pa_cons (pe_bm PySem.F.plainAttrs_list PySem.F.slot_list_pop PySem.F.type_list_pop mt_popAt (pv 2) (pa_cons (pe_call GLDraw hr (by rfl) T.gLDraw T.fLDraw.kp T.bLDraw .nil pass0 (pa_cons (pv 0) (pa_cons (pe_callB call_len_seq (by rfl) T.m_len PySem.boot_len (pa_cons (pv 2) pa_nil)) pa_nil))) pa_nil)) pa_nil)))))
      (pss_one (ps_ret (pv 3))))), ?_⟩
    refine ⟨_, rfl, cs, rfl, by omega, fun p np => ⟨Nat.zero_le _, fun g ng => ⟨_, _, rfl, ?_⟩⟩⟩
    have s1 := same_new (o := .lst (cs.map sg)) np
    have s2 := same_new (o := .lst []) ng
    have npd := (pen.new np).1
    have npc := (pen.new np).2
    have ngd := ((pen.same s1).new ng).1
    have ngc := ((pen.same s1).new ng).2
    have ngp : g ≠ p := fun z => by rw [z, upd_same] at ng; cases ng
    have ng0 : H g = none := s1.free ng
    refine while_by (fun σ H' => ∃ (ls fs : List Nat) (t' : Nat), σ = [some (.ref d), some (.str (tx cs)), some (.ref p), some (.ref g)] ∧ H' p = some (.lst (ls.map sg)) ∧ H' g = some (.lst (fs.map sg)) ∧ (fs ++ ls).Perm cs ∧ Nxt H' d c t' ∧ t' + ls.length ≤ t + cs.length ∧ But d H H') (fun _ H' => lenAt H' p) ?_ ?_ ?_
    · exact ⟨cs, [], t, rfl, s2 _ _ upd_same, upd_same, .refl _, (pen.same s1).same s2, Nat.le_refl _, But.same (s1.trans s2)⟩
    · rintro σ H1 ⟨ls, fs, t1, rfl, hp, hg, hperm, pen1, ht1, but1⟩
      have hlen := hperm.length_eq
      rw [List.length_append] at hlen
      refine ⟨_, rfl, Nat.zero_le _, fun b nb => ?_⟩
      have s3 := same_new (o := .lst []) nb
      have hp3 := s3 _ _ hp
      have hg3 := s3 _ _ hg
      have pen3 := pen1.same s3
      refine ⟨p, b, _, rfl, rfl, SqL.of hp3, SqL.of upd_same, _, rfl, ?_⟩
      generalize upd H1 b (.lst []) = H3 at *
      cases ls with
      | nil => exact iteF ⟨_, rfl, q _ g fs t1 (but1.trans (But.same s3)) pen3 (by simpa using ht1) ng0 ngd hg3 (by simpa using hperm)⟩
      | cons z ls =>
        refine iteT ⟨_, rfl, .inl ⟨rfl, _, SqL.of hg3⟩, _, rfl, .inl ⟨rfl, _, SqL.of hp3⟩, _, rfl, _, rfl, p, _, rfl, .inl (SqL.of hp3), d, c, _, t1, rfl, pen3, ?_, ?_, ?_, fun H4 j t4 but4 pen4 ht4 j0 j1 => ?_⟩
        · rw [List.length_map, List.length_cons]; omega
        · rw [List.length_map, List.length_cons]; rw [List.length_cons] at hlen; omega
        · omega
        · rw [List.length_map] at j1
          obtain ⟨m, rfl⟩ := nat_of j0
          have hm : m < (z :: ls).length := by omega
          have hp4 := but4 _ _ npd hp3
          have hg4 := but4 _ _ ngd hg3
          refine ⟨p, _, _, m, sg ((z :: ls)[m]), rfl, rfl, hp4, by omega, by rw [List.length_cons] at hm hlen; omega, ?_, ?_, ?_⟩
          · rw [List.length_map]; exact seqIndex_at (by omega) (by omega)
          · rw [List.getElem?_map, List.getElem?_eq_getElem hm]; rfl
          · refine ⟨g, _, _, rfl, rfl, by rw [upd_ne ngp]; exact hg4, fitsLt (by rw [List.length_map]; omega), ⟨(z :: ls).eraseIdx m, fs ++ [(z :: ls)[m]], t4, rfl, by rw [upd_ne ngp.symm, upd_same, map_erase], by rw [upd_same, List.map_append]; rfl, ?_, (pen4.upd npd npc).upd ngd ngc, ?_, ?_⟩, ?_⟩
            · refine List.Perm.trans ?_ hperm
              rw [List.append_assoc]
              exact List.Perm.append_left _ (erase_perm _ m hm)
            · rw [List.length_eraseIdx, if_pos hm]
              omega
            · exact ((but1.trans ((But.same s3).trans but4)).put np).put ng0
            · rw [lenAt_eq (xs := ((z :: ls).map sg).eraseIdx m) (by rw [upd_ne ngp.symm, upd_same]), lenAt_eq hp, List.length_eraseIdx, List.length_map, if_pos hm]
              omega
    · rintro σ H1 Q1 Q2 m ⟨v, hv, hz, h⟩
      refine ⟨v, hv, hz, fun b nb => ?_⟩
      obtain ⟨a, b', xs, e1, e2, e3, e4, bb, e5, z⟩ := h b nb
      exact ⟨a, b', xs, e1, e2, e3, e4, bb, e5, m _ _ z⟩
/-- a whole number within bounds -/
def numB (lo hi : Int) (d : PyData) : Bool := plainD d && (decide (lo ≤ intD d) && decide (intD d ≤ hi))
def spNum : Sp := fun vs H Q _ => ∃ (N : Addr → Prop) (x : V) (d : PyData) (lo hi : Int), vs = [x, .int lo, .int hi] ∧ Dx N H x d ∧ ∀ H', Same H H' → Q (.bl (numB lo hi d)) H'
theorem ok_num {k : Nat} (T : Txt K mg) : FnOk P w K mg base CX0 (k + 1) T.aLIsNumber T.dLIsNumber ["_law_value", "_law_low", "_law_high"] spNum := by
  refine T.fLIsNumber.ok scLIsNumber (fun vs H Q E h => ?_) (fun cdv A outer s H vs Q E hr h => ?_)
  · obtain ⟨_, _, _, _, _, rfl, _⟩ := h
    rfl
  · obtain ⟨N, x, d, lo, hi, rfl, hd, q⟩ := h
    refine ⟨_, (pss_one (ps_ret (pe_and (pe_callB call_isi (by rfl) T.m_isinstance (by decide +kernel) (pa_cons (pv 0) (pa_cons (pe_bltn (v := .ty "int") (by rfl) T.m_int (by decide +kernel) rfl) pa_nil))) (pe_and (pe_not (pe_callB call_isi (by rfl) T.m_isinstance (by decide +kernel) (pa_cons (pv 0) (pa_cons (pe_bltn (v := .ty "bool") (by rfl) T.m_bool (by decide +kernel) rfl) pa_nil)))) (pe_one (pe_chain op_le op_le (pv 1) (pv 0) (pv 2))))))), ?_⟩
    have q0 := q H (Same.refl _)
    refine ⟨_, rfl, _, _, .type (tyD d), .type "int", isIntD d, rfl, .ty "int", hd.ty, kit_ty (kit_int d), isIntD d, rfl, ?_⟩
    have zp : plainD d = (isIntD d && !isBoolD d) := rfl
    cases e : isIntD d with
    | false =>
      unfold numB at q0
      rw [zp, e] at q0
      exact iteF q0
    | true =>
      refine iteT ⟨_, rfl, _, _, .type (tyD d), .type "bool", isBoolD d, rfl, .ty "bool", hd.ty, kit_ty (kit_bool d), isBoolD d, rfl, ?_⟩
      cases eb : isBoolD d with
      | true =>
        unfold numB at q0
        rw [zp, e, eb] at q0
        exact ⟨_, rfl, iteF q0⟩
      | false =>
        have ep : plainD d = true := by rw [zp, e, eb]; rfl
        obtain ⟨i, rfl, rfl⟩ := plain_int hd ep
        unfold numB at q0
        rw [ep, Bool.true_and] at q0
        refine ⟨true, rfl, iteT ⟨_, rfl, _, rfl, lo, i, rfl, rfl, decide (lo ≤ i), rfl, ?_⟩⟩
        by_cases g0 : lo ≤ i
        · rw [show decide (lo ≤ intD (.int i)) = true from decide_eq_true g0, Bool.true_and] at q0
          rw [decide_eq_true g0]
          exact iteT ⟨_, rfl, i, hi, rfl, rfl, q0⟩
        · rw [show decide (lo ≤ intD (.int i)) = false from decide_eq_false g0, Bool.false_and] at q0
          rw [decide_eq_false g0]
          exact iteF q0
def spFil2 : Sp := fun vs H Q _ => ∃ (ws : List Nat) (va : Addr) (kvs : List (Key × V)) (f : Nat → List Int), vs = [.str (tx ws), .ref va] ∧ H va = some (.dK kvs) ∧ (ws.flatMap f).length ≤ 100000 ∧ (∀ c ∈ ws, ∃ p, valV kvs (kS c) = some (.ref p) ∧ H p = some (.tup ((f c).map V.int))) ∧
  ∀ H' p, Same H H' → H' p = some (.tup ((ws.flatMap f).map V.int)) → Q (.ref p) H'
theorem ok_fil2 {k : Nat} (T : Txt K mg) : FnOk P w K mg base CX0 (k + 1) T.aLFilled T.dLFilled ["_law_pattern", "_law_values"] spFil2 := by
  refine T.fLFilled.ok scLFilled (fun vs H Q E h => ?_) (fun cdv A outer s H vs Q E hr h => ?_)
  · obtain ⟨_, _, _, _, rfl, _⟩ := h
    rfl
  · obtain ⟨ws, va, kvs, f, rfl, hva, hl, el, q⟩ := h
    refine ⟨_, (pss_cons (ps_set (i := 2) scLFilled.nd rfl (Or.inl rfl) (pe_tup pa_nil))
      (pss_cons (ps_for PassesOwn.never rfl (pi_str (pv 0)) (pg_name (i := 3) scLFilled.nd rfl (Or.inl rfl)) (pss_one (ps_set (i := 2) scLFilled.nd rfl (Or.inl rfl) (pe_op op_catA (pv 2) (pe_dget (Mo.room1 hr) (pv 1) (pv 3) (fun _ _ => rfl))))))
      (pss_one (ps_ret (pv 2))))), ?_⟩
    refine ⟨by show 0 ≤ sizeLine; decide, fun b0 nb0 => ?_⟩
    have s0 := same_new (o := .tup []) nb0
    have h0 := upd_same (H := H) (a := b0) (o := .tup [])
    generalize upd H b0 (.tup []) = H0 at *
    refine ⟨_, rfl, tx ws, rfl, for_it walk_str (fun i σ H' => ∃ (b : Addr) (o3 : Option V), σ = [some (.str (tx ws)), some (.ref va), some (.ref b), o3] ∧ Same H H' ∧ H' b = some (.tup (((ws.take i).flatMap f).map V.int))) ?_ ?_ ?_ ?_⟩
    · exact ⟨b0, _, rfl, s0, h0⟩
    · exact fun _ _ _ _ _ => trivial
    · rintro i x σ H4 H4' hi ⟨b, o3, rfl, s4, hb⟩ ⟨rfl, c, hc, rfl⟩
      rw [tx_get] at hc
      obtain ⟨p, e1, e2⟩ := el c (List.mem_of_getElem? hc)
      have g := DGet.k (k := kS c) (s4 _ _ hva)
      rw [e1] at g
      have fl := (flat_pre (f := f) ws (i + 1)).length_le
      rw [flat_takeF hc, List.length_append] at fl
      refine ⟨_, rfl, _, rfl, _, rfl, va, _, rfl, g, catA_any hb (s4 _ _ e2) (fits5 (by rw [List.length_map, List.length_map]; omega)) fun b' H6 s6 hb' hw => ?_⟩
      refine ⟨b', _, rfl, s4.trans s6, ?_⟩
      rw [flat_takeF hc, List.map_append]
      exact hb'
    · rintro σ H4 ⟨b, o3, rfl, s4, hb⟩
      rw [tx_size, List.take_length] at hb
      exact ⟨_, rfl, q _ b s4 hb⟩
end
end Mo

/-! ### the text of a great int; a list extended by a tuple; the end of a law that takes both -/
namespace Mo
open PySem PySem.Spec PyProof.Rows L2
def rReprBig : List V → Hp → VK → Prop := fun xs H Q => ∃ i, xs = [.int i] ∧ i.natAbs < 10 ^ 4300 ∧ Q (.str (toString i)) H
theorem extend_tup (l : Addr) (items : Array Value) (n : Nat) (b : Addr) (items2 : Array Value) (n2 : Nat) (di : Option Addr) (sl : Array (Option Value)) (hs0 : ¬(!items.isEmpty && Builtin.List.listTooLong (items.size + items2.size)) = true) (hs1 : items.size ≤ sizeLine) (hs2 : items.size + items2.size ≤ sizeLine + 1) :
    Meets (Builtin.«list.extend» ⟨[.ref l, .ref b], []⟩) (fun _ R s => s.heap.get? l = some { cls := .type "list", dict := none, data := .seq items n, slots := #[] } ∧ s.heap.get? b = some { cls := .type "tuple", dict := di, data := .seq items2 n2, slots := sl } ∧ R (.ok (.ret Value.none)) { s with heap := s.heap.update l (Obj.mapSeq fun x => x ++ items2), toks := s.toks }) :=
  .of_wp fun prog w A R s h => by
    obtain ⟨hp, g, d, tk, os⟩ := s; obtain ⟨hl, hb, h⟩ := h; have f1 := AutoSeq1.idx_int; have f2 := AutoSeq1.sub_tuple_tuple; have f3 := AutoSeq1.sub_list_list; have f4 := AutoSeq1.sub_tuple_list; have f5 := AutoSeq1.sub_list_tuple;
    have hz' : (items ++ items2).size ≤ sizeLine + 1 := by rw [Array.size_append]; exact hs2
    wp_walk using (wpAny_updateSeq hl rfl (hz := hs1) (_hz' := hz')), AutoSeq1.wpAny_loadPart' hl, AutoSeq1.wpAny_loadPart' hb; exact ⟨_, rfl, h⟩
def rExtendT (K : PySem.W.Frag) : V → List V → Hp → VK → Prop := fun x vs H Q => ∃ l b xs zs, x = .ref l ∧ vs = [.ref b] ∧ H l = some (.lst xs) ∧ SqT K H b zs ∧ xs.length + zs.length ≤ sizeLine ∧ Q .non (upd H l (.lst (xs ++ zs)))
theorem mt_extendT {X : Cx} : MtM X "list.extend" (rExtendT X.K) := by
  intro pins s σ H x vs v us Q I rx rv h
  obtain ⟨l, b, xs, zs, rfl, rfl, hH, hB, hz, q⟩ := h
  cases rx
  obtain ⟨u, rfl, ru⟩ := rv.one
  cases ru
  obtain ⟨z, its, n, r, hl, e⟩ := I.lstM hH
  obtain ⟨its2, r2, pt, z2⟩ := I.tuple hB
  obtain ⟨⟨c2, di2, da2, sl2⟩, e2, hc2, n2, hd2⟩ := pt
  cases hc2
  cases hd2
  have hl2 := r2.length
  have hsz : its.toArray.size + its2.toArray.size ≤ sizeLine := by rw [List.size_toArray, List.size_toArray]; omega
  have hlong : ¬ (!its.toArray.isEmpty && Builtin.List.listTooLong (its.toArray.size + its2.toArray.size)) = true := by
    rw [notLongL hsz, Bool.and_false]
    exact Bool.false_ne_true
  refine call_meets PySem.F.slot_list_extend ⟨_, e, rfl⟩ PySem.F.entry_list_extend (PySem.F.args_list_extend_2 _ _)
    (extend_tup l its.toArray n b its2.toArray n2 di2 sl2 hlong (by rw [List.size_toArray]; omega) (by omega)) ⟨e, e2, ?_⟩
  refine ⟨.non, _, I.lset (its' := its ++ its2) hH e (by simp) (r.append r2) ?_, rfl, q⟩
  rw [List.length_append]
  omega
def LawD (l : PySem.W.OpenLaw) (w : World) (K : PySem.W.Frag) (CX : CXT) (k n : Nat) (x : Str) (mg : Str → Option Value) (fa : Addr) (h : Heap) : Prop :=
  ∃ (fd : FuncData) (cs : List (Addr × Addr)) (sp : Sp), (∀ p ∈ cs, h.get? p.2 = some tab0) ∧ (∀ p ∈ cs, K.lookup p.2 = none) ∧ (∀ p ∈ cs, PySem.W.codeHdIn K p.1 p.2 = true) ∧ (∀ (s : Shared) (u : Value), BindsTo s fd ⟨[u], []⟩ [(x, u)]) ∧
    (∀ (H : Hp) (a : Addr) (ns : List Int), ns.length ≤ n → (∀ p ∈ cs, H p.2 = some (.tbl #[])) → SqL K H a (ns.map V.int) → sp [.ref a] H (fun v _ => v = .bl true) fun _ _ _ => False) ∧
    ∀ base : Heap, K.In base → base.Ns mainGlobals mg → (∀ p ∈ cs, LamX.TabB base mg p.1 p.2) → (∃ mm, base.Ns sysModules mm) ∧ base.NoDigits → FnG l.prog w K mg base CX k fa fd [x] sp
end Mo

namespace Mo
open PySem PySem.Spec PyProof.Rows L2
theorem div_pow (i q n : Nat) : i / q ^ n / q = i / q ^ (n + 1) := by rw [Nat.div_div_eq_div_mul, Nat.pow_succ]
/-- the letters' indexes above i -/
def dig (q i n : Nat) : List V := (List.range n).map fun k => V.int ((i / q ^ k : Nat) : Int)
theorem dig_succ (q i n : Nat) : dig q i (n + 1) = dig q i n ++ [V.int ((i / q ^ n : Nat) : Int)] := by
  unfold dig
  rw [List.range_succ, List.map_append]
  rfl
theorem dig_len (q i n : Nat) : (dig q i n).length = n := by
  unfold dig
  rw [List.length_map, List.length_range]
theorem dig_rev {q i n j : Nat} (h : j < n) : (dig q i n).reverse[j]? = some (V.int ((i / q ^ (n - 1 - j) : Nat) : Int)) := by
  rw [List.getElem?_reverse (by rw [dig_len]; exact h), dig_len]
  unfold dig
  rw [List.getElem?_map, List.getElem?_range (by omega)]
  rfl
theorem fdivN (a b : Nat) : ((a : Nat) : Int).fdiv b = ((a / b : Nat) : Int) := by
  rw [Int.fdiv_eq_ediv_of_nonneg _ (by omega), ← Int.natCast_ediv]
theorem fmodN (a b : Nat) : ((a : Nat) : Int).fmod b = ((a % b : Nat) : Int) := by
  rw [Int.fmod_eq_emod_of_nonneg _ (by omega), ← Int.natCast_emod]
theorem steps_few {q i n : Nat} (hq : 4 ≤ q) (hi : i < 4 ^ 30) (h : 0 < i / q ^ n) : n < 30 := by
  rcases Nat.lt_or_ge n 30 with z | z
  · exact z
  · have a1 : 4 ^ 30 ≤ q ^ n := Nat.le_trans (Nat.pow_le_pow_right (by decide) z) (Nat.pow_le_pow_left hq n)
    rw [Nat.div_eq_of_lt (by omega)] at h
    exact absurd h (Nat.lt_irrefl _)
section
variable {P : Program} {w : World} {K : PySem.W.Frag} {mg : Str → Option Value} {base : Heap}
def spLLet : Sp := fun vs H Q _ => ∃ q i : Nat, vs = [.int q, .int i] ∧ 4 ≤ q ∧ q ≤ 19 ∧ i < 4 ^ 30 ∧ ∀ H', Same H H' → Q (.int (av q i : Nat)) H'
theorem ok_llet {k : Nat} (T : Txt K mg) : FnOk P w K mg base CX0 (k + 2) T.aLLetter T.dLLetter ["_law_q_here", "_law_index"] spLLet := by
  have GLBlock : FnOk P w K mg base CX0 (k + 1) T.aLBlock T.dLBlock ["_law_q_here", "_law_letter_here"] spLBlk := ok_lblk T
  refine T.fLLetter.ok scLLetter (fun vs H Q E h => ?_) (fun cdv A outer s H vs Q E hr h => ?_)
  · obtain ⟨q, i, rfl, _⟩ := h
    rfl
  · obtain ⟨q, i, rfl, q4, q19, hi, fin⟩ := h
    refine ⟨_, (pss_cons (ps_set (i := 2) scLLetter.nd rfl (Or.inl rfl) (pe_lst (pa_cons (pv 1) pa_nil)))
      (pss_cons (ps_while PassesOwn.never (pt_cmpR op_gt (pe_ix ix_list (pv 2) (pe_un un_neg pe_int) (fun _ _ => rfl)) pe_int (nomark _)) (pss_one (ps_expr (pe_bm PySem.F.plainAttrs_list PySem.F.slot_list_append PySem.F.type_list_append mt_append (pv 2) (pa_cons (pe_op op_fdivN (pe_ix ix_list (pv 2) (pe_un un_neg pe_int) (fun _ _ => rfl)) (pv 0)) pa_nil)))))
      (pss_cons (ps_set (i := 3) scLLetter.nd rfl (Or.inl rfl) pe_int)
      (pss_cons (ps_for PassesOwn.never rfl (pi_list (pe_revL (pv 2))) (pg_name (i := 4) scLLetter.nd rfl (Or.inl rfl)) (pss_one (ps_set (i := 3) scLLetter.nd rfl (Or.inl rfl) (pe_ix ix_tup (pe_call GLBlock hr (by rfl) T.gLBlock T.fLBlock.kp T.bLBlock .nil pass0 (pa_cons (pv 0) (pa_cons (pv 3) pa_nil))) (pe_op op_modN (pv 4) (pv 0)) (fun _ _ => rfl)))))
      (pss_one (ps_ret (pv 3))))))), ?_⟩
    refine ⟨_, rfl, by show 1 ≤ sizeLine; decide, fun L nL => ?_⟩
    have s1 := same_new (o := .lst [V.int (i : Int)]) nL
    have hL1 : upd H L (.lst [V.int (i : Int)]) L = some (.lst (dig q i 1)) := by
      rw [upd_same]
      unfold dig
      simp
    generalize upd H L (.lst [V.int (i : Int)]) = H1 at *
    refine while_raw (fun σ H' => ∃ n : Nat, σ = [some (.int (q : Nat)), some (.int (i : Nat)), some (.ref L), none, none] ∧ Same H H' ∧ H' L = some (.lst (dig q i (n + 1))) ∧ n ≤ 31) (fun _ H' => match H' L with | some (.lst xs) => 64 - xs.length | _ => 0) ⟨0, rfl, s1, hL1, by omega⟩ ?_
    rintro σ H2 ⟨n, rfl, s2, hL2, n31⟩
    have last : atI (dig q i (n + 1)) (-1) = some (V.int ((i / q ^ n : Nat) : Int)) := by
      rw [dig_succ]
      exact atI_last _ _
    refine ⟨_, rfl, 1, rfl, L, _, -1, _, rfl, rfl, SqL.of hL2, last, _, 0, rfl, rfl, decide (((i / q ^ n : Nat) : Int) > 0), rfl, ?_⟩
    by_cases e : 0 < i / q ^ n
    · have few := steps_few q4 hi e
      rw [decide_eq_true (by omega)]
      refine iteT ⟨fun σ' H' => σ' = [some (.int (q : Nat)), some (.int (i : Nat)), some (.ref L), none, none] ∧ Same H H' ∧ H' L = some (.lst (dig q i (n + 2))), ?_, ?_⟩
      · rintro σ' H' ⟨rfl, s3, hL3⟩
        refine ⟨_, ?_, rfl, n + 1, rfl, s3, hL3, by omega⟩
        show (match H' L with | some (.lst xs) => 64 - xs.length | _ => 0) < (match H2 L with | some (.lst xs) => 64 - xs.length | _ => 0)
        rw [hL3, hL2]
        show 64 - (dig q i (n + 2)).length < 64 - (dig q i (n + 1)).length
        rw [dig_len, dig_len]
        omega
      · refine ⟨_, rfl, .inl ⟨rfl, _, SqL.of hL2⟩, _, rfl, 1, rfl, L, _, -1, _, rfl, rfl, SqL.of hL2, last, _, rfl, _, q, rfl, rfl, ⟨by omega, by omega⟩, L, _, _, rfl, rfl, hL2, fitsLt (by rw [dig_len]; omega), rfl, Same.put s2 nL, ?_⟩
        rw [upd_same, dig_succ q i (n + 1)]
        show some (HO.lst (dig q i (n + 1) ++ [V.int (((i / q ^ n : Nat) : Int).fdiv q)])) = _
        rw [fdivN, div_pow]
    · rw [decide_eq_false (by omega)]
      refine iteF ?_
      refine ⟨_, rfl, L, _, rfl, SqL.of hL2, fun p np => ?_⟩
      have s3 := same_new (o := .lst (dig q i (n + 1)).reverse) np
      have hp3 : upd H2 p (.lst (dig q i (n + 1)).reverse) p = some (.lst (dig q i (n + 1)).reverse) := upd_same
      have s13 := s2.trans s3
      generalize upd H2 p (.lst (dig q i (n + 1)).reverse) = H3 at *
      have z0 : i / q ^ n = 0 := Nat.eq_zero_of_not_pos e
      have z1 : i / q ^ (n + 1) = 0 := by rw [← div_pow, z0, Nat.zero_div]
      refine ⟨p, rfl, ⟨_, SqL.of hp3⟩, for_list (K := K) (a := p) (xs := (dig q i (n + 1)).reverse) (fun j σ H' => ∃ o4 : Option V, σ = [some (.int (q : Nat)), some (.int (i : Nat)), some (.ref L), some (.int ((av q (i / q ^ (n + 1 - j)) : Nat) : Int)), o4] ∧ Same H3 H') ?_ ?_ ?_ ?_⟩
      · refine ⟨none, ?_, Same.refl _⟩
        rw [Nat.sub_zero, z1, av_zero]
        rfl
      · rintro j σ H4 _ ⟨o4, rfl, s4⟩
        exact SqL.of (s4 _ _ hp3)
      · rintro j x σ H4 hx ⟨o4, rfl, s4⟩
        have hj : j < n + 1 := by
          have := (List.getElem?_eq_some_iff.mp hx).1
          rw [List.length_reverse, dig_len] at this
          exact this
        rw [dig_rev hj] at hx
        cases hx
        have hm : n + 1 - j = (n - j) + 1 := by omega
        rw [show n + 1 - 1 - j = n - j by omega, hm]
        obtain ⟨m, hm2⟩ : ∃ m, m = n - j := ⟨_, rfl⟩
        rw [← hm2]
        have lt := av_lt (q := q) (by omega) (i / q ^ (m + 1))
        have qq : q * q ≤ 19 * 19 := Nat.mul_le_mul q19 q19
        refine ⟨_, rfl, _, rfl, q, _, rfl, by omega, q19, by omega, fun H5 p5 s5 np5 h5 => ?_⟩
        refine ⟨_, rfl, _, rfl, _, q, rfl, rfl, by omega, p5, _, ((i / q ^ m % q : Nat) : Int), V.int ((ltr q (av q (i / q ^ (m + 1))) (i / q ^ m % q) : Nat) : Int), rfl, congrArg V.int (fmodN _ _), SqT.of h5, atI_nat ?_, ?_⟩
        · unfold blk
          have := Nat.mod_lt (i / q ^ m) (show 0 < q by omega)
          rw [List.map_map, List.getElem?_map, List.getElem?_range this]
          rfl
        · refine ⟨some (.int ((i / q ^ m : Nat) : Int)), ?_, s4.trans s5⟩
          rw [← div_pow, ← av_step (by omega), show n + 1 - (j + 1) = m by omega]
          rfl
      · rintro σ H4 ⟨o4, rfl, s4⟩
        rw [List.length_reverse, dig_len, Nat.sub_self, Nat.pow_zero, Nat.div_one]
        exact ⟨_, rfl, fin H4 (s13.trans s4)⟩
end
end Mo

namespace Mo
open PySem PySem.Spec PyProof.Rows L2
section
variable {P : Program} {w : World} {K : PySem.W.Frag} {mg : Str → Option Value} {base : Heap}
def spLTex : Sp := fun vs H Q _ => ∃ q b n : Nat, vs = [.int q, .int b, .int n] ∧ 4 ≤ q ∧ q ≤ 19 ∧ b ≤ 1000000000000000000 ∧ n ≤ 4097 ∧ ∀ H' p, Same H H' → H' p = some (.tup ((avs q b n).map V.int)) → Q (.ref p) H'
theorem ok_ltex {k : Nat} (T : Txt K mg) : FnOk P w K mg base CX0 (k + 3) T.aLText T.dLText ["_law_q_here", "_law_start", "_law_length"] spLTex := by
  have GLBlock : FnOk P w K mg base CX0 (k + 2) T.aLBlock T.dLBlock ["_law_q_here", "_law_letter_here"] spLBlk := ok_lblk T
  have GLLetter : FnOk P w K mg base CX0 (k + 2) T.aLLetter T.dLLetter ["_law_q_here", "_law_index"] spLLet := ok_llet T
  refine T.fLText.ok scLText (fun vs H Q E h => ?_) (fun cdv A outer s H vs Q E hr h => ?_)
  · obtain ⟨q, b, n, rfl, _⟩ := h
    rfl
  · obtain ⟨q, b, n, rfl, q4, q19, hb, hn, fin⟩ := h
    refine ⟨_, (pss_cons (ps_set (i := 3) scLText.nd rfl (Or.inl rfl) (pe_lst pa_nil))
      (pss_cons (ps_for PassesOwn.never rfl (pi_range2 (by rfl) T.m_range (pa_cons (pe_op op_fdivN (pv 1) (pv 0)) (pa_cons (pe_op op_add (pe_op op_fdivN (pe_op op_add (pv 1) (pv 2)) (pv 0)) pe_int) pa_nil))) (pg_name (i := 4) scLText.nd rfl (Or.inl rfl)) (pss_one (ps_expr (pe_bm PySem.F.plainAttrs_list PySem.F.slot_list_extend PySem.F.type_list_extend Mo.mt_extendT (pv 3) (pa_cons (pe_call GLBlock hr (by rfl) T.gLBlock T.fLBlock.kp T.bLBlock .nil pass0 (pa_cons (pv 0) (pa_cons (pe_call GLLetter hr (by rfl) T.gLLetter T.fLLetter.kp T.bLLetter .nil pass0 (pa_cons (pv 0) (pa_cons (pv 4) pa_nil))) pa_nil))) pa_nil)))))
      (pss_one (ps_ret (pe_callTy call_tuple_of (by rfl) T.m_tuple (by decide +kernel) (pa_cons (pe_slice sl_list (pe_slice sl_list (pv 3) (po_some (pe_op op_modN (pv 1) (pv 0))) po_none) po_none (po_some (pv 2))) pa_nil)))))), ?_⟩
    refine ⟨Nat.zero_le _, fun l nl => ?_⟩
    have s1 := same_new (o := .lst []) nl
    have hl1 : upd H l (.lst []) l = some (.lst []) := upd_same
    generalize upd H l (.lst []) = H1 at *
    have e1 := Nat.div_add_mod b q
    have e2 := Nat.div_add_mod (b + n) q
    have m1 := Nat.mod_lt b (show 0 < q by omega)
    have m2 := Nat.mod_lt (b + n) (show 0 < q by omega)
    have le12 : b / q ≤ (b + n) / q := Nat.div_le_div_right (by omega)
    have up : (b + n) / q ≤ b + n := Nat.div_le_self _ _
    obtain ⟨lo, hlo⟩ : ∃ lo, lo = b / q := ⟨_, rfl⟩
    obtain ⟨hi, hhi⟩ : ∃ hi, hi = (b + n) / q := ⟨_, rfl⟩
    have v1 : ((b : Nat) : Int).fdiv q = (lo : Nat) := by rw [fdivN, hlo]
    have v2 : (((b : Nat) : Int) + ((n : Nat) : Int)).fdiv q = (hi : Nat) := by rw [← Int.natCast_add, fdivN, hhi]
    rw [← hlo] at e1 le12
    rw [← hhi] at e2 le12 up
    refine ⟨_, rfl, _, rfl, _, q, rfl, rfl, ⟨by omega, by omega⟩, _, rfl, _, rfl, _, _, rfl, rfl, _, rfl, _, q, rfl, rfl, ⟨by omega, by omega⟩, _, 1, rfl, rfl, (lo : Int), (hi : Int) + 1, ?_, ⟨by omega, by omega, by omega, by omega⟩, for_range (lo := (lo : Int)) (fun j σ H' => ∃ o4 : Option V, σ = [some (.int (q : Nat)), some (.int (b : Nat)), some (.int (n : Nat)), some (.ref l), o4] ∧ Same H H' ∧ H' l = some (.lst ((avs q (q * lo) (q * j)).map V.int))) ?_ ?_ ?_⟩
    · show [V.int (((b : Nat) : Int).fdiv q), V.int ((((b : Nat) : Int) + ((n : Nat) : Int)).fdiv q + 1)] = _
      rw [v1, v2]
    · exact ⟨_, rfl, s1, hl1⟩
    · rintro j σ H2 hj ⟨o4, rfl, s2, hl2⟩
      have hj2 : j < hi + 1 - lo := by omega
      have big : q * (lo + j) ≤ q * hi := Nat.mul_le_mul_left _ (by omega)
      rw [Nat.mul_add] at big
      have l30 : lo + j < 4 ^ 30 := by
        rw [four30]
        omega
      refine ⟨_, rfl, .inl ⟨rfl, _, SqL.of hl2⟩, _, rfl, _, rfl, _, rfl, q, lo + j, ?_, q4, q19, l30, fun H3 s3 => ?_⟩
      · rw [Int.natCast_add]
        rfl
      have lt := av_lt (q := q) (by omega) (lo + j)
      have qq : q * q ≤ 19 * 19 := Nat.mul_le_mul q19 q19
      refine ⟨q, _, rfl, by omega, q19, by omega, fun H4 p4 s4 np4 h4 => ?_⟩
      have hl4 := s4 _ _ (s3 _ _ hl2)
      refine ⟨l, p4, _, _, rfl, rfl, hl4, SqT.of h4, ?_, ?_⟩
      · rw [List.length_map, avs_len, List.length_map]
        unfold blk
        rw [List.length_map, List.length_range]
        exact fits5 (by omega)
      · refine ⟨_, rfl, Same.put ((s2.trans s3).trans s4) nl, ?_⟩
        rw [upd_same, ← List.map_append, ← avs_blk (by omega), Nat.mul_add, avs_app, Nat.mul_succ]
    · rintro σ H2 ⟨o4, rfl, s2, hl2⟩
      have cnt : ((hi : Int) + 1 - (lo : Int)).toNat = hi + 1 - lo := by omega
      rw [cnt] at hl2
      have tot : q * (hi + 1 - lo) + q * lo = q * hi + q := by
        rw [← Nat.mul_add, show hi + 1 - lo + lo = hi + 1 by omega, Nat.mul_succ]
      refine ⟨_, rfl, _, rfl, _, rfl, _, q, rfl, rfl, by omega, _, rfl, l, _, rfl, SqL.of hl2, fun m nm => ?_⟩
      have s3 := same_new (o := .lst (cutV ((avs q (q * lo) (q * (hi + 1 - lo))).map V.int) (some (((b : Nat) : Int).fmod q)) none)) nm
      have hm3 : upd H2 m (.lst (cutV ((avs q (q * lo) (q * (hi + 1 - lo))).map V.int) (some (((b : Nat) : Int).fmod q)) none)) m = some (.lst (((avs q (q * lo) (q * (hi + 1 - lo))).drop (b % q)).map V.int)) := by
        rw [upd_same, fmodN, cut_from, List.map_drop]
      generalize upd H2 m (.lst (cutV ((avs q (q * lo) (q * (hi + 1 - lo))).map V.int) (some (((b : Nat) : Int).fmod q)) none)) = H3 at *
      refine ⟨_, rfl, _, rfl, m, _, rfl, SqL.of hm3, fun m2 nm2 => ?_⟩
      have cut : cutV (((avs q (q * lo) (q * (hi + 1 - lo))).drop (b % q)).map V.int) none (some (n : Int)) = (avs q b n).map V.int := by
        rw [cut_to, ← List.map_take, avs_cut (by omega), e1]
      have s4 := same_new (o := .lst (cutV (((avs q (q * lo) (q * (hi + 1 - lo))).drop (b % q)).map V.int) none (some (n : Int)))) nm2
      refine ⟨m2, _, rfl, .inl ⟨SqL.of upd_same, fun p np => ?_⟩⟩
      rw [cut] at s4 np ⊢
      exact fin _ p (((s2.trans s3).trans s4).trans (same_new np)) upd_same
end
end Mo

/-! ### dicts of values as data; picks from a source -/
namespace Mo
open PySem PySem.Spec PyProof.Rows L2
theorem putK_newQ {kvs : List (Key × V)} {k : Key} {v : V} (h : ∀ kv ∈ kvs, kv.1 ≠ k) : putK kvs k v = kvs ++ [(k, v)] := by
  unfold putK
  rw [if_neg]
  intro e
  obtain ⟨kv, hm, hk⟩ := List.any_eq_true.mp e
  exact h kv hm (of_decide_eq_true hk)
theorem dct_dxQ {N : Addr → Prop} {H : Hp} {x : V} {kvd : List (PyData × PyData)} (h : Dx N H x (.dict kvd)) : ∃ (a : Addr) (kvs : List (Key × V)) (ds : List PyData), x = .ref a ∧ H a = some (.dK kvs) ∧ ¬ N a ∧ DxAll N H (kvs.map (·.2)) ds ∧ kvd = (kvs.map fun kv => keyD kv.1).zip ds := by
  generalize e : PyData.dict kvd = d at h
  cases h with
  | dct h n t => exact ⟨_, _, _, rfl, h, n, t, PyData.dict.inj e⟩
  | _ => cases e
theorem zip_fstQ {α β : Type} : ∀ {a : List α} {b : List β}, a.length = b.length → (a.zip b).map (·.1) = a
  | [], [], _ => rfl
  | [], _ :: _, h => by simp at h
  | _ :: _, [], h => by simp at h
  | x :: a, y :: b, h => by rw [List.zip_cons_cons, List.map_cons, zip_fstQ (by simpa using h)]
theorem lock_sameQ {H H' : Hp} {a : Addr} {u : HO} {od : Obj} (ha : H a = some u) (s : Same (upd H a (.frz od u)) H') : Same H (upd H' a u) := fun b o e => by
  by_cases h : b = a
  · subst h
    rw [upd_same]
    rw [ha] at e
    exact e
  · rw [upd_ne h]
    exact s _ _ (by rw [upd_ne h]; exact e)
def DctV (P : PyData → Prop) (n : Nat) (kvd : List (PyData × PyData)) : Prop := kvd.length ≤ n ∧ ((kvd.map (·.1)).Nodup ∧ ∀ kv ∈ kvd, Fit 40 40 0 kv.1 ∧ P kv.2)
theorem fit_kvdQ {B W V D : Nat} {n : Nat} : ∀ {kvd : List (PyData × PyData)}, (∀ kv ∈ kvd, Fit B W D kv.1 ∧ Fit B V D kv.2) → okKv B kvd ∧ PyData.bulkKv kvd ≤ kvd.length * (W + V + 2) ∧ PyData.depthKv kvd ≤ D
  | [], _ => ⟨by simp [okKv], by simp [PyData.bulkKv], by simp [PyData.depthKv]⟩
  | (a, b) :: r, h => by
    obtain ⟨h1, h2, h3⟩ := fit_kvdQ (n := n) (kvd := r) fun x hx => h x (List.mem_cons_of_mem _ hx)
    obtain ⟨ha, hb⟩ := h (a, b) List.mem_cons_self
    have a1 := ha.bulk
    have b1 := hb.bulk
    have a2 := ha.deep
    have b2 := hb.deep
    refine ⟨?_, ?_, ?_⟩
    · simp only [okKv]
      exact ⟨⟨ha.ok, hb.ok⟩, h1⟩
    · simp only [PyData.bulkKv, List.length_cons]
      rw [Nat.add_mul]
      simp only at a1 b1
      omega
    · simp only [PyData.depthKv]
      simp only at a2 b2
      omega
structure DA (P : PyData → Prop) (N : Addr → Prop) (H : Hp) (kvs : List (Key × V)) (ds : List PyData) (n : Nat) : Prop where
  dat : DxAll N H (kvs.map (·.2)) ds
  len : kvs.length ≤ n
  nod : (kvs.map (·.1)).Nodup
  kfit : ∀ kv ∈ kvs, Fit 40 40 0 (keyD kv.1)
  ent : ∀ d ∈ ds, P d
theorem DA.ln {P : PyData → Prop} {N : Addr → Prop} {H : Hp} {kvs : List (Key × V)} {ds : List PyData} {n : Nat} (h : DA P N H kvs ds n) : kvs.length = ds.length := by
  have := h.dat.length
  rw [List.length_map] at this
  exact this
theorem DA.same {P : PyData → Prop} {N : Addr → Prop} {H H' : Hp} {kvs : List (Key × V)} {ds : List PyData} {n : Nat} (h : DA P N H kvs ds n) (s : Same H H') : DA P N H' kvs ds n := ⟨h.dat.same s, h.len, h.nod, h.kfit, h.ent⟩
theorem DA.but {P : PyData → Prop} {N : Addr → Prop} {H H' : Hp} {kvs : List (Key × V)} {ds : List PyData} {n : Nat} (h : DA P N H kvs ds n) (s : ∀ b o, ¬ N b → H b = some o → H' b = some o) : DA P N H' kvs ds n := ⟨h.dat.but s, h.len, h.nod, h.kfit, h.ent⟩
theorem DA.imp {P P' : PyData → Prop} {N : Addr → Prop} {H : Hp} {kvs : List (Key × V)} {ds : List PyData} {n n' : Nat} (h : DA P N H kvs ds n) (hn : n ≤ n') (i : ∀ d, P d → P' d) : DA P' N H kvs ds n' := ⟨h.dat, Nat.le_trans h.len hn, h.nod, h.kfit, fun d hd => i d (h.ent d hd)⟩
theorem map_keyD (kvs : List (Key × V)) : (kvs.map fun kv => keyD kv.1) = (kvs.map (·.1)).map keyD := by rw [List.map_map]; rfl
theorem nodup_map_keyD {l : List Key} (h : l.Nodup) : (l.map keyD).Nodup := by
  induction l with
  | nil => exact List.nodup_nil
  | cons a l ih =>
    rw [List.nodup_cons] at h
    rw [List.map_cons, List.nodup_cons]
    refine ⟨fun z => ?_, ih h.2⟩
    obtain ⟨b, hb, e⟩ := List.mem_map.mp z
    exact h.1 (keyD_inj e ▸ hb)
theorem mem_zipQ {α β : Type} : ∀ {a : List α} {b : List β} {x : α × β}, x ∈ a.zip b → x.1 ∈ a ∧ x.2 ∈ b
  | [], _, _, h => by simp at h
  | _ :: _, [], _, h => by simp at h
  | p :: a, q :: b, x, h => by
    rw [List.zip_cons_cons, List.mem_cons] at h
    rcases h with rfl | h
    · exact ⟨List.mem_cons_self, List.mem_cons_self⟩
    · exact ⟨List.mem_cons_of_mem _ (mem_zipQ h).1, List.mem_cons_of_mem _ (mem_zipQ h).2⟩
theorem mem_of_zipQ {α β : Type} : ∀ {a : List α} {b : List β} {y : β}, a.length = b.length → y ∈ b → ∃ x, (x, y) ∈ a.zip b
  | [], [], _, _, h => by simp at h
  | [], _ :: _, _, h, _ => by simp at h
  | _ :: _, [], _, h, _ => by simp at h
  | p :: a, q :: b, y, hl, h => by
    rw [List.zip_cons_cons]
    rcases List.mem_cons.mp h with rfl | h
    · exact ⟨p, List.mem_cons_self⟩
    · obtain ⟨x, hx⟩ := mem_of_zipQ (a := a) (b := b) (by simpa using hl) h
      exact ⟨x, List.mem_cons_of_mem _ hx⟩
theorem DA.dct {P : PyData → Prop} {N : Addr → Prop} {H : Hp} {kvs : List (Key × V)} {ds : List PyData} {n : Nat} (h : DA P N H kvs ds n) : DctV P n ((kvs.map fun kv => keyD kv.1).zip ds) := by
  have hl : (kvs.map fun kv => keyD kv.1).length = ds.length := by rw [List.length_map]; exact h.ln
  refine ⟨?_, ?_, fun kv hkv => ?_⟩
  · rw [List.length_zip, hl, Nat.min_self, ← hl, List.length_map]
    exact h.len
  · rw [zip_fstQ hl, map_keyD]
    exact nodup_map_keyD h.nod
  · obtain ⟨h1, h2⟩ := mem_zipQ hkv
    obtain ⟨k, hk, e⟩ := List.mem_map.mp h1
    rw [← e]
    exact ⟨h.kfit k hk, h.ent _ h2⟩
/-- a value put at a key -/
def setK : List (Key × V) → List PyData → Key → PyData → List PyData
  | (k, _) :: r, d :: ds, q, e => if k = q then e :: setK r ds q e else d :: setK r ds q e
  | _, _, _, _ => []
theorem set_dat {N : Addr → Prop} {H : Hp} {q : Key} {v : V} {e : PyData} (hv : Dx N H v e) : ∀ {kvs : List (Key × V)} {ds : List PyData}, DxAll N H (kvs.map (·.2)) ds → DxAll N H ((kvs.map fun kv => if kv.1 = q then (kv.1, v) else kv).map (·.2)) (setK kvs ds q e)
  | [], [], _ => .nil
  | [], _ :: _, h => by cases h
  | _ :: _, [], h => by cases h
  | (k, u) :: r, d :: ds, h => by
    cases h with
    | cons h t =>
      rw [List.map_cons, List.map_cons]
      by_cases ek : k = q
      · simp only [setK, if_pos ek]
        exact .cons hv (set_dat hv t)
      · simp only [setK, if_neg ek]
        exact .cons h (set_dat hv t)
theorem set_mem {q : Key} {e : PyData} {P : PyData → Prop} (he : P e) : ∀ {kvs : List (Key × V)} {ds : List PyData}, (∀ d ∈ ds, P d) → ∀ d ∈ setK kvs ds q e, P d
  | [], _, _, d, h => by simp only [setK, List.not_mem_nil] at h
  | _ :: _, [], _, d, h => by simp only [setK, List.not_mem_nil] at h
  | (k, u) :: r, d :: ds, hf, d', h => by
    by_cases ek : k = q
    · simp only [setK, if_pos ek] at h
      rcases List.mem_cons.mp h with rfl | h
      · exact he
      · exact set_mem he (fun x hx => hf x (List.mem_cons_of_mem _ hx)) d' h
    · simp only [setK, if_neg ek] at h
      rcases List.mem_cons.mp h with rfl | h
      · exact hf _ List.mem_cons_self
      · exact set_mem he (fun x hx => hf x (List.mem_cons_of_mem _ hx)) d' h
theorem DA.put {P : PyData → Prop} {N : Addr → Prop} {H : Hp} {kvs : List (Key × V)} {ds : List PyData} {n : Nat} (h : DA P N H kvs ds n) {k : Key} {v : V} {e : PyData} (hk : Fit 40 40 0 (keyD k)) (hv : Dx N H v e) (he : P e) : ∃ ds', DA P N H (putK kvs k v) ds' (n + 1) := by
  by_cases ha : (kvs.any fun kv => decide (kv.1 = k)) = true
  · refine ⟨setK kvs ds k e, ?_⟩
    have : putK kvs k v = kvs.map fun kv => if kv.1 = k then (kv.1, v) else kv := by unfold putK; rw [if_pos ha]
    rw [this]
    have e1 : ((kvs.map fun kv => if kv.1 = k then (kv.1, v) else kv).map (·.1)) = kvs.map (·.1) := by
      rw [List.map_map]
      refine List.map_congr_left fun kv _ => ?_
      show (if kv.1 = k then (kv.1, v) else kv).1 = kv.1
      split <;> rfl
    refine ⟨set_dat hv h.dat, by rw [List.length_map]; exact Nat.le_succ_of_le h.len, by rw [e1]; exact h.nod, fun kv hkv => ?_, set_mem he h.ent⟩
    obtain ⟨kv2, h1, rfl⟩ := List.mem_map.mp hkv
    have := h.kfit kv2 h1
    split
    · exact this
    · exact this
  · refine ⟨ds ++ [e], ?_⟩
    have hno : ∀ kv ∈ kvs, kv.1 ≠ k := fun kv hkv z => ha (List.any_eq_true.mpr ⟨kv, hkv, decide_eq_true z⟩)
    rw [putK_newQ hno]
    refine ⟨?_, by rw [List.length_append]; exact Nat.add_le_add_right h.len 1, ?_, fun kv hkv => ?_, fun d hd => ?_⟩
    · rw [List.map_append]
      exact h.dat.append (.cons hv .nil)
    · rw [List.map_append]
      refine List.nodup_append.mpr ⟨h.nod, List.nodup_cons.mpr ⟨(fun h => nomatch h), List.nodup_nil⟩, fun a ha b hb => ?_⟩
      obtain ⟨kv, h1, rfl⟩ := List.mem_map.mp ha
      rw [List.mem_singleton.mp hb]
      exact hno kv h1
    · rcases List.mem_append.mp hkv with hkv | hkv
      · exact h.kfit kv hkv
      · rw [List.mem_singleton.mp hkv]
        exact hk
    · rcases List.mem_append.mp hd with hd | hd
      · exact h.ent d hd
      · rw [List.mem_singleton.mp hd]
        exact he
def cutK : List (Key × V) → List PyData → Key → List PyData
  | (k, _) :: r, d :: ds, q => if k = q then cutK r ds q else d :: cutK r ds q
  | _, _, _ => []
theorem cut_dat {N : Addr → Prop} {H : Hp} {q : Key} : ∀ {kvs : List (Key × V)} {ds : List PyData}, DxAll N H (kvs.map (·.2)) ds → DxAll N H ((dropK kvs q).map (·.2)) (cutK kvs ds q) ∧ ∀ d ∈ cutK kvs ds q, d ∈ ds
  | [], [], _ => ⟨.nil, by simp [cutK]⟩
  | [], _ :: _, h => by cases h
  | _ :: _, [], h => by cases h
  | (k, u) :: r, d :: ds, h => by
    cases h with
    | cons h t =>
      obtain ⟨i1, i2⟩ := cut_dat (q := q) t
      unfold dropK at i1 ⊢
      by_cases ek : k = q
      · simp only [cutK, if_pos ek]
        rw [List.filter_cons_of_neg (by simpa using ek)]
        exact ⟨i1, fun x hx => List.mem_cons_of_mem _ (i2 x hx)⟩
      · simp only [cutK, if_neg ek]
        rw [List.filter_cons_of_pos (by simpa using ek)]
        refine ⟨.cons h i1, fun x hx => ?_⟩
        rcases List.mem_cons.mp hx with rfl | hx
        · exact List.mem_cons_self
        · exact List.mem_cons_of_mem _ (i2 x hx)
theorem DA.cut {P : PyData → Prop} {N : Addr → Prop} {H : Hp} {kvs : List (Key × V)} {ds : List PyData} {n : Nat} (h : DA P N H kvs ds n) (k : Key) : DA P N H (dropK kvs k) (cutK kvs ds k) n := by
  obtain ⟨h1, h2⟩ := cut_dat (q := k) h.dat
  refine ⟨h1, Nat.le_trans (List.length_filter_le ..) h.len, ?_, fun kv hkv => h.kfit kv (List.mem_filter.mp hkv).1, fun d hd => h.ent d (h2 d hd)⟩
  exact h.nod.sublist (List.filter_sublist.map _)
theorem TupN.up {P : PyData → Prop} {n m : Nat} (hn : n ≤ m) {e : PyData} (h : TupN P n e) : TupN P m e := by
  obtain ⟨ds, rfl, hl, hd⟩ := h
  exact ⟨ds, rfl, Nat.le_trans hl hn, hd⟩
section
variable {σ : L2.St} {H : Hp} {te te2 : TE} {Pp : PyData → Prop} {N : Addr → Prop}
end
end Mo

/-! ### bent places as data -/
namespace Mo
open PySem PySem.Spec PyProof.Rows L2
def shpQ : PyData → Bool
  | .tuple [_, .dict _] => true
  | _ => false
/-- a value that a place is changed to: small, its dict's keys different -/
def PlV (e : PyData) : Prop := Fit 40 2000 6 e ∧ ∀ s kvd, e = .tuple [s, .dict kvd] → (kvd.map (·.1)).Nodup
abbrev EV (e : PyData) : Prop := Fit 40 40 1 e
theorem Src.butS {H H' : Hp} {d c S : Addr} {t : Nat} (h : Src H d c t) (b : But S H H') (n1 : d ≠ S) (n2 : c ≠ S) : Src H' d c t := by
  obtain ⟨ns, r, h1, h2, h3⟩ := h
  exact ⟨ns, r, b _ _ n1 h1, b _ _ n2 h2, h3⟩
section
variable {σ : L2.St} {H : Hp} {te te2 : TE} {Pp : PyData → Prop} {N : Addr → Prop}
end
end Mo

/-! ### drawing with the other pen, data picked -/
namespace Mo
open PySem PySem.Spec PyProof.Rows L2
theorem Nxt.kind {H : Hp} {d c a : Addr} {t : Nat} {o : HO} (h : Nxt H d c t) (ha : H a = some o) (no : ∀ kvs, o ≠ .dK kvs) : a ≠ d := fun e => by
  obtain ⟨kvs, h1⟩ := h.dict
  rw [e, h1] at ha
  exact no kvs (Option.some.inj ha).symm
theorem nxt_lit {H : Hp} {d c : Addr} {t : Nat} (h : Nxt H d c t) : ∀ p, p = d → H p ≠ none := fun p e => by
  obtain ⟨kvs, h1⟩ := h.dict
  rw [e, h1]
  exact Option.some_ne_none _
theorem Nxt.butS {H H' : Hp} {d c S : Addr} {t : Nat} (h : Nxt H d c t) (b : But S H H') (n1 : d ≠ S) (n2 : c ≠ S) : Nxt H' d c t := by
  obtain ⟨ns, r, h1, h2, h3⟩ := h
  exact ⟨ns, r, b _ _ n1 h1, b _ _ n2 h2, h3⟩
theorem Nxt.tab {T : List (Addr × Str)} {H H' : Hp} {d c : Addr} {t : Nat} (h : Nxt H d c t) (tb : LamX.Tabs T H) (b : But d H H') : LamX.Tabs T H' := h.dict.elim fun _ e => Tabs.but tb e b
section
variable {σ : L2.St} {H : Hp} {te te2 : TE} {Pp : PyData → Prop} {N : Addr → Prop}
theorem pick_valN {K : PySem.W.Frag} {d c : Addr} {t n : Nat} {Q : VK} {v : V} {ds : List PyData} (hN : N d) (src : Nxt H d c t) (ht : t < 1073741824) (hv : Dx N H v (.list ds)) (pa : AllN Pp n ds) (h0 : 0 < n := by decide) (h1 : n < 1073741824 := by decide)
    (q : ∀ H' v t' e, But d H H' → Nxt H' d c t' → t' ≤ t + 1 → Dx N H' v e → Pp e → Q v H') {E : XK} : spNPick K [.ref d, v] H Q E := by
  obtain ⟨l, xs, rfl, hl, nl, hx⟩ := lst_dx hv
  have hlen := hx.length
  refine ⟨d, c, l, xs, t, rfl, src, SqL.of hl, (fun z => nl (z ▸ hN)), by rw [hlen, pa.1]; exact h0, by rw [hlen, pa.1]; exact h1, ht, fun H2 v t2 but2 pen2 ht2 hv2 => ?_⟩
  obtain ⟨e, he, dx⟩ := hx.mem hv2
  exact q H2 v t2 e but2 pen2 ht2 (dx.but fun x o nx hx => but2 x o (fun z => nx (z ▸ hN)) hx) (pa.2 e he)
theorem pick_ofN {K : PySem.W.Frag} {d c : Addr} {t n : Nat} {Q : VK} (hN : N d) (src : Nxt H d c t) (ht : t < 1073741824) (h : Mk N σ H te (fun e => ∃ ds, e = .list ds ∧ AllN Pp n ds)) (h0 : 0 < n := by decide) (h1 : n < 1073741824 := by decide)
    (q : ∀ H' v t' e, But d H H' → Nxt H' d c t' → t' ≤ t + 1 → Dx N H' v e → Pp e → Q v H') {E : XK} : te σ H fun v H1 => spNPick K [.ref d, v] H1 Q E :=
  h H (Same.refl _) _ fun H1 v e s1 hv ⟨ds, he, pa⟩ => by
    subst he
    exact pick_valN hN (src.same s1) ht hv pa h0 h1 fun H' v t' e b => q H' v t' e ((But.same s1).trans b)
end
end Mo

set_option pp.maxSteps 300
namespace Mo
open PySem PySem.Spec PyProof.Rows L2
theorem perm_of : ∀ {a b : List Nat}, a.Nodup → (∀ x ∈ a, x ∈ b) → a.length = b.length → a.Perm b
  | [], [], _, _, _ => .nil
  | [], _ :: _, _, _, h => by simp at h
  | x :: a, b, nd, h, hl => by
    rw [List.nodup_cons] at nd
    have hx := h x List.mem_cons_self
    have e := List.perm_cons_erase hx
    have ln := List.length_erase_of_mem hx
    have pos := List.length_pos_of_mem hx
    rw [List.length_cons] at hl
    exact ((perm_of nd.2 (fun y hy => (List.mem_erase_of_ne (fun z : y = x => nd.1 (z ▸ hy))).mpr (h y (List.mem_cons_of_mem _ hy))) (by omega)).cons x).trans e.symm
theorem VsAt.butN {H H' : Hp} {d a c : Addr} {t : Nat} {ns : List Nat} {ad : Nat → Addr} {f : Nat → List Int} (h : VsAt H a ns ad f) (ne : a ≠ d) (src : Nxt H d c t) (b : But d H H') : VsAt H' a ns ad f :=
  ⟨b _ _ ne h.ha, fun x hx => b _ _ (src.kind (h.el x hx) (fun _ e => by cases e)) (h.el x hx)⟩
/-- what a placed place is -/
def PlcAt (H : Hp) (r d : Addr) (n : Nat) : Prop := ∃ (pa va : Addr) (cs ns : List Nat) (s : Nat) (ad : Nat → Addr) (f : Nat → List Int), H r = some (.tup [.str (tx cs), .ref pa]) ∧ H pa = some (.tup [.int (s : Int), .ref va]) ∧ VsAt H va ns ad f ∧ va ≠ d ∧ ns.Perm (met cs) ∧ ns.Nodup ∧ ns ≠ [] ∧ ns.length ≤ 8 ∧ Low ns ∧ Pat cs ∧ cs ≠ [] ∧ cs.length ≤ 28 ∧
  (∀ c ∈ ns, f c ≠ [] ∧ (f c).length ≤ 1400 ∧ ∀ x ∈ f c, 0 ≤ x ∧ x ≤ 999999) ∧ s ≤ 1000000000000000000 ∧ (met cs).length = n ∧ cs.flatMap f = avs (qOf n) s (cs.flatMap f).length ∧ (cs.flatMap f).length ≤ 4096
/-- where the word stands, far enough apart -/
structure EndsOk (q st sz at' L n : Nat) (es : List Nat) : Prop where
  hd : es[0]? = some at'
  gap : ∀ i a b, es[i]? = some a → es[i + 1]? = some b → a + sz < b
  far : ∀ e ∈ es, e + 91 ≤ L
  wd : ∀ e ∈ es, avs q (st + e) sz = avs q (st + at') sz
  few : es.length + sz ≤ n + 1
theorem vals_list {ns : List Nat} {ad : Nat → Addr} : dk (valsD ns ad) = ns.map fun c => (kS c, V.ref (ad c)) := by
  unfold dk valsD
  rw [List.map_map]
  rfl
theorem putK_vals {ns : List Nat} {ad : Nat → Addr} {c : Nat} {p : Addr} (h : c ∉ ns) : ∃ ad2 : Nat → Addr, putK (dk (valsD ns ad)) (kS c) (.ref p) = dk (valsD (ns ++ [c]) ad2) ∧ ad2 c = p ∧ ∀ x ∈ ns, ad2 x = ad x := by
  refine ⟨fun x => if x = c then p else ad x, ?_, if_pos rfl, fun x hx => if_neg (fun e : x = c => h (e ▸ hx))⟩
  rw [putK_newQ, vals_list, vals_list, List.map_append]
  · congr 1
    · refine List.map_congr_left fun y hy => ?_
      show (kS y, V.ref (ad y)) = (kS y, V.ref (if y = c then p else ad y))
      rw [if_neg (fun e : y = c => h (e ▸ hy))]
    · show [(kS c, V.ref p)] = [(kS c, V.ref (if c = c then p else ad c))]
      rw [if_pos rfl]
  · rintro kv hkv e
    rw [vals_list] at hkv
    obtain ⟨y, hy, rfl⟩ := List.mem_map.mp hkv
    have e2 : kS y = kS c := e
    exact h (List.singleton_inj.mp (tx_inj (Sum.inr.inj e2)) ▸ hy)
theorem putK_vals2 {ns : List Nat} {ad : Nat → Addr} {f : Nat → List Int} {c : Nat} {p : Addr} {b : List Int} (h : c ∉ ns) : ∃ (ad2 : Nat → Addr) (f2 : Nat → List Int), putK (dk (valsD ns ad)) (kS c) (.ref p) = dk (valsD (ns ++ [c]) ad2) ∧ ad2 c = p ∧ f2 c = b ∧ ∀ x ∈ ns, ad2 x = ad x ∧ f2 x = f x := by
  obtain ⟨ad2, h1, h2, h3⟩ := putK_vals (ad := ad) (p := p) h
  exact ⟨ad2, fun x => if x = c then b else f x, h1, h2, if_pos rfl, fun x hx => ⟨h3 x hx, if_neg (fun e : x = c => h (e ▸ hx))⟩⟩
theorem avs_range {q s n : Nat} (h2 : 2 ≤ q) (h19 : q ≤ 19) : ∀ x ∈ avs q s n, 0 ≤ x ∧ x ≤ 999999 := fun x hx => by
  unfold avs at hx
  obtain ⟨j, _, rfl⟩ := List.mem_map.mp hx
  have := av_lt h2 (s + j)
  have := Nat.mul_le_mul h19 h19
  omega
theorem avs_ne {q s n : Nat} (h : 0 < n) : avs q s n ≠ [] := fun z => by
  have := congrArg List.length z
  rw [avs_len] at this
  have : n = 0 := this
  omega
/-- what the pattern and the values are so far: m names used, the text goes up to last -/
structure Fill (q st at' sz L : Nat) (ns : List Nat) (m : Nat) (cs : List Nat) (f : Nat → List Int) (last : Nat) : Prop where
  mem : ∀ x, x ∈ cs ↔ x ∈ ns.take m
  txt : cs.flatMap f = avs q (st + at') (last - at')
  lo : at' ≤ last
  hi : last ≤ L
  val : ∀ x ∈ ns.take m, f x ≠ [] ∧ (f x).length ≤ 1400 ∧ ∀ y ∈ f x, 0 ≤ y ∧ y ≤ 999999
  word : (ns.take sz).flatMap f = avs q (st + at') sz
theorem flat_if {cs : List Nat} {f g : Nat → List Int} (h : ∀ x ∈ cs, g x = f x) : cs.flatMap g = cs.flatMap f := by
  unfold List.flatMap
  congr 1
  exact List.map_congr_left h
/-- one more name, with the next letters -/
theorem Fill.more {q st at' sz L m last l : Nat} {ns cs : List Nat} {f : Nat → List Int} {c1 : Nat} (h : Fill q st at' sz L ns m cs f last) (h2 : 2 ≤ q) (h19 : q ≤ 19) (nd : ns.Nodup) (hc : ns[m]? = some c1) (hsm : sz ≤ m) (hl : 0 < l) (hl2 : last + l ≤ L) (hL : L ≤ 1300) :
    c1 ∉ ns.take m ∧ Fill q st at' sz L ns (m + 1) (cs ++ [c1]) (fun x => if x = c1 then avs q (st + last) l else f x) (last + l) := by
  have tk : ns.take (m + 1) = ns.take m ++ [c1] := by rw [List.take_add_one, hc]; rfl
  have cni : c1 ∉ ns.take m := fun z => by
    have nd2 := nd
    rw [← List.take_append_drop (m + 1) ns, tk, List.append_assoc] at nd2
    exact (List.nodup_append.mp nd2).2.2 c1 z c1 (by simp) rfl
  have hcs : ∀ x ∈ cs, (if x = c1 then avs q (st + last) l else f x) = f x := fun x hx => if_neg (fun z : x = c1 => cni (z ▸ (h.mem x).mp hx))
  refine ⟨cni, fun x => ?_, ?_, Nat.le_trans h.lo (Nat.le_add_right _ _), hl2, fun x hx => ?_, ?_⟩
  · rw [tk, List.mem_append, List.mem_append, h.mem x]
  · rw [List.flatMap_append, flat_if hcs, h.txt]
    show _ ++ ([c1].flatMap fun x => if x = c1 then avs q (st + last) l else f x) = _
    rw [List.flatMap_singleton, if_pos rfl]
    have lo := h.lo
    rw [show st + last = st + at' + (last - at') by omega, avs_app, show last - at' + l = last + l - at' by omega]
  · rw [tk] at hx
    rcases List.mem_append.mp hx with z | z
    · rw [if_neg (fun e : x = c1 => cni (e ▸ z))]
      exact h.val x z
    · rw [if_pos (List.mem_singleton.mp z)]
      exact ⟨avs_ne hl, by rw [avs_len]; omega, avs_range h2 h19⟩
  · rw [← h.word]
    refine flat_if fun x hx => if_neg (fun z : x = c1 => cni (z ▸ ?_))
    have e : ns.take sz = (ns.take m).take sz := by rw [List.take_take, Nat.min_eq_left hsm]
    rw [e] at hx
    exact List.mem_of_mem_take hx
/-- the word once more -/
theorem Fill.again {q st at' sz L m last : Nat} {ns cs : List Nat} {f : Nat → List Int} (h : Fill q st at' sz L ns m cs f last) (hsm : sz ≤ m) (hw : avs q (st + last) sz = avs q (st + at') sz) (hl2 : last + sz ≤ L) : Fill q st at' sz L ns m (cs ++ ns.take sz) f (last + sz) := by
  refine ⟨fun x => ?_, ?_, Nat.le_trans h.lo (Nat.le_add_right _ _), hl2, h.val, h.word⟩
  · rw [List.mem_append, h.mem x]
    have e : ns.take sz = (ns.take m).take sz := by rw [List.take_take, Nat.min_eq_left hsm]
    rw [e]
    exact ⟨fun z => z.elim id fun z => List.mem_of_mem_take z, .inl⟩
  · have lo := h.lo
    rw [List.flatMap_append, h.txt, h.word, ← hw, show st + last = st + at' + (last - at') by omega, avs_app, show last - at' + sz = last + sz - at' by omega]
section
variable {P : Program} {w : World} {K : PySem.W.Frag} {mg : Str → Option Value} {base : Heap}
def spPlcd : Sp := fun vs H Q _ => ∃ (d c : Addr) (n t : Nat), vs = [.ref d, .int (n : Int)] ∧ Nxt H d c t ∧ 1 ≤ n ∧ n ≤ 8 ∧ t < 900000 ∧ ∀ H' r t', But d H H' → Nxt H' d c t' → t' ≤ t + 100 → PlcAt H' r d n → Q (.ref r) H'
theorem ok_plcd {k : Nat} (T : Txt K mg) : FnOk P w K mg base CX0 (k + 5) T.aLPlaced T.dLPlaced ["_law_pen_here", "_law_count"] spPlcd := by
  have GLQ : FnOk P w K mg base CX0 (k + 4) T.aLQ T.dLQ ["_law_count"] spQ := ok_q T
  have GLPick : FnOk P w K mg base CX0 (k + 4) T.aLPick T.dLPick ["_law_pen_here", "_law_choices"] (spNPick K) := ok_pick T
  have GLDraw : FnOk P w K mg base CX0 (k + 4) T.aLDraw T.dLDraw ["_law_pen_here", "_law_many"] spNDraw := ok_draw T
  have GLFar : FnOk P w K mg base CX0 (k + 4) T.aLFar T.dLFar ["_law_pen_here", "_law_pieces"] spFar2 := ok_far2 T
  have GLText : FnOk P w K mg base CX0 (k + 4) T.aLText T.dLText ["_law_q_here", "_law_start", "_law_length"] spLTex := ok_ltex T
  have GLShuffled : FnOk P w K mg base CX0 (k + 4) T.aLShuffled T.dLShuffled ["_law_pen_here", "_law_values"] spShuffled := ok_shuffled T
  refine T.fLPlaced.ok scLPlaced (fun vs H Q E h => ?_) (fun cdv A outer s H vs Q E hr h => ?_)
  · obtain ⟨_, _, _, _, rfl, _⟩ := h
    rfl
  · obtain ⟨d, c, n, t, rfl, src, n1, n8, ht, q⟩ := h
    refine ⟨_, (pss_cons (ps_par (i := 2) (j := 3) (by rfl) scLPlaced.nd rfl rfl (by decide) rfl rfl (pa_cons (pe_call GLQ hr (by rfl) T.gLQ T.fLQ.kp T.bLQ .nil pass0 (pa_cons (pv 1) pa_nil)) (pa_cons (pe_call GLPick hr (by rfl) T.gLPick T.fLPick.kp T.bLPick .nil pass0 (pa_cons (pv 0) (pa_cons (pe_lst (pa_cons pe_int (pa_cons (pe_call GLDraw hr (by rfl) T.gLDraw T.fLDraw.kp T.bLDraw .nil pass0 (pa_cons (pv 0) (pa_cons pe_int pa_nil))) (pa_cons (pe_op op_add (pe_op op_pow pe_int pe_int) (pe_call GLFar hr (by rfl) T.gLFar T.fLFar.kp T.bLFar .nil pass0 (pa_cons (pv 0) (pa_cons pe_int pa_nil)))) pa_nil)))) pa_nil))) pa_nil)) (by rfl))
      (pss_cons (ps_set (i := 4) scLPlaced.nd rfl (Or.inl rfl) (pe_op op_add pe_int (pe_op op_mul (pe_callTy call_int1 (by rfl) T.m_int (by decide +kernel) (pa_cons (pe_cmpR op_gt (pv 1) pe_int (nomark _)) pa_nil)) (pe_call GLDraw hr (by rfl) T.gLDraw T.fLDraw.kp T.bLDraw .nil pass0 (pa_cons (pv 0) (pa_cons pe_int pa_nil))))))
      (pss_cons (ps_set (i := 5) scLPlaced.nd rfl (Or.inl rfl) (pe_call GLText hr (by rfl) T.gLText T.fLText.kp T.bLText .nil pass0 (pa_cons (pv 2) (pa_cons (pv 3) (pa_cons (pe_op op_add pe_int (pe_op op_mul pe_int (pv 2))) pa_nil)))))
      (pss_cons (ps_par (i := 6) (j := 7) (by rfl) scLPlaced.nd rfl rfl (by decide) rfl rfl (pa_cons (pe_call GLDraw hr (by rfl) T.gLDraw T.fLDraw.kp T.bLDraw .nil pass0 (pa_cons (pv 0) (pa_cons pe_int pa_nil))) (pa_cons (pe_lst pa_nil) pa_nil)) (by rfl))
      (pss_cons (ps_asg (pe_tup (pa_cons (pe_lst (pa_cons (pv 6) pa_nil)) (pa_cons (pe_slice sl_tupA (pv 5) (po_some (pv 6)) (po_some (pe_op op_add (pv 6) (pv 4)))) pa_nil))) (pg_tup (by rfl) (pgs_cons (pg_name (i := 8) scLPlaced.nd rfl (Or.inl rfl)) (pgs_cons (pg_name (i := 9) scLPlaced.nd rfl (Or.inr rfl)) pgs_nil))))
      (Evl.pss_cut (ps_for PassesOwn.never rfl (pi_range2 (by rfl) T.m_range (pa_cons (pe_op op_add (pe_op op_add (pv 6) (pv 4)) pe_int) (pa_cons (pe_op op_sub (pe_callB call_len_seq (by rfl) T.m_len PySem.boot_len (pa_cons (pv 5) pa_nil)) pe_int) pa_nil))) (pg_name (i := 10) scLPlaced.nd rfl (Or.inl rfl)) (pss_one (ps_if (PW.pt (pw_and (pt_cmpR (Mo.op_eqFl hr.units) (pe_slice sl_tupA (pv 5) (po_some (pv 10)) (po_some (pe_op op_add (pv 10) (pv 4)))) (pv 9) (nomark _)) (pw_and (pt_cmpR op_gt (pv 10) (pe_op op_add (pe_ix ix_list (pv 8) (pe_un un_neg pe_int) (fun _ _ => rfl)) (pv 4)) (nomark _)) (pw_and1 (pt_cmpR op_lt (pe_op op_add (pe_callB call_len_seq (by rfl) T.m_len PySem.boot_len (pa_cons (pv 8) pa_nil)) (pv 4)) (pe_op op_add (pv 1) pe_int) (nomark _)))))) (pss_one (ps_expr (pe_bm PySem.F.plainAttrs_list PySem.F.slot_list_append PySem.F.type_list_append mt_append (pv 8) (pa_cons (pv 10) pa_nil)))) pss_nil)))
      (pss_cons (ps_set (i := 11) scLPlaced.nd rfl (Or.inr rfl) (pe_slice sl_list (pe_call GLShuffled hr (by rfl) T.gLShuffled T.fLShuffled.kp T.bLShuffled .nil pass0 (pa_cons (pv 0) (pa_cons pe_str pa_nil))) po_none (po_some (pv 1))))
      (pss_cons (ps_par (i := 12) (j := 13) (by rfl) scLPlaced.nd rfl rfl (by decide) rfl rfl (pa_cons (pe_join pe_str (pe_slice sl_list (pv 11) po_none (po_some (pv 4)))) (pa_cons (pe_callTy (call_dictP rfl) (by rfl) T.m_dict (by decide +kernel) (pa_cons (pe_lc (own := [("_law_k", 10)]) (g := gName 10) (tt := tYes) rfl scLPlaced.nd (pi_range1 (by rfl) T.m_range (pa_cons (pv 4) pa_nil)) (blkOk_by (N := ["_law_pen_here", "_law_count", "_law_q_here", "_law_start", "_law_size", "_law_window", "_law_at", "_law_gaps", "_law_ends", "_law_word", "_law_k", "_law_names", "_law_pattern", "_law_values", "_law_name", "_law_last", "_law_long"]) (sc := defScope sLPlaced) (by decide +kernel)) (fun _ _ _ _ _ => pg_name (i := 10) scLPlaced.nd rfl (Or.inl rfl)) (fun _ _ _ _ _ => pts_nil) (fun _ _ _ _ _ => (pe_tup (pa_cons (pe_ix (Mo.ix_listK (K := K) rfl) (pv 11) (pv 10) (fun _ _ => rfl)) (pa_cons (pe_slice (Mo.sl_tupAK (K := K) rfl) (pv 9) (po_some (pv 10)) (po_some (pe_op op_add (pv 10) pe_int))) pa_nil))))) pa_nil)) pa_nil)) (by rfl))
      (Evl.pss_cut (ps_for PassesOwn.never rfl (pi_range2 (by rfl) T.m_range (pa_cons pe_int (pa_cons (pe_callB call_len_seq (by rfl) T.m_len PySem.boot_len (pa_cons (pv 8) pa_nil)) pa_nil))) (pg_name (i := 10) scLPlaced.nd rfl (Or.inl rfl)) (pss_cons (ps_set (i := 14) scLPlaced.nd rfl (Or.inl rfl) (pe_ix ix_list (pv 11) (pe_op op_sub (pe_op op_add (pv 4) (pv 10)) pe_int) (fun _ _ => rfl)))
      (pss_cons (ps_set (i := 12) scLPlaced.nd rfl (Or.inl rfl) (pe_op op_add_str (pe_op op_add_str (pv 12) (pv 14)) (pe_join pe_str (pe_slice sl_list (pv 11) po_none (po_some (pv 4))))))
      (pss_one (ps_dput (Mo.room1 hr) (pv 13) (pv 14) (pe_slice sl_tupA (pv 5) (po_some (pe_op op_add (pe_ix ix_list (pv 8) (pe_op op_sub (pv 10) pe_int) (fun _ _ => rfl)) (pv 4))) (po_some (pe_ix ix_list (pv 8) (pv 10) (fun _ _ => rfl)))) rfl)))))
      (pss_cons (ps_set (i := 15) scLPlaced.nd rfl (Or.inl rfl) (pe_op op_add (pe_ix ix_list (pv 8) (pe_un un_neg pe_int) (fun _ _ => rfl)) (pv 4)))
      (pss_cons (ps_for PassesOwn.never rfl (pi_list (pe_slice sl_list (pv 11) (po_some (pe_op op_sub (pe_op op_add (pv 4) (pe_callB call_len_seq (by rfl) T.m_len PySem.boot_len (pa_cons (pv 8) pa_nil))) pe_int)) po_none)) (pg_name (i := 14) scLPlaced.nd rfl (Or.inl rfl)) (pss_cons (ps_set (i := 16) scLPlaced.nd rfl (Or.inl rfl) (pe_op op_add pe_int (pe_call GLDraw hr (by rfl) T.gLDraw T.fLDraw.kp T.bLDraw .nil pass0 (pa_cons (pv 0) (pa_cons pe_int pa_nil)))))
      (pss_cons (ps_par (i := 12) (j := 15) (by rfl) scLPlaced.nd rfl rfl (by decide) rfl rfl (pa_cons (pe_op op_add_str (pv 12) (pv 14)) (pa_cons (pe_op op_add (pv 15) (pv 16)) pa_nil)) (by rfl))
      (pss_one (ps_dput (Mo.room1 hr) (pv 13) (pv 14) (pe_slice sl_tupA (pv 5) (po_some (pe_op op_sub (pv 15) (pv 16))) (po_some (pv 15))) rfl)))))
      (pss_one (ps_ret (pe_tup (pa_cons (pv 12) (pa_cons (pe_tup (pa_cons (pe_op op_add (pv 3) (pv 6)) (pa_cons (pv 13) pa_nil))) pa_nil)))))))))))))))), ?_⟩
    obtain ⟨q1, q2, _⟩ := qOf_in n n1 n8
    refine ⟨_, rfl, n, rfl, n1, n8, fun H1 s1 => ?_⟩
    have src1 := src.same s1
    refine ⟨_, rfl, _, rfl, d, c, 3000, t, rfl, src1, by decide, by decide, by omega, fun H2 k2 t2 b2 src2 ht2 k20 k21 => ?_⟩
    obtain ⟨m2, rfl⟩ := nat_of k20
    refine ⟨10, 17, rfl, rfl, ⟨by decide, by decide, by decide⟩, _, rfl, d, c, t2, rfl, src2, by omega, fun H3 m3 t3 b3 src3 ht3 hm3 => ⟨_, _, rfl, rfl, by show 3 ≤ sizeLine; decide, fun l nl => ?_⟩⟩
    have e17 : ((10 : Int) ^ (17 : Int).toNat) + (m3 : Int) = ((100000000000000000 + m3 : Nat) : Int) := by
      rw [show ((10 : Int) ^ (17 : Int).toNat) = 100000000000000000 from by decide +kernel]
      omega
    dsimp only
    rw [e17]
    have sl := same_new (o := .lst [V.int 0, V.int (m2 : Int), V.int ((100000000000000000 + m3 : Nat) : Int)]) nl
    refine ⟨d, c, l, _, t3, rfl, src3.same sl, SqL.of upd_same, (src3.new nl).1, by show 0 < 3; decide, by show 3 < 1073741824; decide, by omega, fun H4 v t4 b4 src4 ht4 hv => ⟨_, _, rfl, ?_⟩⟩
    obtain ⟨st, rfl, hst⟩ : ∃ st : Nat, v = .int (st : Int) ∧ st ≤ 200000000000000000 := by
      simp only [List.mem_cons, List.not_mem_nil, or_false] at hv
      rcases hv with rfl | rfl | rfl
      · exact ⟨0, rfl, by omega⟩
      · exact ⟨m2, rfl, by omega⟩
      · exact ⟨_, rfl, by omega⟩
    have b04 : But d H H4 := (((But.same s1).trans b2).trans b3).trans ((But.same sl).trans b4)
    clear src src1 src2 src3 b2 b3 b4 sl nl hv
    refine ⟨_, rfl, (n : Int), 2, rfl, rfl, .inr ⟨_, rfl, _, rfl, d, c, 2, t4, rfl, src4, by decide, by decide, by omega, fun H5 k5 t5 b5 src5 ht5 k50 k51 => ?_⟩⟩
    obtain ⟨m5, rfl⟩ := nat_of k50
    obtain ⟨sz, hsz, sz1, sz2, szn⟩ : ∃ sz : Nat, (1 : Int) + (if decide ((2 : Int) < (n : Int)) = true then 1 else 0) * (m5 : Int) = (sz : Int) ∧ 1 ≤ sz ∧ sz ≤ 2 ∧ sz ≤ n := by
      by_cases h : (2 : Int) < (n : Int)
      · refine ⟨1 + m5, ?_, by omega, by omega, by omega⟩
        rw [if_pos (decide_eq_true h)]
        omega
      · refine ⟨1, ?_, by omega, by omega, by omega⟩
        rw [if_neg (by rw [decide_eq_false h]; decide)]
        omega
    refine ⟨_, _, rfl, rfl, ?_, 1, _, rfl, rfl, ?_⟩
    · refine .inl ⟨?_, ?_⟩
      · split <;> decide
      · omega
    dsimp only
    rw [hsz]
    obtain ⟨L, hL⟩ : ∃ L, L = 160 + 60 * qOf n := ⟨_, rfl⟩
    have hL2 : L ≤ 1300 := by omega
    have hL1 : 400 ≤ L := by omega
    refine ⟨_, rfl, _, rfl, _, rfl, 60, _, rfl, rfl, .inl ⟨by decide, by omega⟩, 160, _, rfl, rfl, qOf n, st, L, congrArg (fun z : Int => [V.int ((qOf n : Nat) : Int), V.int (st : Int), V.int z]) (by omega), by omega, q2, by omega, by omega, fun H6 wp s6 hwp => ?_⟩
    refine ⟨_, rfl, d, c, 60, t5, rfl, src5.same s6, by decide, by decide, by omega, fun H7 k7 t7 b7 src7 ht7 k70 k71 => ⟨Nat.zero_le _, fun gp ngp => ⟨_, _, rfl, ?_⟩⟩⟩
    obtain ⟨at', rfl⟩ := nat_of k70
    have hat : at' < 60 := by omega
    have wd : wp ≠ d := (src5.same s6).kind hwp (fun _ e => by cases e)
    have hwp7 := b7 _ _ wd hwp
    have sg1 := same_new (o := .lst []) ngp
    have src8 := src7.same sg1
    have hwp8 := sg1 _ _ hwp7
    have b08 : But d H (upd H7 gp (.lst [])) := (((b04.trans b5).trans (But.same s6)).trans b7).trans (But.same sg1)
    clear b04 b5 b7 s6 sg1 src4 src5 src7 hwp hwp7 ngp k20 k21 k50 k51 k70 k71
    generalize upd H7 gp (.lst []) = H8 at *
    refine ⟨_, rfl, by show 1 ≤ sizeLine; decide, fun EE nE => ?_⟩
    have sE := same_new (o := .lst [V.int (at' : Int)]) nE
    refine ⟨_, rfl, _, rfl, _, rfl, _, rfl, _, rfl, _, _, rfl, rfl, ((at' + sz : Nat) : Int), congrArg V.int (by omega), slA_any (sE _ _ hwp8) fun wo H9 s9 hwo _ => ⟨by show 2 ≤ sizeLine; decide, fun tp ntp => ⟨tp, _, rfl, SqT.of upd_same, rfl, _, _, rfl, _, _, rfl, rfl, ?_⟩⟩⟩
    rw [cut_at, ← List.map_drop, ← List.map_take, avs_cut (by omega)] at hwo
    have sT := same_new (o := .tup [V.ref EE, .ref wo]) ntp
    have s8A := sE.trans (s9.trans sT)
    have hEA := sT _ _ (s9 _ _ (upd_same (H := H8) (a := EE) (o := .lst [V.int (at' : Int)])))
    have hwoA := sT _ _ hwo
    have hwpA := s8A _ _ hwp8
    have srcA := src8.same s8A
    have bA := b08.trans (But.same (d := d) s8A)
    have hE0 : H EE = none := b08.none nE (src8.new nE).1
    have nEd := (src8.new nE).1
    have nEc := (src8.new nE).2
    have nwpE : wp ≠ EE := ne_of_none hwp8 nE
    have nwoE : wo ≠ EE := ne_of hwoA hEA (fun z => by cases z)
    clear sE s9 sT s8A hwo hwp8 src8 b08 ntp nE
    generalize upd H9 tp (.tup [V.ref EE, .ref wo]) = HA at *
    -- the ends
    refine ⟨fun σ' H' => ∃ (es : List Nat) (o10 : Option V), σ' = [some (.ref d), some (.int (n : Int)), some (.int ((qOf n : Nat) : Int)), some (.int (st : Int)), some (.int (sz : Int)), some (.ref wp), some (.int (at' : Int)), some (.ref gp), some (.ref EE), some (.ref wo), o10, none, none, none, none, none, none] ∧ But EE HA H' ∧ H' EE = some (.lst (es.map fun e : Nat => V.int (e : Int))) ∧ EndsOk (qOf n) st sz at' L n es, ?m1, ?m2⟩
    case m1 =>
      refine ⟨_, rfl, _, rfl, _, _, rfl, rfl, _, 1, rfl, rfl, _, rfl, wp, _, rfl, .inr (SqT.of hwpA), _, 90, rfl, rfl, ((at' + sz + 1 : Nat) : Int), (L : Int) - 90, ?_, ⟨by omega, by omega, by omega, by omega⟩, for_range (lo := ((at' + sz + 1 : Nat) : Int)) (fun i σ' H' => ∃ (es : List Nat) (o10 : Option V), σ' = [some (.ref d), some (.int (n : Int)), some (.int ((qOf n : Nat) : Int)), some (.int (st : Int)), some (.int (sz : Int)), some (.ref wp), some (.int (at' : Int)), some (.ref gp), some (.ref EE), some (.ref wo), o10, none, none, none, none, none, none] ∧ But EE HA H' ∧ H' EE = some (.lst (es.map fun e : Nat => V.int (e : Int))) ∧ EndsOk (qOf n) st sz at' L n es) ?_ ?_ ?_⟩
      · rw [List.length_map, avs_len]
        congr 1
      · exact ⟨[at'], none, rfl, But.refl _ _, hEA, ⟨rfl, fun i a b h1 h2 => by
          cases i <;> simp at h2, fun e he => by rw [List.mem_singleton.mp he]; omega, fun e he => by rw [List.mem_singleton.mp he], by show 1 + sz ≤ n + 1; omega⟩⟩
      · rintro i σ' H1 hi ⟨es, o10, rfl, bE, hE, ok⟩
        obtain ⟨kk, hkk⟩ : ∃ kk, kk = at' + sz + 1 + i := ⟨_, rfl⟩
        have ek : ((at' + sz + 1 : Nat) : Int) + (i : Int) = (kk : Int) := by omega
        have kL : kk + 91 ≤ L := by omega
        have hwp1 := bE _ _ nwpE hwpA
        have hwo1 := bE _ _ nwoE hwoA
        rw [ek]
        refine ⟨_, rfl, _, rfl, _, rfl, _, rfl, _, rfl, _, _, rfl, rfl, ((kk + sz : Nat) : Int), congrArg V.int (by omega), slA_any hwp1 fun sp Hs ss hsp _ => ?_⟩
        rw [cut_at, ← List.map_drop, ← List.map_take, avs_cut (by omega)] at hsp
        refine ⟨_, rfl, _, _, ⟨sp, wo, rfl, rfl, flat_ints _, flat_ints _, .inr ⟨SqT.of hsp, SqT.of (ss _ _ hwo1)⟩⟩, _, rfl, ?_⟩
        rw [eqLs_ints]
        have bs : But EE HA Hs := bE.trans (But.same ss)
        have hEs := ss _ _ hE
        have stay : ∃ (es : List Nat) (o10' : Option V), [some (.ref d), some (.int (n : Int)), some (.int ((qOf n : Nat) : Int)), some (.int (st : Int)), some (.int (sz : Int)), some (.ref wp), some (.int (at' : Int)), some (.ref gp), some (.ref EE), some (.ref wo), some (.int (kk : Int)), none, none, none, none, none, none] = [some (.ref d), some (.int (n : Int)), some (.int ((qOf n : Nat) : Int)), some (.int (st : Int)), some (.int (sz : Int)), some (.ref wp), some (.int (at' : Int)), some (.ref gp), some (.ref EE), some (.ref wo), o10', none, none, none, none, none, none] ∧ But EE HA Hs ∧ Hs EE = some (.lst (es.map fun e : Nat => V.int (e : Int))) ∧ EndsOk (qOf n) st sz at' L n es := ⟨es, _, rfl, bs, hEs, ok⟩
        by_cases c1 : avs (qOf n) (st + kk) sz = avs (qOf n) (st + at') sz
        case neg =>
          rw [decide_eq_false c1]
          exact iteF stay
        rw [decide_eq_true c1]
        have hne : es ≠ [] := fun z => by
          have := ok.hd
          rw [z] at this
          cases this
        obtain ⟨es', la, rfl⟩ : ∃ es' la, es = es' ++ [la] := ⟨es.dropLast, es.getLast hne, (List.dropLast_concat_getLast hne).symm⟩
        have few := ok.few
        rw [List.length_append, List.length_singleton] at few
        refine iteT ⟨_, rfl, _, rfl, 1, rfl, EE, _, -1, .int (la : Int), rfl, rfl, SqL.of hEs, ?_, _, rfl, _, _, rfl, rfl, _, _, rfl, rfl, _, rfl, ?_⟩
        · rw [List.map_append]
          exact atI_last _ _
        by_cases c2 : la + sz < kk
        case neg =>
          rw [decide_eq_false (by omega)]
          exact iteF stay
        rw [decide_eq_true (by omega)]
        refine iteT ⟨_, rfl, EE, _, rfl, .inl (SqL.of hEs), _, rfl, _, _, rfl, rfl, _, rfl, _, 1, rfl, rfl, _, _, rfl, rfl, _, rfl, ?_⟩
        rw [List.length_map, List.length_append, List.length_singleton]
        by_cases c3 : es'.length + 1 + sz < n + 1
        case neg =>
          rw [decide_eq_false (by omega)]
          exact iteF stay
        rw [decide_eq_true (by omega)]
        refine iteT ⟨_, rfl, .inl ⟨rfl, _, SqL.of hEs⟩, _, rfl, EE, _, _, rfl, rfl, hEs, fitsLt (by rw [List.length_map, List.length_append, List.length_singleton]; omega), ?_⟩
        refine ⟨es' ++ [la] ++ [kk], _, rfl, fun b o nb h => ?_, ?_, ⟨?_, fun j a b h1 h2 => ?_, fun e he => ?_, fun e he => ?_, ?_⟩⟩
        · rw [upd_ne nb]
          exact bs _ _ nb h
        · rw [upd_same, List.map_append (l₁ := es' ++ [la])]
          rfl
        · rw [List.getElem?_append_left (by rw [List.length_append, List.length_singleton]; omega)]
          exact ok.hd
        · by_cases hj : j + 1 < (es' ++ [la]).length
          · rw [List.getElem?_append_left (by omega)] at h1
            rw [List.getElem?_append_left hj] at h2
            exact ok.gap j a b h1 h2
          · have hlen := (List.getElem?_eq_some_iff.mp h2).1
            rw [List.length_append, List.length_append, List.length_singleton, List.length_singleton] at hlen
            rw [List.length_append, List.length_singleton] at hj
            have ej : j = es'.length := by omega
            subst ej
            rw [List.getElem?_append_left (by rw [List.length_append, List.length_singleton]; omega), List.getElem?_append_right (Nat.le_refl _), Nat.sub_self] at h1
            rw [List.getElem?_append_right (by rw [List.length_append, List.length_singleton]; omega), List.length_append, List.length_singleton, Nat.sub_self] at h2
            have e1 : la = a := Option.some.inj h1
            have e2 : kk = b := Option.some.inj h2
            omega
        · rcases List.mem_append.mp he with h | h
          · exact ok.far e h
          · rw [List.mem_singleton.mp h]
            exact kL
        · rcases List.mem_append.mp he with h | h
          · exact ok.wd e h
          · rw [List.mem_singleton.mp h]
            exact c1
        · rw [List.length_append, List.length_append, List.length_singleton, List.length_singleton]
          omega
      · rintro σ' H1 ⟨es, o10, rfl, bE, hE, ok⟩
        exact ⟨es, o10, rfl, bE, hE, ok⟩
    case m2 =>
    rintro σ' HB ⟨es, o10, rfl, bE, hE, ok⟩
    have hwpB := bE _ _ nwpE hwpA
    have hwoB := bE _ _ nwoE hwoA
    have srcB := srcA.butS bE (fun z => nEd z.symm) (fun z => nEc z.symm)
    have bB : But d H HB := fun b o nb h => bE _ _ (fun z => by rw [z, hE0] at h; cases h) (bA _ _ nb h)
    clear hwpA hwoA hEA srcA bA bE
    -- the names
    refine ⟨_, rfl, d, c, lett, t7, congrArg (fun z => [V.ref d, V.str z]) (by decide +kernel), srcB, by decide, by omega, fun HC L1 zs tC bC srcC htC nL1 nL1d hL1 perm => ?_⟩
    refine ⟨_, rfl, _, rfl, L1, _, rfl, SqL.of hL1, fun NL nNL => ?_⟩
    obtain ⟨ns, hns⟩ : ∃ ns, ns = zs.take n := ⟨_, rfl⟩
    rw [cut_to, ← List.map_take, ← hns]
    have zl : zs.length = 26 := perm.length_eq
    have nsl : ns.length = n := by rw [hns, List.length_take]; omega
    have nsn : ns.Nodup := by rw [hns]; exact (perm.nodup_iff.mpr (by decide)).sublist (List.take_sublist _ _)
    have nslet : ∀ x ∈ ns, x ∈ lett := fun x hx => perm.mem_iff.mp (List.mem_of_mem_take (hns ▸ hx))
    have sNL := same_new (o := .lst (ns.map sg)) nNL
    have hwpC := sNL _ _ (bC _ _ (srcB.kind hwpB (fun _ e => by cases e)) hwpB)
    have hwoC := sNL _ _ (bC _ _ (srcB.kind hwoB (fun _ e => by cases e)) hwoB)
    have hEC := sNL _ _ (bC _ _ nEd hE)
    have hNL := upd_same (H := HC) (a := NL) (o := .lst (ns.map sg))
    have srcD := srcC.same sNL
    have bD : But d H (upd HC NL (.lst (ns.map sg))) := (bB.trans bC).trans (But.same sNL)
    clear hwpB hwoB hE srcB bB bC srcC hL1 nNL sNL perm zl hns
    generalize upd HC NL (.lst (ns.map sg)) = HD at *
    refine ⟨⟨_, rfl⟩, _, rfl, _, rfl, _, rfl, NL, _, rfl, SqL.of hNL, fun J1 nJ1 => ?_⟩
    have sJ1 := same_new (o := .lst (cutV (ns.map sg) none (some (sz : Int)))) nJ1
    have hJ1 : upd HD J1 (.lst (cutV (ns.map sg) none (some (sz : Int)))) J1 = some (.lst (((ns.take sz).map fun c => (⟨#[c]⟩ : Str)).map V.str)) := by
      rw [upd_same, cut_to, ← List.map_take, signs_map]
    refine ⟨_, J1, _, rfl, rfl, .inl (SqL.of hJ1), signs_room (by rw [List.length_take]; omega), ?_⟩
    rw [join_signs]
    have srcE := srcD.same sJ1
    have bE2 := bD.trans (But.same (d := d) sJ1)
    have hwpE := sJ1 _ _ hwpC
    have hwoE := sJ1 _ _ hwoC
    have hEE2 := sJ1 _ _ hEC
    have hNLE := sJ1 _ _ hNL
    clear hJ1 srcD bD hwpC hwoC hEC hNL nJ1 sJ1
    generalize upd HD J1 (.lst (cutV (ns.map sg) none (some (sz : Int)))) = HE at *
    refine ⟨_, rfl, sz, rfl, by omega, by omega, fun D nD => lc_range (lo := 0) (n := sz) (fun i H' => Same HE H' ∧ ∃ (ps : List Addr) (ad : Nat → Addr) (f : Nat → List Int), H' D = some (.lst (ps.map V.ref)) ∧ ps.length = i ∧ Paired (fun q kv => SqT K H' q [kV kv.1, kv.2]) ps (dk (valsD (ns.take i) ad)) ∧ (∀ c ∈ ns.take i, H' (ad c) = some (.tup ((f c).map V.int))) ∧ ∀ (j x : Nat), (ns.take i)[j]? = some x → f x = avs (qOf n) (st + at' + j) 1) ?_ ?_ ?_⟩
    · exact ⟨same_new nD, [], fun _ => 0, fun _ => [], upd_same, rfl, .nil, fun x h => absurd h (by simp), fun j x h => absurd h (by simp)⟩
    · rintro i H1 hi ⟨s1, ps, ad, f, hD, pl, pr, el, ef⟩
      obtain ⟨c1, hc1⟩ : ∃ c1, ns[i]? = some c1 := by
        cases e : ns[i]? with
        | some x => exact ⟨x, rfl⟩
        | none =>
          rw [List.getElem?_eq_none_iff] at e
          omega
      have tk : ns.take (i + 1) = ns.take i ++ [c1] := by rw [List.take_add_one, hc1]; rfl
      have cni : c1 ∉ ns.take i := fun z => by
        have nd := nsn
        rw [← List.take_append_drop (i + 1) ns, tk, List.append_assoc] at nd
        exact (List.nodup_append.mp nd).2.2 c1 z c1 (by simp) rfl
      refine ⟨rfl, _, rfl, _, rfl, NL, _, ((i : Nat) : Int), sg c1, rfl, congrArg V.int (by omega), SqL.of (s1 _ _ hNLE), atI_nat (by rw [List.getElem?_map, hc1]; rfl), ?_⟩
      refine ⟨_, rfl, _, rfl, ((i : Nat) : Int), congrArg V.int (by omega), _, rfl, _, 1, rfl, rfl, ((i + 1 : Nat) : Int), congrArg V.int (by omega), slA_any (s1 _ _ hwoE) fun w1 H2 s2 hw1 _ => ?_⟩
      rw [cut_at, ← List.map_drop, ← List.map_take, avs_cut (by omega)] at hw1
      refine ⟨by show 2 ≤ sizeLine; decide, fun T2 nT2 => ?_⟩
      have sT := same_new (o := .tup [sg c1, V.ref w1]) nT2
      have hD2 := sT _ _ (s2 _ _ hD)
      have tD : T2 ≠ D := fun z => by rw [z, s2 _ _ hD] at nT2; cases nT2
      have wD : w1 ≠ D := fun z => by rw [z, s2 _ _ hD] at hw1; cases hw1
      refine ⟨_, hD2, fitsLt (by rw [List.length_map]; omega), Same.put (s1.trans (s2.trans sT)) nD, ps ++ [T2], fun x => if x = c1 then w1 else ad x, fun x => if x = c1 then avs (qOf n) (st + at' + i) 1 else f x, by rw [upd_same, List.map_append]; rfl, by rw [List.length_append, pl]; rfl, ?_, fun x hx => ?_, fun j x hj => ?_⟩
      · have keepT : ∀ {q : Addr} {xs : List V}, SqT K H1 q xs → SqT K (upd (upd H2 T2 (.tup [sg c1, V.ref w1])) D (.lst (ps.map V.ref ++ [V.ref T2]))) q xs := fun {q xs} h => by
          rcases h with (e | ⟨o, e⟩) | e
          · refine .inl (.inl ?_)
            have e2 := sT _ _ (s2 _ _ e)
            rw [upd_ne (fun z => by rw [z, hD2] at e2; cases e2)]
            exact e2
          · refine .inl (.inr ⟨o, ?_⟩)
            have e2 := sT _ _ (s2 _ _ e)
            rw [upd_ne (fun z => by rw [z, hD2] at e2; cases e2)]
            exact e2
          · exact .inr e
        have e3 : dk (valsD (ns.take (i + 1)) fun x => if x = c1 then w1 else ad x) = dk (valsD (ns.take i) ad) ++ [(kS c1, V.ref w1)] := by
          rw [tk, vals_list, vals_list, List.map_append]
          congr 1
          · refine List.map_congr_left fun x hx => ?_
            show (kS x, V.ref (if x = c1 then w1 else ad x)) = _
            rw [if_neg (fun z : x = c1 => cni (z ▸ hx))]
          · show [(kS c1, V.ref (if c1 = c1 then w1 else ad c1))] = _
            rw [if_pos rfl]
        rw [e3]
        exact (L2.Paired.mapP pr fun _ _ h => keepT h).snoc (SqT.of (by rw [upd_ne tD, upd_same]; rfl))
      · rw [tk] at hx
        dsimp only
        rcases List.mem_append.mp hx with h | h
        · rw [if_neg (fun z : x = c1 => cni (z ▸ h)), if_neg (fun z : x = c1 => cni (z ▸ h))]
          have e2 := sT _ _ (s2 _ _ (el x h))
          rw [upd_ne (fun z => by rw [z, hD2] at e2; cases e2)]
          exact e2
        · rw [if_pos (List.mem_singleton.mp h), if_pos (List.mem_singleton.mp h), upd_ne wD]
          exact sT _ _ hw1
      · rw [tk] at hj
        dsimp only
        by_cases hji : j < (ns.take i).length
        · rw [List.getElem?_append_left hji] at hj
          rw [if_neg (fun z : x = c1 => cni (z ▸ List.mem_of_getElem? hj))]
          exact ef j x hj
        · rw [List.getElem?_append_right (by omega)] at hj
          have hl2 : (ns.take i).length = i := by rw [List.length_take]; omega
          have hlt := (List.getElem?_eq_some_iff.mp hj).1
          have ej : j = i := by
            simp at hlt
            omega
          subst ej
          rw [hl2, Nat.sub_self] at hj
          have e1 : c1 = x := Option.some.inj hj
          rw [if_pos e1.symm]
    rintro H1 ⟨s1, ps, ad, f, hD, pl, pr, el, ef⟩
    refine ⟨D, ps, _, rfl, SqL.of hD, pr, fun vA nvA => ⟨_, _, rfl, ?_⟩⟩
    rw [merge_vals0 (nsn.sublist (List.take_sublist _ _))]
    have sv := same_new (o := .dK (dk (valsD (ns.take sz) ad))) nvA
    have s1v := s1.trans sv
    have hwp := s1v _ _ hwpE
    have hEE := s1v _ _ hEE2
    have hNL := s1v _ _ hNLE
    have src9 := srcE.same s1v
    have b9 := bE2.trans (But.same (d := d) s1v)
    have hvA0 : H vA = none := (bE2.trans (But.same (d := d) s1)).none nvA ((srcE.same s1).new nvA).1
    have nvAd := ((srcE.same s1).new nvA).1
    have nvAc := ((srcE.same s1).new nvA).2
    have vs9 : VsAt (upd H1 vA (.dK (dk (valsD (ns.take sz) ad)))) vA (ns.take sz) ad f := ⟨upd_same, fun x hx => sv _ _ (el x hx)⟩
    clear hD pr el s1 sv s1v hwpE hwoE hEE2 hNLE srcE bE2 nvA pl
    generalize upd H1 vA (.dK (dk (valsD (ns.take sz) ad))) = H9 at *
    have q2' : 2 ≤ qOf n := by omega
    have fill0 : Fill (qOf n) st at' sz L ns sz (ns.take sz) f (at' + sz) := by
      have tx0 : ∀ i, i ≤ sz → (ns.take i).flatMap f = avs (qOf n) (st + at') i := fun i => by
        induction i with
        | zero => intro _; rfl
        | succ i ih =>
          intro hi
          obtain ⟨c1, hc1⟩ : ∃ c1, ns[i]? = some c1 := by
            cases e : ns[i]? with
            | some x => exact ⟨x, rfl⟩
            | none =>
              rw [List.getElem?_eq_none_iff] at e
              omega
          have hj : (ns.take sz)[i]? = some c1 := by rw [List.getElem?_take, if_pos (by omega)]; exact hc1
          rw [List.take_add_one, hc1, List.flatMap_append, ih (by omega)]
          show _ ++ [c1].flatMap f = _
          rw [List.flatMap_singleton, ef i c1 hj, avs_app]
      refine ⟨fun x => Iff.rfl, by rw [tx0 sz (Nat.le_refl _), Nat.add_sub_cancel_left], Nat.le_add_right _ _, by omega, fun x hx => ?_, tx0 sz (Nat.le_refl _)⟩
      obtain ⟨j, hj⟩ := List.getElem?_of_mem hx
      rw [ef j x hj]
      exact ⟨avs_ne (by decide), by rw [avs_len]; decide, avs_range q2' q2⟩
    have esl : 1 ≤ es.length := by
      have := (List.getElem?_eq_some_iff.mp ok.hd).1
      omega
    have few := ok.few
    have nwv : wp ≠ vA := fun z => by rw [z, vs9.ha] at hwp; cases hwp
    have nev : EE ≠ vA := fun z => by rw [z, vs9.ha] at hEE; cases hEE
    have nnv : NL ≠ vA := fun z => by rw [z, vs9.ha] at hNL; cases hNL
    refine ⟨fun σ' H' => ∃ (cs : List Nat) (ad : Nat → Addr) (f : Nat → List Int) (o10 o14 : Option V) (la : Nat), σ' = [some (.ref d), some (.int (n : Int)), some (.int ((qOf n : Nat) : Int)), some (.int (st : Int)), some (.int (sz : Int)), some (.ref wp), some (.int (at' : Int)), some (.ref gp), some (.ref EE), some (.ref wo), o10, some (.ref NL), some (.str (tx cs)), some (.ref vA), o14, none, none] ∧ But vA H9 H' ∧ VsAt H' vA (ns.take (sz + (es.length - 1))) ad f ∧ es[es.length - 1]? = some la ∧ Fill (qOf n) st at' sz L ns (sz + (es.length - 1)) cs f (la + sz) ∧ cs.length ≤ sz * es.length + (es.length - 1), ?m1, ?m2⟩
    case m1 =>
      refine ⟨_, rfl, EE, _, rfl, .inl (SqL.of hEE), 1, (es.length : Int), ?_, ⟨by omega, by omega, by omega, by omega⟩, for_range (lo := 1) (fun i σ' H' => ∃ (cs : List Nat) (ad : Nat → Addr) (f : Nat → List Int) (o10 o14 : Option V) (la : Nat), σ' = [some (.ref d), some (.int (n : Int)), some (.int ((qOf n : Nat) : Int)), some (.int (st : Int)), some (.int (sz : Int)), some (.ref wp), some (.int (at' : Int)), some (.ref gp), some (.ref EE), some (.ref wo), o10, some (.ref NL), some (.str (tx cs)), some (.ref vA), o14, none, none] ∧ But vA H9 H' ∧ VsAt H' vA (ns.take (sz + i)) ad f ∧ es[i]? = some la ∧ Fill (qOf n) st at' sz L ns (sz + i) cs f (la + sz) ∧ cs.length ≤ sz * (i + 1) + i) ?_ ?_ ?_⟩
      · rw [List.length_map]
      · exact ⟨_, ad, f, _, _, at', rfl, But.refl _ _, vs9, ok.hd, fill0, by rw [List.length_take]; omega⟩
      · rintro i σ' H1 hi ⟨cs, ad, f, o10, o14, la, rfl, bv, vs, hla, fl, cl⟩
        have hi2 : i + 1 < es.length := by omega
        obtain ⟨lb, hlb⟩ : ∃ lb, es[i + 1]? = some lb := ⟨_, List.getElem?_eq_getElem hi2⟩
        have gp2 := ok.gap i la lb hla hlb
        have far2 := ok.far lb (List.mem_of_getElem? hlb)
        have wd2 := ok.wd lb (List.mem_of_getElem? hlb)
        obtain ⟨c1, hc1⟩ : ∃ c1, ns[sz + i]? = some c1 := ⟨_, List.getElem?_eq_getElem (by omega)⟩
        obtain ⟨cni, fl2⟩ := fl.more q2' q2 nsn hc1 (Nat.le_add_right _ _) (show 0 < lb - (la + sz) by omega) (by omega) hL2
        rw [show la + sz + (lb - (la + sz)) = lb by omega] at fl2
        have fl3 := fl2.again (by omega) wd2 (by omega)
        have hwp1 := bv _ _ nwv hwp
        have hEE1 := bv _ _ nev hEE
        have hNL1 := bv _ _ nnv hNL
        have c13 : cs.length ≤ 40 := by
          have h1 : sz * (i + 1) ≤ 2 * 9 := Nat.mul_le_mul sz2 (by omega)
          omega
        have tk : ns.take (sz + i + 1) = ns.take (sz + i) ++ [c1] := by rw [List.take_add_one, hc1]; rfl
        refine ⟨_, rfl, _, rfl, _, rfl, _, _, rfl, rfl, _, 1, rfl, rfl, NL, _, ((sz + i : Nat) : Int), sg c1, rfl, congrArg V.int (by omega), SqL.of hNL1, atI_nat (by rw [List.getElem?_map, hc1]; rfl), ?_⟩
        refine ⟨_, rfl, _, rfl, _, _, rfl, rfl, Nat.le_of_lt (small1000 (by rw [tx_len]; show _ + 1 ≤ 1000; omega)), ⟨_, rfl⟩, _, rfl, _, rfl, _, rfl, NL, _, rfl, SqL.of hNL1, fun J1 nJ1 => ?_⟩
        have sJ1 := same_new (o := .lst (cutV (ns.map sg) none (some (sz : Int)))) nJ1
        have hJ1 : upd H1 J1 (.lst (cutV (ns.map sg) none (some (sz : Int)))) J1 = some (.lst (((ns.take sz).map fun c => (⟨#[c]⟩ : Str)).map V.str)) := by
          rw [upd_same, cut_to, ← List.map_take, signs_map]
        refine ⟨_, J1, _, rfl, rfl, .inl (SqL.of hJ1), signs_room (by rw [List.length_take]; omega), ?_⟩
        rw [join_signs]
        rw [show (tx cs ++ { cps := #[c1] } : Str) = tx (cs ++ [c1]) from tx_app cs [c1]]
        refine ⟨_, _, rfl, rfl, Nat.le_of_lt (small1000 (by rw [tx_len, tx_len, List.length_append, List.length_take]; show _ + 1 + _ ≤ 1000; omega)), ?_⟩
        rw [tx_app]
        have hwp2 := sJ1 _ _ hwp1
        have hEE2 := sJ1 _ _ hEE1
        refine ⟨_, rfl, _, rfl, _, rfl, _, 1, rfl, rfl, EE, _, ((i : Nat) : Int), .int (la : Int), rfl, congrArg V.int (by omega), SqL.of hEE2, atI_nat (by rw [List.getElem?_map, hla]; rfl), _, rfl, _, _, rfl, rfl, ((la + sz : Nat) : Int), congrArg V.int (by omega), ?_⟩
        refine ⟨_, rfl, _, rfl, EE, _, ((i + 1 : Nat) : Int), .int (lb : Int), rfl, congrArg V.int (by omega), SqL.of hEE2, atI_nat (by rw [List.getElem?_map, hlb]; rfl), ((lb : Nat) : Int), rfl, slA_any hwp2 fun bp H3 s3 hbp _ => ?_⟩
        rw [cut_midS _ (by omega) (by rw [List.length_map, avs_len]; omega), ← List.map_drop, ← List.map_take, avs_cut (by omega)] at hbp
        have s13 := sJ1.trans s3
        have vs3 := vs.same s13
        obtain ⟨ad2, f2, e1, e2, e3, e4⟩ := putK_vals2 (ad := ad) (f := f) (p := bp) (b := avs (qOf n) (st + (la + sz)) (lb - (la + sz))) cni
        refine ⟨_, rfl, _, rfl, vA, _, rfl, DPut.k (k := kS c1) vs3.ha (fitsLt (by rw [vals_len, List.length_take]; omega)), ?_⟩
        rw [e1, ← tk]
        refine ⟨cs ++ [c1] ++ ns.take sz, ad2, (fun x => if x = c1 then avs (qOf n) (st + (la + sz)) (lb - (la + sz)) else f x), _, _, lb, rfl, fun b o nb h => ?_, ⟨upd_same, fun x hx => ?_⟩, hlb, fl3, ?_⟩
        · rw [upd_ne nb]
          exact s13 _ _ (bv _ _ nb h)
        · have hx : x ∈ ns.take (sz + i + 1) := hx
          rw [tk] at hx
          rcases List.mem_append.mp hx with z | z
          · rw [(e4 x z).1, if_neg (fun e : x = c1 => cni (e ▸ z))]
            have h1 := vs3.el x z
            rw [upd_ne (fun e => by rw [e, vs3.ha] at h1; cases h1)]
            exact h1
          · rw [List.mem_singleton.mp z, e2, if_pos rfl, upd_ne (fun e => by rw [e, vs3.ha] at hbp; cases hbp)]
            exact hbp
        · rw [List.length_append, List.length_append, List.length_singleton, List.length_take]
          have h2 : sz * (i + 1 + 1) = sz * (i + 1) + sz := Nat.mul_succ _ _
          omega
      · rintro σ' H1 ⟨cs, ad, f, o10, o14, la, rfl, bv, vs, hla, fl, cl⟩
        have e1 : ((es.length : Int) - 1).toNat = es.length - 1 := by omega
        rw [e1] at vs hla fl cl
        exact ⟨cs, ad, f, o10, o14, la, rfl, bv, vs, hla, fl, by rw [show es.length - 1 + 1 = es.length by omega] at cl; exact cl⟩
    case m2 =>
    rintro σ' HF ⟨cs, ad, f, o10, o14, la, rfl, bv, vs, hla, fl, cl⟩
    have far2 := ok.far la (List.mem_of_getElem? hla)
    have hwpF := bv _ _ nwv hwp
    have hEF := bv _ _ nev hEE
    have hNF := bv _ _ nnv hNL
    have srcF := src9.butS bv (fun z => nvAd z.symm) (fun z => nvAc z.symm)
    have bF : But d H HF := fun b o nb h => bv _ _ (fun z => by rw [z, hvA0] at h; cases h) (b9 _ _ nb h)
    have ela : es = es.take (es.length - 1) ++ [la] := by
      have h1 : es.take (es.length - 1 + 1) = es.take (es.length - 1) ++ [la] := by rw [List.take_add_one, hla]; rfl
      rw [show es.length - 1 + 1 = es.length by omega, List.take_length] at h1
      exact h1
    refine ⟨_, rfl, 1, rfl, EE, _, -1, .int (la : Int), rfl, rfl, SqL.of hEF, ?_, _, rfl, _, _, rfl, rfl, ?_⟩
    · have e : es.map (fun e : Nat => V.int (e : Int)) = (es.take (es.length - 1)).map (fun e : Nat => V.int (e : Int)) ++ [V.int (la : Int)] := by
        conv => lhs; rw [ela]
        rw [List.map_append]
        rfl
      rw [e]
      exact atI_last _ _
    refine ⟨_, rfl, _, rfl, _, rfl, EE, _, rfl, .inl (SqL.of hEF), _, _, rfl, rfl, _, 1, rfl, rfl, ((sz + (es.length - 1) : Nat) : Int), congrArg V.int (by rw [List.length_map]; omega), NL, _, rfl, SqL.of hNF, fun RL nRL => ?_⟩
    have l26 : lett.length = 26 := by decide
    obtain ⟨m0, hm0⟩ : ∃ m0, m0 = sz + (es.length - 1) := ⟨_, rfl⟩
    rw [← hm0] at vs fl ⊢
    rw [cut_from, ← List.map_drop]
    have sRL := same_new (o := .lst ((ns.drop m0).map sg)) nRL
    have hRL := upd_same (H := HF) (a := RL) (o := .lst ((ns.drop m0).map sg))
    have nRd := (srcF.new nRL).1
    have hm8 : m0 ≤ n := by omega
    have cl2 : cs.length ≤ 20 := by
      rcases (show sz = 1 ∨ sz = 2 by omega) with h | h <;> rw [h] at cl few <;> omega
    have nwd2 : wp ≠ d := wd
    refine ⟨RL, rfl, ⟨_, SqL.of hRL⟩, for_it (walk_list (xs := (ns.drop m0).map sg)) (fun i σ' H' => ∃ (cs : List Nat) (ad : Nat → Addr) (f : Nat → List Int) (o14 o16 : Option V) (last t' : Nat), σ' = [some (.ref d), some (.int (n : Int)), some (.int ((qOf n : Nat) : Int)), some (.int (st : Int)), some (.int (sz : Int)), some (.ref wp), some (.int (at' : Int)), some (.ref gp), some (.ref EE), some (.ref wo), o10, some (.ref NL), some (.str (tx cs)), some (.ref vA), o14, some (.int (last : Int)), o16] ∧ But d H H' ∧ Nxt H' d c t' ∧ t' ≤ tC + i ∧ H' wp = some (.tup ((avs (qOf n) st L).map V.int)) ∧ H' RL = some (.lst ((ns.drop m0).map sg)) ∧ VsAt H' vA (ns.take (m0 + i)) ad f ∧ Fill (qOf n) st at' sz L ns (m0 + i) cs f last ∧ last ≤ la + sz + 9 * i ∧ cs.length ≤ 20 + i) ?_ ?_ ?_ ?_⟩
    · exact ⟨cs, ad, f, _, _, la + sz, tC, rfl, bF.trans (But.same sRL), srcF.same sRL, by omega, sRL _ _ hwpF, hRL, vs.same sRL, fl, by omega, by omega⟩
    · rintro i σ' H' _ ⟨_, _, _, _, _, _, _, _, _, _, _, _, h, _⟩
      exact SqL.of h
    · rintro i x σ' H1 H1' hi ⟨cs, ad, f, o14, o16, last, t', rfl, b1, src1, ht1, hwp1, hRL1, vs1, fl1, la1, cl1⟩ ⟨rfl, hxi⟩
      rw [List.length_map, List.length_drop] at hi
      obtain ⟨c1, hc0, rfl⟩ : ∃ c1, (ns.drop m0)[i]? = some c1 ∧ x = sg c1 := by
        rw [List.getElem?_map] at hxi
        obtain ⟨c1, h1, h2⟩ := Option.map_eq_some_iff.mp hxi
        exact ⟨c1, h1, h2.symm⟩
      have hc1 : ns[m0 + i]? = some c1 := by rw [List.getElem?_drop] at hc0; exact hc0
      refine ⟨_, rfl, d, c, 9, t', rfl, src1, by decide, by decide, by omega, fun H2 k2 t2 b2 src2 ht2 k20 k21 => ?_⟩
      obtain ⟨m2, rfl⟩ := nat_of k20
      refine ⟨1, _, rfl, rfl, ?_⟩
      obtain ⟨ll, hll⟩ : ∃ ll, ll = 1 + m2 := ⟨_, rfl⟩
      dsimp only
      rw [show (1 : Int) + (m2 : Int) = (ll : Int) by omega]
      obtain ⟨cni, fl2⟩ := fl1.more (l := ll) q2' q2 nsn hc1 (by omega) (by omega) (by omega) hL2
      have tk : ns.take (m0 + i + 1) = ns.take (m0 + i) ++ [c1] := by rw [List.take_add_one, hc1]; rfl
      have hwp2 := b2 _ _ nwd2 hwp1
      have hRL2 := b2 _ _ nRd hRL1
      have vs2 := vs1.butN nvAd src1 b2
      refine ⟨_, rfl, _, rfl, _, _, rfl, rfl, Nat.le_of_lt (small1000 (by rw [tx_len]; show _ + 1 ≤ 1000; omega)), _, rfl, _, rfl, _, _, rfl, rfl, _, _, rfl, ?_⟩
      rw [show (tx cs ++ { cps := #[c1] } : Str) = tx (cs ++ [c1]) from tx_app cs [c1]]
      dsimp only
      rw [show (last : Int) + (ll : Int) = ((last + ll : Nat) : Int) by omega]
      refine ⟨_, rfl, _, rfl, _, rfl, _, _, rfl, rfl, ((last : Nat) : Int), congrArg V.int (by omega), _, rfl, ((last + ll : Nat) : Int), rfl, slA_any hwp2 fun bp H3 s3 hbp _ => ?_⟩
      have hi2 := fl2.hi
      rw [cut_at, ← List.map_drop, ← List.map_take, avs_cut (by omega)] at hbp
      have vs3 := vs2.same s3
      obtain ⟨ad2, f2, e1, e2, e3, e4⟩ := putK_vals2 (ad := ad) (f := f) (p := bp) (b := avs (qOf n) (st + last) ll) cni
      refine ⟨_, rfl, _, rfl, vA, _, rfl, DPut.k (k := kS c1) vs3.ha (fitsLt (by rw [vals_len, List.length_take]; omega)), ?_⟩
      rw [e1, ← tk]
      have nwv2 : wp ≠ vA := nwv
      have nrv : RL ≠ vA := fun z => by
        have := vs1.ha
        rw [← z, hRL1] at this
        cases this
      refine ⟨cs ++ [c1], ad2, (fun x => if x = c1 then avs (qOf n) (st + last) ll else f x), _, _, last + ll, t2, rfl, ((b1.trans b2).trans (But.same s3)).put (o := .dK (dk (valsD (ns.take (m0 + i + 1)) ad2))) hvA0, (src2.same s3).upd nvAd nvAc, by omega, by rw [upd_ne nwv2]; exact s3 _ _ hwp2, by rw [upd_ne nrv]; exact s3 _ _ hRL2, ⟨upd_same, fun x hx => ?_⟩, fl2, by omega, by rw [List.length_append, List.length_singleton]; omega⟩
      have hx : x ∈ ns.take (m0 + i + 1) := hx
      rw [tk] at hx
      rcases List.mem_append.mp hx with z | z
      · rw [(e4 x z).1, if_neg (fun e : x = c1 => cni (e ▸ z))]
        have h1 := vs3.el x z
        rw [upd_ne (fun e => by rw [e, vs3.ha] at h1; cases h1)]
        exact h1
      · rw [List.mem_singleton.mp z, e2, if_pos rfl, upd_ne (fun e => by rw [e, vs3.ha] at hbp; cases hbp)]
        exact hbp
    rintro σ' HG ⟨cs, ad, f, o14, o16, last, t', rfl, bG, srcG, htG, hwpG, hRLG, vsG, flG, laG, clG⟩
    rw [List.length_map, List.length_drop] at vsG flG laG clG htG
    rw [show m0 + (ns.length - m0) = ns.length by omega] at vsG flG
    rw [List.take_length] at vsG
    have memG : ∀ x, x ∈ cs ↔ x ∈ ns := fun x => by
      have := flG.mem x
      rw [List.take_length] at this
      exact this
    have valG : ∀ x ∈ ns, f x ≠ [] ∧ (f x).length ≤ 1400 ∧ ∀ y ∈ f x, 0 ≤ y ∧ y ≤ 999999 := fun x hx => flG.val x (by rw [List.take_length]; exact hx)
    have ml : (met cs).length ≤ n := by rw [← nsl]; exact met_sub_len fun x hx => (memG x).mp hx
    have ml2 : ns.length ≤ (met cs).length := nodup_sub_len ns (met cs) nsn fun x hx => mem_met.mpr ((memG x).mpr hx)
    have pm : ns.Perm (met cs) := perm_of nsn (fun x hx => mem_met.mpr ((memG x).mpr hx)) (by omega)
    have lowN : Low ns := fun x hx => (show ∀ c ∈ lett, 97 ≤ c ∧ c ≤ 122 by decide) x (nslet x hx)
    have nne : ns ≠ [] := fun z => by rw [z] at nsl; have : 0 = n := nsl; omega
    have cne : cs ≠ [] := fun z => by
      cases ns with
      | nil => exact nne rfl
      | cons x r =>
        have := (memG x).mpr List.mem_cons_self
        rw [z] at this
        cases this
    have hiG := flG.hi
    have loG := flG.lo
    refine ⟨_, rfl, _, rfl, _, rfl, _, _, rfl, rfl, _, rfl, by show 2 ≤ sizeLine; decide, fun pp npp => ⟨by show 2 ≤ sizeLine; decide, fun r nr => ?_⟩⟩
    have sp := same_new (o := .tup [V.int ((st : Int) + (at' : Int)), V.ref vA]) npp
    have sr := same_new (o := .tup [V.str (tx cs), V.ref pp]) nr
    have spr := sp.trans sr
    have ta : ((st : Int) + (at' : Int)) = ((st + at' : Nat) : Int) := by omega
    have hpp := sr _ _ (upd_same (H := HG) (a := pp) (o := .tup [V.int ((st : Int) + (at' : Int)), V.ref vA]))
    have hr2 := upd_same (H := upd HG pp (.tup [V.int ((st : Int) + (at' : Int)), V.ref vA])) (a := r) (o := .tup [V.str (tx cs), V.ref pp])
    show Q (.ref r) (upd (upd HG pp (.tup [V.int ((st : Int) + (at' : Int)), V.ref vA])) r (.tup [V.str (tx cs), V.ref pp]))
    generalize upd (upd HG pp (.tup [V.int ((st : Int) + (at' : Int)), V.ref vA])) r (.tup [V.str (tx cs), V.ref pp]) = HH at *
    rw [ta] at hpp
    have tl : (cs.flatMap f).length = last - at' := by rw [flG.txt, avs_len]
    refine q HH r t' (bG.trans (But.same spr)) (srcG.same spr) (by omega) ⟨pp, vA, cs, ns, st + at', ad, f, hr2, hpp, vsG.same spr, nvAd, pm, nsn, nne, by omega, lowN, ⟨by omega, fun x hx => lowN x ((memG x).mp hx), by omega⟩, cne, by omega, valG, by omega, by omega, ?_, by omega⟩
    rw [tl]
    exact flG.txt
end
end Mo

set_option pp.maxSteps 600
namespace Mo
open PySem PySem.Spec PyProof.Rows L2
def fTwo (la lb : List Int) : Nat → List Int := fun c => if c = 97 then la else lb
def EdgP (H : Hp) (p : Addr) (s : Nat) (la lb : List Int) : Prop := ∃ (va : Addr) (ad : Nat → Addr), H p = some (.tup [.int (s : Int), .ref va]) ∧ VsAt H va [97, 98] ad (fTwo la lb)
theorem EdgP.same {H H' : Hp} {p : Addr} {s : Nat} {la lb : List Int} (h : EdgP H p s la lb) (q : Same H H') : EdgP H' p s la lb := by
  obtain ⟨va, ad, h1, h2⟩ := h
  exact ⟨va, ad, q _ _ h1, h2.same q⟩
theorem two_at {H : Hp} {p a1 a2 : Addr} {la lb : List Int} (hp : H p = some (.dK [])) (h1 : H a1 = some (.tup (la.map V.int))) (h2 : H a2 = some (.tup (lb.map V.int))) :
    VsAt (upd H p (.dK (mergeK [] [(kS 97, V.ref a1), (kS 98, V.ref a2)]))) p [97, 98] (fun c => if c = 97 then a1 else a2) (fTwo la lb) := by
  have n1 : a1 ≠ p := ne_of h1 hp (fun z => by cases z)
  have n2 : a2 ≠ p := ne_of h2 hp (fun z => by cases z)
  refine ⟨?_, fun c hc => ?_⟩
  · rw [upd_same]
    rfl
  · simp only [List.mem_cons, List.not_mem_nil, or_false] at hc
    rcases hc with rfl | rfl
    · exact (upd_ne n1).trans h1
    · exact (upd_ne n2).trans h2
theorem e_tk {q s N n : Nat} (h : n ≤ N) : cutV ((avs q s N).map V.int) none (some (n : Int)) = (avs q s n).map V.int := by
  rw [cut_to, ← List.map_take]
  congr 1
  have e := avs_cut (q := q) (s := s) (N := N) (a := 0) (n := n) (by omega)
  rwa [List.drop_zero] at e
theorem e_md {q s N a b : Nat} (h1 : a ≤ b) (h : b ≤ N) : cutV ((avs q s N).map V.int) (some (a : Int)) (some (b : Int)) = (avs q (s + a) (b - a)).map V.int := by
  obtain ⟨m, rfl⟩ : ∃ m, b = a + m := ⟨b - a, by omega⟩
  rw [cut_at, ← List.map_drop, ← List.map_take, avs_cut (by omega), Nat.add_sub_cancel_left]
theorem e_fr {q s N a : Nat} (h : a ≤ N) : cutV ((avs q s N).map V.int) (some (a : Int)) none = (avs q (s + a) (N - a)).map V.int := by
  rw [cut_from, ← List.map_drop]
  congr 1
  have e := avs_cut (q := q) (s := s) (N := N) (a := a) (n := N - a) (by omega)
  rw [← e, List.take_of_length_le (by rw [List.length_drop, avs_len]; omega)]
/-- what _law_edge gives -/
def EdgeAt (H : Hp) (r : Addr) : Prop := ∃ (p1 p2 : Addr) (s m h s2 m2 h2 : Nat), H r = some (.tup [.str (tx [97, 98]), .ref p1, .ref p2]) ∧ EdgP H p1 s (avs 7 s m) (avs 7 (s + m) h) ∧ 0 < m ∧ 0 < h ∧ m + h ≤ 4096 ∧ s ≤ 1000000000000000000 ∧
  EdgP H p2 s2 (avs 7 s2 m2) (avs 7 (s2 + m2) h2) ∧ 0 < m2 ∧ 0 < h2 ∧ m2 + h2 ≤ 4097 ∧ s2 ≤ 1000000000000000001 ∧ (1000000000000000000 < s2 ∨ 4096 < m2 + h2)
def spEdg : Sp := fun vs H Q _ => ∃ (d c : Addr) (t : Nat), vs = [.ref d] ∧ Nxt H d c t ∧ t < 1000000 ∧ ∀ H' r t', But d H H' → Nxt H' d c t' → EdgeAt H' r → Q (.ref r) H'
section
variable {P : Program} {w : World} {K : PySem.W.Frag} {mg : Str → Option Value} {base : Heap}
theorem ok_ledge {k : Nat} (T : Txt K mg) : FnOk P w K mg base CX0 (k + 5) T.aLEdge T.dLEdge ["_law_pen_here"] spEdg := by
  have GLPick : FnOk P w K mg base CX0 (k + 4) T.aLPick T.dLPick ["_law_pen_here", "_law_choices"] (spNPick K) := ok_pick T
  have GLDraw : FnOk P w K mg base CX0 (k + 4) T.aLDraw T.dLDraw ["_law_pen_here", "_law_many"] spNDraw := ok_draw T
  have GLFar : FnOk P w K mg base CX0 (k + 4) T.aLFar T.dLFar ["_law_pen_here", "_law_pieces"] spFar2 := ok_far2 T
  have GLText : FnOk P w K mg base CX0 (k + 4) T.aLText T.dLText ["_law_q_here", "_law_start", "_law_length"] spLTex := ok_ltex T
  refine T.fLEdge.ok scLEdge (fun vs H Q E h => ?_) (fun cdv A outer s H vs Q E hr h => ?_)
  · obtain ⟨_, _, _, rfl, _⟩ := h
    rfl
  · obtain ⟨d, c, t, rfl, src, ht, q⟩ := h
    refine ⟨_, (pss_cons (ps_if (pt_cmpR op_eq (pe_call GLDraw hr (by rfl) T.gLDraw T.fLDraw.kp T.bLDraw .nil pass0 (pa_cons (pv 0) (pa_cons pe_int pa_nil))) pe_int (nomark _)) (pss_cons (ps_set (i := 1) scLEdge.nd rfl (Or.inl rfl) (pe_call GLText hr (by rfl) T.gLText T.fLText.kp T.bLText .nil pass0 (pa_cons pe_int (pa_cons (pe_op op_pow pe_int pe_int) (pa_cons pe_int pa_nil)))))
      (pss_one (ps_ret (pe_tup (pa_cons pe_str (pa_cons (pe_tup (pa_cons (pe_op op_pow pe_int pe_int) (pa_cons (pe_disp (pps_cons pe_str (pe_slice sl_tupA (pv 1) po_none (po_some pe_int)) (pps_cons pe_str (pe_slice sl_tupA (pv 1) (po_some pe_int) (po_some pe_int)) pps_nil)) (by rfl) (by rfl) (fun z => by cases z) (by decide)) pa_nil))) (pa_cons (pe_tup (pa_cons (pe_op op_add (pe_op op_pow pe_int pe_int) pe_int) (pa_cons (pe_disp (pps_cons pe_str (pe_slice sl_tupA (pv 1) (po_some pe_int) (po_some pe_int)) (pps_cons pe_str (pe_slice sl_tupA (pv 1) (po_some pe_int) po_none) pps_nil)) (by rfl) (by rfl) (fun z => by cases z) (by decide)) pa_nil))) pa_nil))))))) pss_nil)
      (pss_cons (ps_par (i := 2) (j := 3) (by rfl) scLEdge.nd rfl rfl (by decide) rfl rfl (pa_cons (pe_call GLPick hr (by rfl) T.gLPick T.fLPick.kp T.bLPick .nil pass0 (pa_cons (pv 0) (pa_cons (pe_lst (pa_cons pe_int (pa_cons (pe_op op_pow pe_int pe_int) (pa_cons (pe_call GLFar hr (by rfl) T.gLFar T.fLFar.kp T.bLFar .nil pass0 (pa_cons (pv 0) (pa_cons pe_int pa_nil))) pa_nil)))) pa_nil))) (pa_cons (pe_op op_add pe_int (pe_call GLDraw hr (by rfl) T.gLDraw T.fLDraw.kp T.bLDraw .nil pass0 (pa_cons (pv 0) (pa_cons pe_int pa_nil)))) pa_nil)) (by rfl))
      (pss_cons (ps_set (i := 1) scLEdge.nd rfl (Or.inl rfl) (pe_call GLText hr (by rfl) T.gLText T.fLText.kp T.bLText .nil pass0 (pa_cons pe_int (pa_cons (pv 2) (pa_cons pe_int pa_nil)))))
      (pss_one (ps_ret (pe_tup (pa_cons pe_str (pa_cons (pe_tup (pa_cons (pv 2) (pa_cons (pe_disp (pps_cons pe_str (pe_slice sl_tupA (pv 1) po_none (po_some (pv 3))) (pps_cons pe_str (pe_slice sl_tupA (pv 1) (po_some (pv 3)) (po_some pe_int)) pps_nil)) (by rfl) (by rfl) (fun z => by cases z) (by decide)) pa_nil))) (pa_cons (pe_tup (pa_cons (pv 2) (pa_cons (pe_disp (pps_cons pe_str (pe_slice sl_tupA (pv 1) po_none (po_some (pv 3))) (pps_cons pe_str (pe_slice sl_tupA (pv 1) (po_some (pv 3)) po_none) pps_nil)) (by rfl) (by rfl) (fun z => by cases z) (by decide)) pa_nil))) pa_nil))))))))), ?_⟩
    have e18 : ((10 : Int) ^ (18 : Int).toNat) = ((1000000000000000000 : Nat) : Int) := by decide +kernel
    refine ⟨_, rfl, d, c, 2, t, rfl, src, by decide, by decide, by omega, fun H1 k1 t1 b1 src1 ht1 k10 k11 => ?_⟩
    obtain ⟨m1, rfl⟩ := nat_of k10
    refine ⟨rfl, _, rfl, ite2 (fun e => ?_) (fun e => ?_)⟩
    · refine ⟨10, 18, rfl, rfl, ⟨by decide, by decide, by decide⟩, 7, 1000000000000000000, 9, ?_, by decide, by decide, by decide, by decide, fun H2 wp s2 hwp => ?_⟩
      · show [V.int 7, V.int ((10 : Int) ^ (18 : Int).toNat), V.int 9] = _
        rw [e18]
        rfl
      refine ⟨10, 18, rfl, rfl, ⟨by decide, by decide, by decide⟩, fun va nva => ?_⟩
      have nva2 := nva
      have hw0 := same_new (o := .dK []) nva _ _ hwp
      refine ⟨_, rfl, 3, rfl, slA_any hw0 fun a1 H3 s3 h1 _ => ⟨_, rfl, 3, rfl, 8, rfl, slA_any (s3 _ _ hw0) fun a2 H4 s4 h2 _ => ⟨s4 _ _ (s3 _ _ upd_same), [(kS 97, .ref a1), (kS 98, .ref a2)], rfl, (show 2 ≤ 15 by decide), ?_⟩⟩⟩
      replace h1 : H3 a1 = some (.tup ((avs 7 1000000000000000000 3).map V.int)) := h1.trans (congrArg (fun z => some (HO.tup z)) (e_tk (q := 7) (s := 1000000000000000000) (N := 9) (n := 3) (by decide)))
      replace h2 : H4 a2 = some (.tup ((avs 7 (1000000000000000000 + 3) 5).map V.int)) := h2.trans (congrArg (fun z => some (HO.tup z)) (e_md (q := 7) (s := 1000000000000000000) (N := 9) (a := 3) (b := 8) (by decide) (by decide)))
      have v1 := two_at (s4 _ _ (s3 _ _ upd_same)) (s4 _ _ h1) h2
      have b14 : Same H2 (upd H4 va (.dK (mergeK [] [(kS 97, V.ref a1), (kS 98, V.ref a2)]))) := Same.put (((same_new nva).trans s3).trans s4) nva
      generalize upd H4 va (.dK (mergeK [] [(kS 97, V.ref a1), (kS 98, V.ref a2)])) = H5 at *
      refine ⟨by show 2 ≤ sizeLine; decide, fun p1 np1 => ?_⟩
      dsimp only
      rw [e18]
      have s6 := same_new (o := .tup [V.int ((1000000000000000000 : Nat) : Int), .ref va]) np1
      have e1 : EdgP (upd H5 p1 (.tup [V.int ((1000000000000000000 : Nat) : Int), .ref va])) p1 1000000000000000000 (avs 7 1000000000000000000 3) (avs 7 (1000000000000000000 + 3) 5) := ⟨va, _, upd_same, v1.same s6⟩
      have hw6 := s6 _ _ (b14 _ _ hwp)
      generalize upd H5 p1 (.tup [V.int ((1000000000000000000 : Nat) : Int), .ref va]) = H6 at *
      refine ⟨10, 18, rfl, rfl, ⟨by decide, by decide, by decide⟩, ((10 : Int) ^ (18 : Int).toNat), 1, rfl, rfl, fun va2 nva2 => ?_⟩
      rw [e18]
      have hw1 := same_new (o := .dK []) nva2 _ _ hw6
      refine ⟨_, rfl, 1, rfl, 4, rfl, slA_any hw1 fun a3 H7 s7 h3 _ => ⟨_, rfl, 4, rfl, ?_⟩⟩
      dsimp only [tNoPart]
      refine slA_any (s7 _ _ hw1) fun a4 H8 s8 h4 _ => ⟨s8 _ _ (s7 _ _ upd_same), [(kS 97, .ref a3), (kS 98, .ref a4)], rfl, (show 2 ≤ 15 by decide), ?_⟩
      replace h3 : H7 a3 = some (.tup ((avs 7 1000000000000000001 3).map V.int)) := h3.trans (congrArg (fun z => some (HO.tup z)) (e_md (q := 7) (s := 1000000000000000000) (N := 9) (a := 1) (b := 4) (by decide) (by decide)))
      replace h4 : H8 a4 = some (.tup ((avs 7 (1000000000000000001 + 3) 5).map V.int)) := h4.trans (congrArg (fun z => some (HO.tup z)) (e_fr (q := 7) (s := 1000000000000000000) (N := 9) (a := 4) (by decide)))
      have v2 := two_at (s8 _ _ (s7 _ _ upd_same)) (s8 _ _ h3) h4
      have b68 : Same H6 (upd H8 va2 (.dK (mergeK [] [(kS 97, V.ref a3), (kS 98, V.ref a4)]))) := Same.put (((same_new nva2).trans s7).trans s8) nva2
      generalize upd H8 va2 (.dK (mergeK [] [(kS 97, V.ref a3), (kS 98, V.ref a4)])) = H9 at *
      refine ⟨by show 2 ≤ sizeLine; decide, fun p2 np2 => ?_⟩
      have ee : (((1000000000000000000 : Nat) : Int) + 1) = ((1000000000000000001 : Nat) : Int) := rfl
      rw [ee]
      have s10 := same_new (o := .tup [V.int ((1000000000000000001 : Nat) : Int), .ref va2]) np2
      have e2 : EdgP (upd H9 p2 (.tup [V.int ((1000000000000000001 : Nat) : Int), .ref va2])) p2 1000000000000000001 (avs 7 1000000000000000001 3) (avs 7 (1000000000000000001 + 3) 5) := ⟨va2, _, upd_same, v2.same s10⟩
      generalize upd H9 p2 (.tup [V.int ((1000000000000000001 : Nat) : Int), .ref va2]) = H10 at *
      refine ⟨by show 3 ≤ sizeLine; decide, fun r nr => ?_⟩
      have s11 := same_new (o := .tup [V.str (Str.ofString "ab"), .ref p1, .ref p2]) nr
      have sAll := (s2.trans b14).trans (s6.trans (b68.trans (s10.trans s11)))
      refine q _ r t1 (b1.trans (But.same sAll)) (src1.same sAll) ⟨p1, p2, 1000000000000000000, 3, 5, 1000000000000000001, 3, 5, upd_same, e1.same (b68.trans (s10.trans s11)), by decide, by decide, by decide, by decide, e2.same s11, by decide, by decide, by decide, by decide, .inl (by decide)⟩
    · refine ⟨_, rfl, 10, 18, rfl, rfl, ⟨by decide, by decide, by decide⟩, _, rfl, d, c, t1, rfl, src1, by omega, fun H3 m3 t3 b3 src3 ht3 hm3 => ⟨by show 3 ≤ sizeLine; decide, fun l nl => ?_⟩⟩
      dsimp only
      rw [e18]
      have sl := same_new (o := .lst [V.int 0, V.int ((1000000000000000000 : Nat) : Int), V.int (m3 : Int)]) nl
      refine ⟨d, c, l, _, t3, rfl, src3.same sl, SqL.of upd_same, (src3.new nl).1, by show 0 < 3; decide, by show 3 < 1073741824; decide, by omega, fun H4 v t4 b4 src4 ht4 hv => ?_⟩
      obtain ⟨st, rfl, hst⟩ : ∃ st : Nat, v = .int (st : Int) ∧ st ≤ 1000000000000000000 := by
        simp only [List.mem_cons, List.not_mem_nil, or_false] at hv
        rcases hv with rfl | rfl | rfl
        · exact ⟨0, rfl, by omega⟩
        · exact ⟨_, rfl, by omega⟩
        · exact ⟨_, rfl, by omega⟩
      have b04 : But d H H4 := (b1.trans b3).trans ((But.same sl).trans b4)
      clear src src1 src3 b1 b3 b4 sl nl hv
      refine ⟨_, rfl, d, c, 4095, t4, rfl, src4, by decide, by decide, by omega, fun H5 k5 t5 b5 src5 ht5 k50 k51 => ⟨1, k5, rfl, rfl, _, _, rfl, ?_⟩⟩
      obtain ⟨m5, rfl⟩ := nat_of k50
      obtain ⟨cut, hcut⟩ : ∃ cut, cut = 1 + m5 := ⟨_, rfl⟩
      have ecut : (1 : Int) + (m5 : Int) = (cut : Int) := by omega
      dsimp only
      rw [ecut]
      refine ⟨_, rfl, 7, st, 4097, rfl, by decide, by decide, by omega, by decide, fun H6 wp s6 hwp => ?_⟩
      refine ⟨_, rfl, fun va nva => ?_⟩
      have hw0 := same_new (o := .dK []) nva _ _ hwp
      refine ⟨_, rfl, _, rfl, cut, rfl, slA_any hw0 fun a1 H7 s7 h1 _ => ⟨_, rfl, _, rfl, cut, rfl, 4096, rfl, slA_any (s7 _ _ hw0) fun a2 H8 s8 h2 _ => ⟨s8 _ _ (s7 _ _ upd_same), [(kS 97, .ref a1), (kS 98, .ref a2)], rfl, (show 2 ≤ 15 by decide), ?_⟩⟩⟩
      replace h1 : H7 a1 = some (.tup ((avs 7 st cut).map V.int)) := h1.trans (congrArg (fun z => some (HO.tup z)) (e_tk (q := 7) (s := st) (N := 4097) (n := cut) (by omega)))
      replace h2 : H8 a2 = some (.tup ((avs 7 (st + cut) (4096 - cut)).map V.int)) := h2.trans (congrArg (fun z => some (HO.tup z)) (e_md (q := 7) (s := st) (N := 4097) (a := cut) (b := 4096) (by omega) (by decide)))
      have v1 := two_at (s8 _ _ (s7 _ _ upd_same)) (s8 _ _ h1) h2
      have b68 : Same H6 (upd H8 va (.dK (mergeK [] [(kS 97, V.ref a1), (kS 98, V.ref a2)]))) := Same.put (((same_new nva).trans s7).trans s8) nva
      generalize upd H8 va (.dK (mergeK [] [(kS 97, V.ref a1), (kS 98, V.ref a2)])) = H9 at *
      refine ⟨by show 2 ≤ sizeLine; decide, fun p1 np1 => ?_⟩
      have s10 := same_new (o := .tup [V.int (st : Int), .ref va]) np1
      have e1 : EdgP (upd H9 p1 (.tup [V.int (st : Int), .ref va])) p1 st (avs 7 st cut) (avs 7 (st + cut) (4096 - cut)) := ⟨va, _, upd_same, v1.same s10⟩
      have hw10 := s10 _ _ (b68 _ _ hwp)
      generalize upd H9 p1 (.tup [V.int (st : Int), .ref va]) = H10 at *
      refine ⟨_, rfl, fun va2 nva2 => ?_⟩
      have hw1 := same_new (o := .dK []) nva2 _ _ hw10
      refine ⟨_, rfl, _, rfl, cut, rfl, slA_any hw1 fun a3 H11 s11 h3 _ => ⟨_, rfl, _, rfl, cut, rfl, ?_⟩⟩
      dsimp only [tNoPart]
      refine slA_any (s11 _ _ hw1) fun a4 H12 s12 h4 _ => ⟨s12 _ _ (s11 _ _ upd_same), [(kS 97, .ref a3), (kS 98, .ref a4)], rfl, (show 2 ≤ 15 by decide), ?_⟩
      replace h3 : H11 a3 = some (.tup ((avs 7 st cut).map V.int)) := h3.trans (congrArg (fun z => some (HO.tup z)) (e_tk (q := 7) (s := st) (N := 4097) (n := cut) (by omega)))
      replace h4 : H12 a4 = some (.tup ((avs 7 (st + cut) (4097 - cut)).map V.int)) := h4.trans (congrArg (fun z => some (HO.tup z)) (e_fr (q := 7) (s := st) (N := 4097) (a := cut) (by omega)))
      have v2 := two_at (s12 _ _ (s11 _ _ upd_same)) (s12 _ _ h3) h4
      have b13 : Same H10 (upd H12 va2 (.dK (mergeK [] [(kS 97, V.ref a3), (kS 98, V.ref a4)]))) := Same.put (((same_new nva2).trans s11).trans s12) nva2
      generalize upd H12 va2 (.dK (mergeK [] [(kS 97, V.ref a3), (kS 98, V.ref a4)])) = H13 at *
      refine ⟨by show 2 ≤ sizeLine; decide, fun p2 np2 => ?_⟩
      have s14 := same_new (o := .tup [V.int (st : Int), .ref va2]) np2
      have e2 : EdgP (upd H13 p2 (.tup [V.int (st : Int), .ref va2])) p2 st (avs 7 st cut) (avs 7 (st + cut) (4097 - cut)) := ⟨va2, _, upd_same, v2.same s14⟩
      generalize upd H13 p2 (.tup [V.int (st : Int), .ref va2]) = H14 at *
      refine ⟨by show 3 ≤ sizeLine; decide, fun r nr => ?_⟩
      have s15 := same_new (o := .tup [V.str (Str.ofString "ab"), .ref p1, .ref p2]) nr
      have sAll := (s6.trans b68).trans (s10.trans (b13.trans (s14.trans s15)))
      exact q _ r t5 ((b04.trans b5).trans (But.same sAll)) (src5.same sAll) ⟨p1, p2, st, cut, 4096 - cut, st, cut, 4097 - cut, upd_same, e1.same (b13.trans (s14.trans s15)), by omega, by omega, by omega, by omega, e2.same s15, by omega, by omega, by omega, by omega, .inr (by omega)⟩
end
end Mo

namespace Mo
open PySem PySem.Spec PyProof.Rows L2
theorem bulk_kvQ : ∀ {l : List (PyData × PyData)} {x : PyData × PyData}, x ∈ l → x.2.bulk ≤ PyData.bulkKv l
  | [], _, h => by simp at h
  | (a, b) :: r, x, h => by
    simp only [PyData.bulkKv]
    rcases List.mem_cons.mp h with rfl | h
    · show b.bulk ≤ _
      omega
    · have := bulk_kvQ h
      omega
/-- a place that holds texts, and what is_avoiding_place says of it -/
theorem avp_vals {H : Hp} {p a : Addr} {s : Nat} {ns cs : List Nat} {ad : Nat → Addr} {f : Nat → List Int} (hp : H p = some (.tup [.int (s : Int), .ref a])) (h : VsAt H a ns ad f) (pm : ns.Perm (met cs)) (n8 : ns.length ≤ 8)
    (ok : ∀ c ∈ ns, f c ≠ [] ∧ (f c).length ≤ 4096 ∧ ∀ n ∈ f c, 0 ≤ n ∧ n ≤ 999999) :
    AvD (fun _ => False) H cs (.ref p) (plcD s ns ad f) (decide (s ≤ 1000000000000000000) && (decide ((cs.flatMap f).length ≤ 4096) && decide (cs.flatMap f = avs (qOf (met cs).length) s (cs.flatMap f).length))) := by
  have hb := bulk_vals (ad := ad) (f := f) (m := 4096) fun c hc => (ok c hc).2.1
  have hb2 : ns.length * (2 * 4096 + 10) ≤ 8 * (2 * 4096 + 10) := Nat.mul_le_mul_right _ n8
  refine ⟨place_dx hp (fun z => z) (fun z => z) h (fun _ _ z => z), ?_, .inr ⟨p, .int (s : Int), .int (s : Int), a, dk (valsD ns ad), ns.map fun c => txU (f c), _, rfl, rfl, hp, h.ha, .int _, by simp only [PyData.bulk]; first | decide | omega, vals_dx fun c hc => ⟨h.el c hc, fun z => z⟩, fun d hd => ?_, ?_, rfl⟩⟩
  · unfold plcD
    simp only [PyData.bulk, PyData.bulkAll]
    omega
  · obtain ⟨c, hc, rfl⟩ := List.mem_map.mp hd
    have := (ok c hc).2.1
    unfold txU
    simp only [PyData.bulk]
    rw [bulk_ints]
    omega
  · have e : cs.flatMap (blkK (dk (valsD ns ad)) (ns.map fun c => txU (f c))) = cs.flatMap f := by
      unfold List.flatMap
      congr 1
      refine List.map_congr_left fun c hc => ?_
      exact blk_vals (pm.mem_iff.mpr (mem_met.mpr hc))
    have h0 : intD (.int (s : Int)) = (s : Int) := rfl
    have e1 : decide ((s : Int) ≤ 1000000000000000000) = decide (s ≤ 1000000000000000000) := by
      by_cases z : s ≤ 1000000000000000000
      · rw [decide_eq_true z, decide_eq_true (by omega)]
      · rw [decide_eq_false z, decide_eq_false (by omega)]
    unfold avB
    rw [are_vals pm ok, e, h0, decide_eq_true (show (0 : Int) ≤ (s : Int) by omega), e1, Int.toNat_natCast]
    rfl
/-- a value that a place is changed to -/
theorem avd_any {N : Addr → Prop} {H : Hp} {x : V} {e : PyData} (cs : List Nat) (dx : Dx N H x e) (fb : e.bulk ≤ 100000) : ∃ b, AvD N H cs x e b := by
  by_cases hs : ∃ sd kvd, e = .tuple [sd, .dict kvd]
  · obtain ⟨sd, kvd, rfl⟩ := hs
    obtain ⟨p, xs, rfl, hp, np, hx⟩ := tpl_dx dx
    obtain ⟨sv, av, rfl, hsv, hav⟩ : ∃ sv av, xs = [sv, av] ∧ Dx N H sv sd ∧ Dx N H av (.dict kvd) := by
      cases hx with
      | cons h1 t => cases t with
        | cons h2 t2 => cases t2 with
          | nil => exact ⟨_, _, rfl, h1, h2⟩
    obtain ⟨a, kvs, ds, rfl, ha, na, hd, rfl⟩ := dct_dxQ hav
    have hl : kvs.length = ds.length := by
      have := hd.length
      rw [List.length_map] at this
      exact this
    have fb' := fb
    simp only [PyData.bulk, PyData.bulkAll] at fb
    have db : ∀ d ∈ ds, d.bulk ≤ 1000000 := fun d hd2 => by
      obtain ⟨y, hy⟩ := mem_of_zipQ (a := kvs.map fun kv => keyD kv.1) (b := ds) (by rw [List.length_map]; exact hl) hd2
      have h3 := bulk_kvQ hy
      have h4 : d.bulk ≤ PyData.bulkKv ((kvs.map fun kv => keyD kv.1).zip ds) := h3
      omega
    exact ⟨avB cs sd kvs ds, dx, by omega, .inr ⟨p, sv, sd, a, kvs, ds, _, rfl, rfl, hp, ha, hsv, by omega, hd, db, rfl, rfl⟩⟩
  · refine ⟨false, dx, by omega, .inl ⟨?_, rfl⟩⟩
    cases e with
    | tuple es =>
      match es with
      | [] => rfl
      | [_] => rfl
      | [a, b] =>
        cases b with
        | dict kvd => exact absurd ⟨a, kvd, rfl⟩ hs
        | _ => rfl
      | _ :: b :: _ :: _ => cases b <;> rfl
    | _ => rfl
/-- a placed place -/
theorem PlcAt.parts {H : Hp} {r d : Addr} {n : Nat} (h : PlcAt H r d n) : ∃ (pa : Addr) (cs : List Nat) (e : PyData), H r = some (.tup [.str (tx cs), .ref pa]) ∧ Pat cs ∧ cs ≠ [] ∧ AvD (fun _ => False) H cs (.ref pa) e true := by
  obtain ⟨pa, va, cs, ns, s, ad, f, h1, h2, h3, h4, h5, h6, h7, h8, h9, h10, h11, h12, h13, h14, h15, h16, h17⟩ := h
  refine ⟨pa, cs, plcD s ns ad f, h1, h10, h11, ?_⟩
  have e := avp_vals h2 h3 h5 h8 fun c hc => ⟨(h13 c hc).1, by have := (h13 c hc).2.1; omega, (h13 c hc).2.2⟩
  rw [decide_eq_true h14, decide_eq_true h17, h15, decide_eq_true h16] at e
  exact e
theorem edge_flat {la lb : List Int} : [97, 98].flatMap (fTwo la lb) = la ++ lb := by
  show la ++ (lb ++ []) = _
  rw [List.append_nil]
theorem EdgP.parts {H : Hp} {p : Addr} {s m h : Nat} (e : EdgP H p s (avs 7 s m) (avs 7 (s + m) h)) (m0 : 0 < m) (h0 : 0 < h) (mh : m + h ≤ 4097) : ∃ d, AvD (fun _ => False) H [97, 98] (.ref p) d (decide (s ≤ 1000000000000000000) && decide (m + h ≤ 4096)) := by
  obtain ⟨va, ad, h1, h2⟩ := e
  have r := avp_vals (cs := [97, 98]) h1 h2 (by decide) (by decide) fun c hc => by
    simp only [List.mem_cons, List.not_mem_nil, or_false] at hc
    rcases hc with rfl | rfl
    · exact ⟨avs_ne m0, by show (avs 7 s m).length ≤ _; rw [avs_len]; omega, avs_range (by decide) (by decide)⟩
    · exact ⟨avs_ne h0, by show (avs 7 (s + m) h).length ≤ _; rw [avs_len]; omega, avs_range (by decide) (by decide)⟩
  have q7 : qOf (met [97, 98]).length = 7 := by decide
  rw [edge_flat, avs_app, avs_len, q7, decide_eq_true (rfl : avs 7 s (m + h) = avs 7 s (m + h)), Bool.and_true] at r
  exact ⟨_, r⟩
end Mo

/-! ### letter_of for two letters that are neighbours in a block -/
namespace Mo
open PySem PySem.Spec PyProof.Rows L2
section
variable {P : Program} {w : World} {K : PySem.W.Frag} {mg : Str → Option Value} {base : Heap}
def spOf0 : Sp := fun vs H Q _ => ∃ n j c : Nat, vs = [.int n, .int j, .int (ltr (qOf n) c j : Nat), .int (ltr (qOf n) c (j + 1) : Nat)] ∧ 1 ≤ n ∧ n ≤ 8 ∧ j + 2 ≤ qOf n ∧ c < qOf n * qOf n ∧ ∀ H', Same H H' → Q (.int (c : Nat)) H'
theorem ok_of0 {k : Nat} (T : Txt K mg) : FnOk P w K mg base CX0 (k + 5) T.aLetterOf T.dLetterOf ["count", "index", "first", "second"] spOf0 := by
  have GModulus : FnOk P w K mg base CX0 (k + 4) T.aModulus T.dModulus ["count"] spMod := ok_mod T
  have GCheckCount : FnOk P w K mg base CX0 (k + 4) T.aCheckCount T.dCheckCount ["value", "least", "most"] spCount := ok_count T
  have GIsPlainInteger : FnOk P w K mg base CX0 (k + 4) T.aIsPlainInteger T.dIsPlainInteger ["value"] (spAsk plainD) := ok_plainX T
  refine T.fLetterOf.ok scLetterOf (fun vs H Q E h => ?_) (fun cdv A outer s H vs Q E hr h => ?_)
  · obtain ⟨_, _, _, rfl, _⟩ := h
    rfl
  · obtain ⟨n, j, c, rfl, n1, n8, hj, hc, q⟩ := h
    refine ⟨_, (pss_cons (ps_set (i := 4) scLetterOf.nd rfl (Or.inl rfl) (pe_call GModulus hr (by rfl) T.gModulus T.fModulus.kp T.bModulus .nil pass0 (pa_cons (pv 0) pa_nil)))
      (pss_cons (ps_expr (pe_call GCheckCount hr (by rfl) T.gCheckCount T.fCheckCount.kp T.bCheckCount .nil pass0 (pa_cons (pv 1) (pa_cons pe_int (pa_cons (pe_op op_sub (pv 4) pe_int) pa_nil)))))
      (pss_cons (ps_for PassesOwn.never rfl (Mo.pi_enumB (by rfl) T.m_enumerate (pa_cons (pe_lst (pa_cons (pv 2) (pa_cons (pv 3) pa_nil))) pa_nil)) (pg_tup rfl (pgs_cons (pg_name (i := 5) scLetterOf.nd rfl (Or.inl rfl)) (pgs_cons (pg_name (i := 6) scLetterOf.nd rfl (Or.inl rfl)) pgs_nil))) (pss_one (ps_if (PW.pt (pw_or (pt_not (pt_val (pe_call GIsPlainInteger hr (by rfl) T.gIsPlainInteger T.fIsPlainInteger.kp T.bIsPlainInteger .nil pass0 (pa_cons (pv 6) pa_nil)))) (pw_or1 (pt_cmpR op_ne (pe_op op_fdivN (pv 6) (pv 4)) (pe_op op_add (pv 1) (pv 5)) (nomark _))))) (pss_one ps_never) pss_nil)))
      (pss_cons (ps_set (i := 7) scLetterOf.nd rfl (Or.inl rfl) (pe_op op_modN (pe_op op_sub (pv 3) (pv 2)) (pv 4)))
      (pss_cons (ps_set (i := 8) scLetterOf.nd rfl (Or.inl rfl) (pe_op op_modN (pe_op op_sub (pv 2) (pe_op op_mul (pv 7) (pv 1))) (pv 4)))
      (pss_one (ps_ret (pe_op op_add (pe_op op_mul (pv 8) (pv 4)) (pv 7))))))))), ?_⟩
    obtain ⟨q1, q2, _⟩ := qOf_in n n1 n8
    refine ⟨_, rfl, n, rfl, n1, n8, fun H1 s1 => ?_⟩
    generalize qOf n = q0 at *
    have q0p : 0 < q0 := by omega
    refine ⟨_, rfl, _, rfl, q0, 2, rfl, rfl, _, 0, _, rfl, by omega, by omega, fun H2 s2 => ?_⟩
    have s12 := s1.trans s2
    refine ⟨_, rfl, _, rfl, by show 2 ≤ sizeLine; decide, fun l nl => ?_⟩
    have s3 := same_new (o := .lst [V.int ((ltr q0 c j : Nat) : Int), .int ((ltr q0 c (j + 1) : Nat) : Int)]) nl
    refine ⟨l, _, false, rfl, upd_same, for_it (walk_enB (xs := [V.int ((ltr q0 c j : Nat) : Int), .int ((ltr q0 c (j + 1) : Nat) : Int)]) (b := false)) (fun i σ H' => ∃ o5 o6 : Option V, σ = [some (.int (n : Nat)), some (.int (j : Nat)), some (.int (ltr q0 c j : Nat)), some (.int (ltr q0 c (j + 1) : Nat)), some (.int (q0 : Int)), o5, o6, none, none] ∧ Same H H' ∧ H' l = some (.lst [V.int ((ltr q0 c j : Nat) : Int), .int ((ltr q0 c (j + 1) : Nat) : Int)])) ?_ ?_ ?_ ?_⟩
    · exact ⟨_, _, rfl, s12.trans s3, upd_same⟩
    · rintro i σ H3 _ ⟨o5, o6, rfl, _, hl⟩
      exact hl
    · rintro i v σ H3 H4 hi ⟨o5, o6, rfl, s4, hl⟩ ⟨tp, a, b, rfl, ntp, rfl, ha, hb⟩
      obtain rfl : V.int (i : Nat) = a := Option.some.inj ha
      have s5 := same_new (o := .tup [.int (i : Nat), b]) ntp
      obtain rfl : b = .int (ltr q0 c (j + i) : Nat) := by
        match i, (show i < 2 from hi) with
        | 0, _ => exact (Option.some.inj hb).symm
        | 1, _ => exact (Option.some.inj hb).symm
      refine ⟨tp, _, rfl, SqT.of upd_same, rfl, _, _, rfl, _, _, rfl, rfl, ?_⟩
      refine ⟨_, rfl, (fun _ => False), _, .int (ltr q0 c (j + i) : Nat), rfl, .int _, by simp [PyData.bulk], fun H5 s6 => ⟨true, rfl, iteF ?_⟩⟩
      refine ⟨_, rfl, _, rfl, _, q0, rfl, rfl, ⟨by omega, by omega⟩, _, rfl, _, rfl, j, i, rfl, rfl, rfl, false, ?_, iteF ⟨_, _, rfl, (s4.trans s5).trans s6, s6 _ _ (s5 _ _ hl)⟩⟩
      have e : ((ltr q0 c (j + i) : Nat) : Int).fdiv (q0 : Int) = (j : Int) + (i : Int) := by
        rw [Int.fdiv_eq_ediv_of_nonneg _ (by omega), ← Int.natCast_ediv, ltr_div q0p, Int.natCast_add]
      show V.bl (!decide (V.int (((ltr q0 c (j + i) : Nat) : Int).fdiv (q0 : Int)) = V.int ((j : Int) + (i : Int)))) = _
      rw [e]
      simp
    · rintro σ H3 ⟨o5, o6, rfl, s4, _⟩
      refine ⟨_, rfl, _, rfl, _, _, rfl, rfl, _, rfl, _, q0, rfl, rfl, by omega, ?_⟩
      have el := low_eq (q := q0) (c := c) (j := j) (by omega)
      have eh := high_eq (q := q0) (c := c) (j := j) (by omega) hc
      have hb := Nat.mod_lt c q0p
      refine ⟨_, rfl, _, rfl, _, rfl, ((c % q0 : Nat) : Int), j, congrArg V.int el, rfl, .inl ⟨by omega, by omega⟩, _, _, rfl, rfl, _, rfl, _, q0, rfl, rfl, by omega, ?_⟩
      have ha : c / q0 < q0 := Nat.div_lt_of_lt_mul hc
      refine ⟨_, rfl, _, rfl, ((c / q0 : Nat) : Int), q0, congrArg V.int eh, rfl, .inr ⟨by omega, by omega⟩, _, rfl, _, ((c % q0 : Nat) : Int), rfl, congrArg V.int el, ?_⟩
      have fin : ((c / q0 : Nat) : Int) * (q0 : Int) + ((c % q0 : Nat) : Int) = (c : Int) := by
        rw [← Int.natCast_mul, ← Int.natCast_add, Nat.mul_comm, Nat.div_add_mod]
      have z := q H3 s4
      rw [← fin] at z
      exact z
end
end Mo

/-! ### the letters whose marked pairs stand in a value -/
namespace Mo
open PySem PySem.Spec PyProof.Rows L2
section
variable {P : Program} {w : World} {K : PySem.W.Frag} {mg : Str → Option Value} {base : Heap}
/-- letters of a block of the avoiding text, by index -/
theorem blA_get {A : Nat → Nat} {s n j : Nat} (h : j < n) : ((intL (blA A s n)).map V.int)[j]? = some (.int ((A (s + j) : Nat) : Int)) := intL_at (blA_at h)
def spPnt : Sp := fun vs H Q _ => ∃ (n m s l : Nat) (tp : Addr), vs = [.int n, .int m, .int s, .ref tp] ∧ 1 ≤ n ∧ n ≤ 8 ∧ m + 2 ≤ qOf n ∧ 0 < l ∧ l ≤ 4096 ∧ H tp = some (.tup ((intL (blA (av (qOf n)) s l)).map V.int)) ∧ (∀ j, j * qOf n + m + 1 ≠ s + l) ∧
  ∀ H' p, Same H H' → H p = none → H' p = some (.tup ((intL (blA (av (qOf n)) (cei (qOf n) m s) (cei (qOf n) m (s + l) - cei (qOf n) m s))).map V.int)) → Q (.ref p) H'
theorem ok_pnt {k : Nat} (T : Txt K mg) : FnOk P w K mg base CX0 (k + 6) T.aParents T.dParents ["count", "mark", "start", "text"] spPnt := by
  have GModulus : FnOk P w K mg base CX0 (k + 5) T.aModulus T.dModulus ["count"] spMod := ok_mod T
  have GLetterOf : FnOk P w K mg base CX0 (k + 5) T.aLetterOf T.dLetterOf ["count", "index", "first", "second"] spOf0 := ok_of0 T
  refine T.fParents.ok scParents (fun vs H Q E h => ?_) (fun cdv A outer s H vs Q E hr h => ?_)
  · obtain ⟨_, _, _, _, _, rfl, _⟩ := h
    rfl
  · obtain ⟨n, m, st, l, tp, rfl, n1, n8, hm, l0, l1, htp, hcut, q⟩ := h
    refine ⟨_, (pss_cons (ps_set (i := 4) scParents.nd rfl (Or.inl rfl) (pe_call GModulus hr (by rfl) T.gModulus T.fModulus.kp T.bModulus .nil pass0 (pa_cons (pv 0) pa_nil)))
      (pss_cons (ps_set (i := 5) scParents.nd rfl (Or.inl rfl) (pe_op op_modN (pe_op op_sub (pv 1) (pv 2)) (pv 4)))
      (pss_one (ps_ret (pe_callTy call_tuple_of (by rfl) T.m_tuple (by decide +kernel) (pa_cons (pe_lc (own := [("at", 6)]) (g := gName 6) (tt := tYes) rfl scParents.nd (pi_range3 (by rfl) T.m_range (pa_cons (pv 5) (pa_cons (pe_op op_sub (pe_callB call_len_seq (by rfl) T.m_len PySem.boot_len (pa_cons (pv 3) pa_nil)) pe_int) (pa_cons (pv 4) pa_nil)))) (blkOk_by (N := ["count", "mark", "start", "text", "size", "first", "at"]) (sc := defScope sParents) (by decide +kernel)) (fun _ _ _ _ _ => pg_name (i := 6) scParents.nd rfl (Or.inl rfl)) (fun _ _ _ _ _ => pts_nil) (fun _ _ _ _ _ => (pe_call GLetterOf hr (by rfl) T.gLetterOf T.fLetterOf.kp T.bLetterOf .nil pass0 (pa_cons (pv 0) (pa_cons (pv 1) (pa_cons (pe_ix (Mo.ix_tupK (K := K) rfl) (pv 3) (pv 6) (fun _ _ => rfl)) (pa_cons (pe_ix (Mo.ix_tupK (K := K) rfl) (pv 3) (pe_op op_add (pv 6) pe_int) (fun _ _ => rfl)) pa_nil))))))) pa_nil)))))), ?_⟩
    obtain ⟨q1, q2, _⟩ := qOf_in n n1 n8
    refine ⟨_, rfl, n, rfl, n1, n8, fun H1 s1 => ?_⟩
    have q0p : 0 < qOf n := by omega
    obtain ⟨x, hx0, hx1, hx2⟩ := first_pair (q := qOf n) (m := m) (s := st) (by omega)
    have cnt := pair_count (q := qOf n) (m := m) (s := st) (l := l) (x := x) (by omega) hx2 l0 hcut
    obtain ⟨N, hN⟩ : ∃ N, N = cei (qOf n) m (st + l) - cei (qOf n) m st := ⟨_, rfl⟩
    rw [← hN] at cnt q
    refine ⟨_, rfl, _, rfl, _, _, rfl, rfl, _, rfl, _, (qOf n : Int), rfl, rfl, by omega, ?_⟩
    have htp1 := s1 _ _ htp
    have lenT : ((intL (blA (av (qOf n)) st l)).map V.int).length = l := by rw [List.length_map, intL_len, blA_len]
    refine ⟨_, rfl, _, rfl, tp, _, rfl, .inr (SqT.of htp1), _, 1, rfl, rfl, _, rfl, x, ((l : Nat) : Int) - 1, (qOf n : Int), N, (by show [V.int ((((m : Nat) : Int) - ((st : Nat) : Int)).fmod ((qOf n : Nat) : Int)), V.int ((((intL (blA (av (qOf n)) st l)).map V.int).length : Int) - 1), V.int ((qOf n : Nat) : Int)] = _; rw [hx0, lenT]), rgc_step q0p (by omega) (by omega) l0 cnt (by omega), fun D nD => lc_it walk_rangeC (fun i H' => Same H1 H' ∧ H' D = some (.lst ((intL (blA (av (qOf n)) (cei (qOf n) m st) i)).map V.int))) ?_ ?_ ?_ ?_⟩
    · exact ⟨same_new nD, upd_same⟩
    · exact fun _ _ _ _ => trivial
    · rintro i v H2 H2' hi ⟨s2, hD⟩ ⟨rfl, hv⟩
      have hv : v = .int ((x : Int) + (i : Nat) * (qOf n : Int)) := hv
      subst hv
      have hlt := (cnt i).mp hi
      have htp2 := s2 _ _ htp1
      have ei : (x : Int) + (i : Nat) * (qOf n : Int) = ((x + i * qOf n : Nat) : Int) := by rw [Int.natCast_add, Int.natCast_mul]
      have ej : ((x + i * qOf n : Nat) : Int) + 1 = ((x + i * qOf n + 1 : Nat) : Int) := by omega
      have ab : st + (x + i * qOf n) = (cei (qOf n) m st + i) * qOf n + m := by rw [Nat.add_mul]; omega
      have a1 := atI_nat (blA_get (A := av (qOf n)) (s := st) (n := l) (j := x + i * qOf n) (by omega))
      have a2 := atI_nat (blA_get (A := av (qOf n)) (s := st) (n := l) (j := x + i * qOf n + 1) (by omega))
      rw [ab, av_at (by omega) _ (by omega)] at a1
      rw [show st + (x + i * qOf n + 1) = (cei (qOf n) m st + i) * qOf n + (m + 1) by omega, av_at (by omega) _ (by omega)] at a2
      rw [ei]
      refine ⟨rfl, _, rfl, _, rfl, _, rfl, _, rfl, tp, _, _, _, rfl, rfl, SqT.of htp2, a1, _, rfl, _, rfl, _, 1, rfl, rfl, tp, _, _, _, rfl, congrArg V.int ej, SqT.of htp2, a2, ?_⟩
      have nl : N ≤ l := by
        rcases Nat.eq_zero_or_pos N with e | e
        · omega
        · have h1 := (cnt (N - 1)).mp (by omega)
          have h2 : N - 1 ≤ (N - 1) * qOf n := Nat.le_mul_of_pos_right _ q0p
          omega
      refine ⟨n, m, av (qOf n) (cei (qOf n) m st + i), rfl, n1, n8, hm, av_lt (by omega) _, fun H3 s3 => ⟨_, s3 _ _ hD, fitsLt (by rw [List.length_map, intL_len, blA_len]; omega), Same.put (s2.trans s3) nD, ?_⟩⟩
      rw [upd_same, ← blA_app (av (qOf n)) _ i 1, intL_app, List.map_append]
      rfl
    · rintro H2 ⟨s2, hD⟩
      exact ⟨D, _, rfl, .inl ⟨SqL.of hD, fun p np => q _ p ((s1.trans s2).trans (same_new np)) ((s1.trans s2).free np) upd_same⟩⟩
end
end Mo

/-! ### the values without a marked pair, grouped by their distance -/
namespace Mo
open PySem PySem.Spec PyProof.Rows L2
section
variable {P : Program} {w : World} {K : PySem.W.Frag} {mg : Str → Option Value} {base : Heap}
def spFrs : Sp := fun vs H Q _ => ∃ (nl sd : Addr) (q m : Nat) (nm ks : List Nat) (st : Nat → Nat), vs = [.ref nl, .int q, .int m, .ref sd] ∧ 0 < q ∧ q ≤ 100 ∧ m < q ∧ H nl = some (.lst (tzs (nm.map fun c => [c]))) ∧ nm.Nodup ∧ nm.length ≤ 8 ∧
  H sd = some (.dK (dk (oneD ks fun c => .int (st c : Nat)))) ∧ ks.Nodup ∧ (∀ c ∈ nm, c ∈ ks) ∧
  ∀ H' p (qs ds : List Nat), Same H H' → H p = none → H' p = some (.lst (tzs (ds.map (grpD (fun c => offq q m (st c)) qs)))) → qs.Perm nm → qs.Pairwise (· < ·) → ds.Pairwise (· > ·) → (∀ d, d ∈ ds ↔ ∃ x ∈ qs, offq q m (st x) = d) → Q (.ref p) H'
theorem grp_snoc (st : Nat → Nat) (l : List Nat) (c d : Nat) : grpD st (l ++ [c]) d = if d = st c then grpD st l d ++ [c] else grpD st l d := by
  unfold grpD
  rw [List.filter_append]
  by_cases h : d = st c
  · rw [if_pos h, List.filter_cons_of_pos (by simp [h])]
    rfl
  · rw [if_neg h, List.filter_cons_of_neg (by simp; exact fun z => h z.symm)]
    exact List.append_nil _
theorem grp_len (st : Nat → Nat) (l : List Nat) (d : Nat) : (grpD st l d).length ≤ l.length := List.length_filter_le _ _
theorem ok_frs {k : Nat} (T : Txt K mg) : FnOk P w K mg base CX0 (k + 1) T.aFreeSteps T.dFreeSteps ["names", "size", "mark", "starts"] spFrs := by
  refine T.fFreeSteps.ok scFreeSteps (fun vs H Q E h => ?_) (fun cdv A outer s H vs Q E hr h => ?_)
  · obtain ⟨_, _, _, _, _, _, _, rfl, _⟩ := h
    rfl
  · obtain ⟨nl, sd, qq, m, nm, ks, st, rfl, q0, q1, hm, hnl, nmd, n8, hsd, ksd, inn, q⟩ := h
    refine ⟨_, (pss_cons (ps_set (i := 4) scFreeSteps.nd rfl (Or.inr rfl) pe_dnewK)
      (pss_cons (ps_for PassesOwn.never rfl (pi_list (pe_callB Mo.cr_sortStr (by rfl) T.m_sorted (by decide +kernel) (pa_cons (pv 0) pa_nil))) (pg_name (i := 5) scFreeSteps.nd rfl (Or.inl rfl)) (pss_cons (ps_set (i := 6) scFreeSteps.nd rfl (Or.inl rfl) (pe_op op_modN (pe_op op_sub (pe_op op_sub (pe_dget (Mo.room1 hr) (pv 3) (pv 5) (fun _ _ => rfl)) (pv 2)) pe_int) (pv 1)))
      (pss_one (ps_dput (Mo.room1 hr) (pv 4) (pv 6) (pe_op op_add_str (pe_dget2 (Mo.room1 hr) (pv 4) (pv 6) pe_str ⟨rfl, rfl, rfl, rfl⟩) (pv 5)) rfl))))
      (pss_one (ps_ret (pe_lc (own := [("distance", 6)]) (g := gName 6) (tt := tYes) rfl scFreeSteps.nd (pi_list (pe_callBK (Mo.cr_sortDiR (b := true) rfl) (by rfl) T.m_sorted (by decide +kernel) (pa_cons (pv 4) pa_nil) (pk_cons pe_bl pk_nil))) (blkOk_by (N := ["names", "size", "mark", "starts", "groups", "name", "distance"]) (sc := defScope sFreeSteps) (by decide +kernel)) (fun _ _ _ _ _ => pg_name (i := 6) scFreeSteps.nd rfl (Or.inl rfl)) (fun _ _ _ _ _ => pts_nil) (fun _ _ _ _ _ => (pe_dget (Mo.room1 hr) (pv 4) (pv 6) (fun _ _ => rfl)))))))), ?_⟩
    intro G nG
    have sG := same_new (o := HO.dK []) nG
    have hnl0 := sG _ _ hnl
    have hsd0 := sG _ _ hsd
    have hG0 := upd_same (H := H) (a := G) (o := HO.dK [])
    generalize upd H G (.dK []) = H0 at *
    refine ⟨_, rfl, ?_⟩
    refine ⟨nl, (nm.map fun c => [c]).map tx, rfl, SqL.of (by rw [← tzs_strs]; exact hnl0), fun zs R pm pw nR => ?_⟩
    obtain ⟨ls, rfl, pls, srt⟩ := tzs_sort pm pw
    refine ⟨R, rfl, ⟨_, SqL.of upd_same⟩, ?_⟩
    obtain ⟨qs, rfl, pq, aq⟩ := sing_sorted pls srt nmd
    have sR := same_new (o := .lst (((qs.map fun c => [c]).map tx).map V.str)) nR
    have hR : upd H0 R (.lst (((qs.map fun c => [c]).map tx).map V.str)) R = some (.lst (tzs (qs.map fun c => [c]))) := by rw [upd_same, tzs_strs]
    rw [← tzs_strs] at hR sR ⊢
    have hsd1 := sR _ _ hsd0
    have hG1 := sR _ _ hG0
    have s1 := sG.trans sR
    have GR : G ≠ R := fun z => by rw [z, nR] at hG0; cases hG0
    generalize upd H0 R (.lst (tzs (qs.map fun c => [c]))) = H1 at *
    have ql : qs.length ≤ 8 := by rw [pq.length_eq]; exact n8
    have sdG : sd ≠ G := fun z => by rw [z, nG] at hsd; cases hsd
    refine for_it (walk_list (xs := tzs (qs.map fun c => [c]))) (fun i σ H' => ∃ o5 o6 : Option V, σ = [some (.ref nl), some (.int (qq : Nat)), some (.int (m : Nat)), some (.ref sd), some (.ref G), o5, o6] ∧ Same H H' ∧ H' R = some (.lst (tzs (qs.map fun c => [c]))) ∧
      H' G = some (.dK (numD (met ((qs.map fun c => offq qq m (st c)).take i)) fun d => .str (tx (grpD (fun c => offq qq m (st c)) (qs.take i) d))))) ?_ ?_ ?_ ?_
    · exact ⟨none, none, rfl, s1, hR, hG1⟩
    · exact fun i σ H' _ ⟨_, _, _, _, h, _⟩ => SqL.of h
    · rintro i x σ H2 H2' hi ⟨o5, o6, rfl, s2, hR2, hG2⟩ ⟨rfl, hx⟩
      obtain ⟨c, hc, rfl⟩ : ∃ c, qs[i]? = some c ∧ x = sg c := by
        obtain ⟨l, hl, e⟩ := tzu_gt hx
        rw [List.getElem?_map] at hl
        obtain ⟨c, hc, rfl⟩ := Option.map_eq_some_iff.mp hl
        exact ⟨c, hc, by first | exact e | exact e.symm⟩
      have hcq := List.mem_of_getElem? hc
      have gd := dget_t (p := [c]) (s2 _ _ hsd)
      rw [one_get ksd (inn c (pq.mem_iff.mp hcq))] at gd
      refine ⟨_, rfl, _, rfl, sd, _, rfl, gd, _, rfl, _, _, rfl, rfl, _, 1, rfl, rfl, _, rfl, _, (qq : Int), rfl, rfl, by omega, ?_⟩
      have ed := dist_off (q := qq) (m := m) (p := st c) hm
      have ml : (met ((qs.map fun c => offq qq m (st c)).take i)).length ≤ 8 := Nat.le_trans (met_length_le _) (by rw [List.length_take, List.length_map]; omega)
      have gg : DGet H2' G (.int ((((st c : Nat) : Int) - (m : Int) - 1).fmod (qq : Int))) (if offq qq m (st c) ∈ met ((qs.map fun c => offq qq m (st c)).take i) then some (.str (tx (grpD (fun c => offq qq m (st c)) (qs.take i) (offq qq m (st c))))) else none) := by
        have g := DGet.k (k := Sum.inl ((((st c : Nat) : Int) - (m : Int) - 1).fmod (qq : Int))) hG2
        rw [ed, num_get] at g
        rw [ed]
        exact g
      have eg : (if offq qq m (st c) ∈ met ((qs.map fun c => offq qq m (st c)).take i) then some (V.str (tx (grpD (fun c => offq qq m (st c)) (qs.take i) (offq qq m (st c))))) else none).getD (.str (Str.ofString "")) = .str (tx (grpD (fun c => offq qq m (st c)) (qs.take i) (offq qq m (st c)))) := by
        by_cases h : offq qq m (st c) ∈ met ((qs.map fun c => offq qq m (st c)).take i)
        · rw [if_pos h]
          rfl
        · rw [if_neg h]
          have : grpD (fun c => offq qq m (st c)) (qs.take i) (offq qq m (st c)) = [] := by
            unfold grpD
            refine List.filter_eq_nil_iff.mpr fun x hx z => h ?_
            rw [mem_met, ← List.map_take, ← of_decide_eq_true z]
            exact List.mem_map.mpr ⟨x, hx, rfl⟩
          rw [this, ← tx_nil]
          rfl
      refine ⟨_, rfl, G, rfl, .inl ⟨_, .inl hG2⟩, _, rfl, _, gg, _, rfl, _, _, eg, rfl, fits5 (by rw [tx_len]; have := grp_len (fun c => offq qq m (st c)) (qs.take i) (offq qq m (st c)); rw [List.length_take] at this; show _ + 1 ≤ _; omega), _, rfl, _, rfl, G, _, rfl, DPut.k (k := Sum.inl ((((st c : Nat) : Int) - (m : Int) - 1).fmod (qq : Int))) hG2 (fitsLt (by rw [num_len]; omega)), ?_⟩
      refine ⟨_, _, rfl, Same.put s2 nG, by rw [upd_ne GR.symm]; exact hR2, ?_⟩
      rw [upd_same, ed, num_put, met_take_snoc (show (qs.map fun c => offq qq m (st c))[i]? = some (offq qq m (st c)) by rw [List.getElem?_map, hc]; rfl)]
      unfold numD
      refine congrArg (fun z => some (HO.dK z)) (List.map_congr_left fun d hd => ?_)
      dsimp only
      rw [List.take_add_one, hc, show (some c).toList = [c] from rfl, grp_snoc]
      by_cases h : d = offq qq m (st c)
      · rw [if_pos h, if_pos h, h]
        rw [tx_app1]
      · rw [if_neg h, if_neg h]
    · rintro σ H2 ⟨o5, o6, rfl, s2, hR2, hG2⟩
      rw [show (tzs (qs.map fun c => [c])).length = qs.length by rw [tzu_ln, List.length_map], List.take_of_length_le (by rw [List.length_map]; exact Nat.le_refl _), List.take_length] at hG2
      have ml : (met (qs.map fun c => offq qq m (st c))).length ≤ 8 := Nat.le_trans (met_length_le _) (by rw [List.length_map]; omega)
      refine ⟨_, rfl, G, _, (met (qs.map fun c => offq qq m (st c))).map fun d => ((d : Nat) : Int), rfl, rfl, hG2, num_keys _ _, fun ns' S pns oS nS => ⟨S, rfl, ⟨_, SqL.of upd_same⟩, ?_⟩⟩
      obtain ⟨ds, pds, rfl⟩ := perm_of_map pns rfl
      have sS := same_new (o := .lst ((ds.map fun d => ((d : Nat) : Int)).map V.int)) nS
      have hS := upd_same (H := H2) (a := S) (o := .lst ((ds.map fun d => ((d : Nat) : Int)).map V.int))
      have hG3 := sS _ _ hG2
      have s3 := s2.trans sS
      generalize upd H2 S (.lst ((ds.map fun d => ((d : Nat) : Int)).map V.int)) = H3 at *
      have dnd : ds.Nodup := pds.nodup_iff.mpr (met_nodup _)
      have dl : ds.length ≤ 8 := by rw [pds.length_eq]; exact ml
      have dpw : ds.Pairwise (· > ·) := by
        have o1 : (ds.map fun d => ((d : Nat) : Int)).Pairwise (· ≥ ·) := oS
        rw [List.pairwise_map] at o1
        refine List.Pairwise.imp (fun {a b} h => ?_) (o1.and dnd)
        have h1 := h.1
        have h2 := h.2
        omega
      refine fun D nD => lc_it (walk_list (xs := (ds.map fun d => ((d : Nat) : Int)).map V.int)) (fun i H' => Same H3 H' ∧ H' D = some (.lst (tzs ((ds.take i).map (grpD (fun c => offq qq m (st c)) qs))))) ?_ ?_ ?_ ?_
      · exact ⟨same_new nD, upd_same⟩
      · exact fun i H' _ h => SqL.of (h.1 _ _ hS)
      · rintro i x H4 H4' hi ⟨s4, hD⟩ ⟨rfl, hx⟩
        rw [List.getElem?_map, List.getElem?_map] at hx
        obtain ⟨y, hy, rfl⟩ := Option.map_eq_some_iff.mp hx
        obtain ⟨d, hd, rfl⟩ := Option.map_eq_some_iff.mp hy
        have g := DGet.k (k := Sum.inl ((d : Nat) : Int)) (s4 _ _ hG3)
        rw [num_get, if_pos (pds.mem_iff.mp (List.mem_of_getElem? hd))] at g
        refine ⟨rfl, _, rfl, _, rfl, G, _, rfl, g, _, hD, fitsLt (by rw [tzu_ln, List.length_map, List.length_take]; omega), Same.put s4 nD, ?_⟩
        rw [upd_same, List.take_add_one, hd]
        unfold tzs
        rw [List.map_append, List.map_append]
        rfl
      · rintro H4 ⟨s4, hD⟩
        rw [List.length_map, List.length_map, List.take_length] at hD
        refine q H4 D qs ds (s3.trans s4) ((s3).free nD) hD pq aq dpw fun d => ?_
        rw [pds.mem_iff, mem_met, List.mem_map]
end
end Mo


namespace Mo
open PySem PySem.Spec PyProof.Rows L2
section
variable {P : Program} {w : World} {K : PySem.W.Frag} {mg : Str → Option Value} {base : Heap}
def spCheckV0 : Sp := fun vs H Q _ => ∃ ls : List Nat, vs = [.str (tx ls)] ∧ ls = vset ls ∧ ∀ H', Same H H' → Q .non H'
theorem ok_checkV0 {k : Nat} (T : Txt K mg) : FnOk P w K mg base CX0 (k + 2) T.aCheckVariableSet T.dCheckVariableSet ["value"] spCheckV0 := by
  have GIsVariableSet : FnOk P w K mg base CX0 (k + 1) T.aIsVariableSet T.dIsVariableSet ["value"] (spIsVS K) := ok_isVS T
  refine T.fCheckVariableSet.ok scCheckVariableSet (fun vs H Q E h => ?_) (fun cdv A outer s H vs Q E hr h => ?_)
  · obtain ⟨_, rfl, _⟩ := h
    rfl
  · obtain ⟨ls, rfl, hv, q⟩ := h
    refine ⟨_, (pss_one (ps_if (pt_not (pt_val (pe_call GIsVariableSet hr (by rfl) T.gIsVariableSet T.fIsVariableSet.kp T.bIsVariableSet .nil pass0 (pa_cons (pv 0) pa_nil)))) (pss_one ps_never) pss_nil)), ?_⟩
    refine ⟨_, rfl, _, rfl, .inl ⟨ls, rfl, fun H1 s1 => ?_⟩⟩
    rw [← hv]
    exact ⟨true, congrArg V.bl (decide_eq_true rfl), iteF (q H1 s1)⟩
/-- delete(pattern, letters) of a variable set -/
def spDel0 : Sp := fun vs H Q _ => ∃ cs ls : List Nat, vs = [.str (tx cs), .str (tx ls)] ∧ Pat cs ∧ ls = vset ls ∧ ∀ H', Same H H' → Q (.str (tx (wo cs ls))) H'
theorem ok_del0 {k : Nat} (T : Txt K mg) : FnOk P w K mg base CX0 (k + 3) T.aDelete T.dDelete ["pattern", "letters"] spDel0 := by
  have GCheckPattern : FnOk P w K mg base CX0 (k + 2) T.aCheckPattern T.dCheckPattern ["value"] spCheck := ok_check T
  have GCheckVariableSet : FnOk P w K mg base CX0 (k + 2) T.aCheckVariableSet T.dCheckVariableSet ["value"] spCheckV0 := ok_checkV0 T
  refine T.fDelete.ok scDelete (fun vs H Q E h => ?_) (fun cdv A outer s H vs Q E hr h => ?_)
  · obtain ⟨_, _, rfl, _⟩ := h
    rfl
  · obtain ⟨cs, ls, rfl, pat, hv, q⟩ := h
    have hlen := pat.len
    refine ⟨_, (pss_cons (ps_expr (pe_call GCheckPattern hr (by rfl) T.gCheckPattern T.fCheckPattern.kp T.bCheckPattern .nil pass0 (pa_cons (pv 0) pa_nil)))
      (pss_cons (ps_expr (pe_call GCheckVariableSet hr (by rfl) T.gCheckVariableSet T.fCheckVariableSet.kp T.bCheckVariableSet .nil pass0 (pa_cons (pv 1) pa_nil)))
      (pss_one (ps_ret (pe_join pe_str (pe_lc (own := [("name", 2)]) (g := gName 2) rfl scDelete.nd (pi_str (pv 0)) (blkOk_by (N := ["pattern", "letters", "name"]) (sc := defScope sDelete) (by decide +kernel)) (fun _ _ _ _ _ => pg_name (i := 2) scDelete.nd rfl (Or.inl rfl)) (fun _ _ _ _ _ => pts_one (pt_cmpR op_notIn_sign (pv 2) (pv 1) rfl)) (fun _ _ _ _ _ => (pv 2)))))))), ?_⟩
    refine ⟨_, rfl, cs, rfl, pat, fun H1 s1 => ⟨_, rfl, ls, rfl, hv, fun H2 s2 => ?_⟩⟩
    refine ⟨⟨_, rfl⟩, _, rfl, tx cs, rfl, fun D nD => lc_it walk_str (fun i H' => Same H2 H' ∧ H' D = some (.lst (((cs.take i).filter fun c => !decide (c ∈ ls)).map sg))) ?_ ?_ ?_ ?_⟩
    · exact ⟨same_new nD, upd_same⟩
    · exact fun _ _ _ _ => trivial
    · rintro i x H3 H4 hi ⟨s3, hD⟩ ⟨rfl, c, hc, rfl⟩
      rw [tx_get] at hc
      have hlt : i < cs.length := (List.getElem?_eq_some_iff.mp hc).1
      have hfl : ((cs.take i).filter fun c => !decide (c ∈ ls)).length ≤ 40 := Nat.le_trans (List.length_filter_le _ _) (by rw [List.length_take]; omega)
      refine ⟨rfl, _, rfl, _, rfl, c, _, rfl, rfl, _, rfl, ?_⟩
      rw [tx_list]
      refine ite2 (fun e => ?_) (fun e => ?_)
      · refine ⟨_, rfl, _, hD, fitsLt (by rw [List.length_map]; omega), Same.put s3 nD, ?_⟩
        rw [upd_same, filter_snoc hc, if_pos e, List.map_append]
        rfl
      · refine ⟨s3, ?_⟩
        rw [hD, filter_snoc hc, if_neg e, List.append_nil]
    · rintro H3 ⟨s3, hD⟩
      rw [List.take_of_length_le (by rw [tx_size]; exact Nat.le_refl _)] at hD
      have hfl : (wo cs ls).length ≤ 40 := Nat.le_trans (List.length_filter_le _ _) hlen
      refine ⟨_, D, (wo cs ls).map fun c => (⟨#[c]⟩ : Str), rfl, rfl, .inl (SqL.of (by rw [← sgs_map]; exact hD)), sgs_room (by omega), ?_⟩
      rw [join_signs]
      exact q H3 ((s1.trans s2).trans s3)
end
end Mo

/-! ### one descent as the program makes it -/
namespace Mo
open PySem PySem.Spec PyProof.Rows L2
section
variable {A : Nat → Nat} {q m s : Nat} {g : Nat → List Nat} {cs : List Nat}
/-- what a value becomes, and what is left -/
def inn (A : Nat → Nat) (q m s : Nat) (g : Nat → List Nat) (cs : List Nat) (c : Nat) : List Nat := blA A (cei q m (staN s g cs c)) (cei q m (staN s g cs c + (g c).length) - cei q m (staN s g cs c))
def rst (A : Nat → Nat) (q m s : Nat) (g : Nat → List Nat) (cs : List Nat) : List Nat := cs.filter fun c => !decide (inn A q m s g cs c = [])
/-- nothing is cut behind the mark -/
def Unct (q m s : Nat) (g : Nat → List Nat) (cs : List Nat) : Prop := ∀ c ∈ cs, staN s g cs c % q ≠ m + 1 ∧ (staN s g cs c + (g c).length) % q ≠ m + 1
theorem once_math (hm : m + 1 < q) (hA : ∀ i, A i / q = i % q) (hB : ∀ x y, A (x * q + m) = A (y * q + m) → A (x * q + m + 1) = A (y * q + m + 1) → A x = A y) (pl : PlA A s g cs) (hf : ∀ c ∈ cs, g c ≠ []) (cut : Unct q m s g cs) {qs ds : List Nat}
    (pq : qs.Perm ((met cs).filter fun c => decide (inn A q m s g cs c = []))) (aq : qs.Pairwise (· < ·)) (dpw : ds.Pairwise (· > ·)) (hx : ∀ d, d ∈ ds ↔ ∃ x ∈ qs, offq q m (staN s g cs x) = d) :
    Steps cs (ds.map (grpD (fun c => offq q m (staN s g cs c)) qs)) (rst A q m s g cs) ∧ PlA A (cei q m s) (inn A q m s g cs) (rst A q m s g cs) :=
  descent (ds := ds) (nm := qs) hm hA hB pl hf (fun c hc => off_of_ne hm (cut c hc).1) (fun c hc => off_of_ne hm (cut c hc).2) aq (fun x => by
    rw [pq.mem_iff, List.mem_filter, mem_met, decide_eq_true_eq]
    exact Iff.rfl) dpw fun d => by
    rw [hx]
    constructor
    · rintro ⟨x, h1, h2⟩
      exact ⟨x, h1, h2⟩
    · rintro ⟨x, h1, h2⟩
      exact ⟨x, h1, h2⟩
theorem once_less (hm : m + 1 < q) (hA : ∀ i, A i / q = i % q) (hB : ∀ x y, A (x * q + m) = A (y * q + m) → A (x * q + m + 1) = A (y * q + m + 1) → A x = A y) (pl : PlA A s g cs) (hf : ∀ c ∈ cs, g c ≠ []) (cut : Unct q m s g cs) (ne : cs ≠ []) :
    ((rst A q m s g cs).flatMap (inn A q m s g cs)).length < (cs.flatMap g).length := by
  have hi : ∀ c ∈ cs, inO q m s g cs c ≠ 0 := fun c hc => off_of_ne hm (cut c hc).1
  have ho : ∀ c ∈ cs, fiO q m s g cs c ≠ 0 := fun c hc => off_of_ne hm (cut c hc).2
  have hc : ∀ j, j * q + m + 1 ≠ s + (cs.flatMap g).length := fun j e => by
    obtain ⟨a, l, hal⟩ : ∃ a l, cs = a ++ [l] := ⟨cs.dropLast, cs.getLast ne, (List.dropLast_concat_getLast _).symm⟩
    have ml : l ∈ cs := by rw [hal]; simp
    obtain ⟨b1, s1⟩ := before_split ml
    have r1 := PlA.res (q := q) hA (a := before cs l) (b := b1) (a' := a) (b' := []) (c := l) (f := g) (s := s) (by rw [← s1]; exact pl) (s1.symm.trans hal) (hf _ ml)
    refine ho l ml ?_
    have z := offq_res (m := m) (k := (g l).length) r1
    unfold fiO
    rw [z]
    have e3 : s + (a.flatMap g).length + (g l).length = s + (cs.flatMap g).length := by rw [hal, List.flatMap_append, List.length_append]; simp; omega
    rw [e3, ← e]
    unfold offq
    rw [show j * q + m + 1 + (q - 1 - m) = q + j * q by omega, Nat.add_mul_mod_self_right, Nat.mod_self]
  have hpos : 0 < (cs.flatMap g).length := by
    cases cs with
    | nil => exact absurd rfl ne
    | cons c t =>
      rw [List.flatMap_cons, List.length_append]
      have := List.length_pos_iff.mpr (hf c List.mem_cons_self)
      omega
  have less := cei_less hm hpos hc
  have p := inr_place hm hA hB pl hf (fun c mc => not_cut hm (ho c mc)) cs [] rfl
  show ((cs.filter fun c => !decide (inrA A q m s g cs c = [])).flatMap (inrA A q m s g cs)).length < _
  rw [flat_keep, p, blA_len]
  simp only [List.flatMap_nil, List.length_nil, Nat.add_zero]
  exact less
theorem rst_mem {c : Nat} (h : c ∈ rst A q m s g cs) : c ∈ cs ∧ inn A q m s g cs c ≠ [] := by
  have := List.mem_filter.mp h
  exact ⟨this.1, by simpa using this.2⟩
/-- where a value stands it is a block -/
theorem place_blk (pl : PlA A s g cs) {c : Nat} (hc : c ∈ cs) : g c = blA A (staN s g cs c) (g c).length := by
  obtain ⟨b, hb⟩ := before_split hc
  exact PlA.occ (A := A) (s := s) (f := g) (a := before cs c) (b := b) (c := c) (by rw [← hb]; exact pl)
theorem rst_wo {qs : List Nat} (pq : qs.Perm ((met cs).filter fun c => decide (inn A q m s g cs c = []))) : rst A q m s g cs = wo cs qs := by
  unfold rst wo
  refine List.filter_congr fun c hc => ?_
  have e : c ∈ qs ↔ inn A q m s g cs c = [] := by
    rw [pq.mem_iff, List.mem_filter, mem_met, decide_eq_true_eq]
    exact ⟨fun h => h.2, fun h => ⟨hc, h⟩⟩
  by_cases h : inn A q m s g cs c = []
  · rw [decide_eq_true h, decide_eq_true (e.mpr h)]
  · rw [decide_eq_false h, decide_eq_false (fun z => h (e.mp z))]
theorem cei_le {q m s : Nat} (hm : m < q) : cei q m s ≤ s := by
  unfold cei
  have h0 : 0 < q := by omega
  rcases Nat.eq_zero_or_pos s with e | e
  · rw [e, Nat.div_eq_of_lt (by omega)]
    exact Nat.le_refl _
  · refine Nat.le_of_lt_succ ((Nat.div_lt_iff_lt_mul h0).mpr ?_)
    have := Nat.le_mul_of_pos_right s h0
    show s + (q - 1 - m) < (s + 1) * q
    rw [Nat.succ_mul]
    omega
end
/-- the groups hold what was grouped -/
theorem grp_flat (st : Nat → Nat) : ∀ (ds qs : List Nat), ds.Nodup → (∀ x ∈ qs, st x ∈ ds) → ((ds.map (grpD st qs)).flatten).Perm qs
  | [], qs, _, h => by
    have e : qs = [] := List.eq_nil_iff_forall_not_mem.mpr fun x hx => absurd (h x hx) (by simp)
    rw [e]
    exact .nil
  | d :: ds, qs, nd, h => by
    have nd2 := List.nodup_cons.mp nd
    have ih := grp_flat st ds (qs.filter fun x => !decide (st x = d)) nd2.2 fun x hx => by
      have h1 := List.mem_filter.mp hx
      have h2 : st x ≠ d := by simpa using h1.2
      exact (List.mem_cons.mp (h x h1.1)).resolve_left h2
    have e : ds.map (grpD st (qs.filter fun x => !decide (st x = d))) = ds.map (grpD st qs) := by
      refine List.map_congr_left fun e he => ?_
      unfold grpD
      rw [List.filter_filter]
      refine List.filter_congr fun x _ => ?_
      by_cases z : st x = e
      · have : st x ≠ d := fun y => nd2.1 (y ▸ z ▸ he)
        rw [decide_eq_true z, decide_eq_false this]
        rfl
      · rw [decide_eq_false z]
        rfl
    rw [e] at ih
    rw [List.map_cons, List.flatten_cons]
    refine (List.Perm.append_left _ ih).trans ?_
    exact List.filter_append_perm (fun x => decide (st x = d)) qs
/-- letters in order, out of a text with them in any order -/
theorem sorted_signs {t qs : List Nat} (p : t.Perm qs) (aq : qs.Pairwise (· < ·)) {zs : List Str} (pz : zs.Perm ((tx t).cps.toList.map fun c => (⟨#[c]⟩ : Str))) (o : zs.Pairwise fun x y => sltB y x = false) : zs = qs.map fun c => (⟨#[c]⟩ : Str) := by
  rw [tx_list] at pz
  obtain ⟨us, pu, rfl⟩ := perm_of_map pz rfl
  have pu2 := pu.trans p
  rw [List.pairwise_map] at o
  have nd : us.Nodup := pu2.nodup_iff.mpr (aq.imp fun h => Nat.ne_of_lt h)
  have as : us.Pairwise (· < ·) := List.Pairwise.imp (fun {a b} h => by
    have h1 : sltB (ch1 b) (ch1 a) = false := h.1
    rw [slt_ch] at h1
    have := of_decide_eq_false h1
    have := h.2
    omega) (o.and nd)
  rw [asc_ext us qs as aq fun x => pu2.mem_iff]
end Mo

/-! ### descend_once -/
namespace Mo
open PySem PySem.Spec PyProof.Rows L2
theorem av_res {q : Nat} (hq : 2 ≤ q) (i : Nat) : av q i / q = i % q := by
  rw [av_step hq, ltr_div (by omega)]
theorem av_two {q m : Nat} (hq : 2 ≤ q) (hm : m + 1 < q) (x y : Nat) (h1 : av q (x * q + m) = av q (y * q + m)) (h2 : av q (x * q + m + 1) = av q (y * q + m + 1)) : av q x = av q y := by
  rw [av_at hq _ (by omega), av_at hq _ (by omega)] at h1
  rw [Nat.add_assoc, Nat.add_assoc, av_at hq _ hm, av_at hq _ hm] at h2
  have a := low_eq (q := q) (c := av q x) (j := m) hq
  have b := low_eq (q := q) (c := av q y) (j := m) hq
  rw [h1, h2, b] at a
  have e1 : av q x % q = av q y % q := by omega
  have c := high_eq (q := q) (c := av q x) (j := m) hq (av_lt hq x)
  have d := high_eq (q := q) (c := av q y) (j := m) hq (av_lt hq y)
  rw [h1, e1, d] at c
  have e2 : av q x / q = av q y / q := by omega
  rw [← Nat.div_add_mod (av q x) q, ← Nat.div_add_mod (av q y) q, e1, e2]
section
variable {P : Program} {w : World} {K : PySem.W.Frag} {mg : Str → Option Value} {base : Heap}
/-- a place of cs in the avoiding text for n, its values at a -/
structure Spot (H : Hp) (a : Addr) (n s : Nat) (cs ns : List Nat) (ad : Nat → Addr) (g : Nat → List Nat) : Prop where
  va : VsAt H a ns ad (fun c => intL (g c))
  nd : ns.Nodup
  sub : ∀ c ∈ cs, c ∈ ns
  ne : ∀ c ∈ cs, g c ≠ []
  pl : PlA (av (qOf n)) s g cs
  len : (cs.flatMap g).length ≤ 4096
theorem Spot.same {H H' : Hp} {a : Addr} {n s : Nat} {cs ns : List Nat} {ad : Nat → Addr} {g : Nat → List Nat} (h : Spot H a n s cs ns ad g) (e : Same H H') : Spot H' a n s cs ns ad g := ⟨h.va.same e, h.nd, h.sub, h.ne, h.pl, h.len⟩
def spOnc : Sp := fun vs H Q _ => ∃ (n s : Nat) (cs : List Nat) (p a : Addr) (ns : List Nat) (ad : Nat → Addr) (g : Nat → List Nat), vs = [.int n, .str (tx cs), .ref p] ∧ 1 ≤ n ∧ n ≤ 8 ∧ Pat cs ∧ cs ≠ [] ∧ (met cs).length ≤ n ∧ H p = some (.tup [.int s, .ref a]) ∧ Spot H a n s cs ns ad g ∧
  ∀ H' (r l p2 a2 : Addr) (v : List (List Nat)) (rest : List Nat) (s2 : Nat) (ad2 : Nat → Addr) (g2 : Nat → List Nat), Same H H' → H r = none → H l = none → H' r = some (.tup [.ref l, .str (tx rest), .ref p2]) → H' l = some (.lst (tzs v)) → Steps cs v rest → (∀ c ∈ rest, c ∈ cs) →
    H' p2 = some (.tup [.int s2, .ref a2]) → (rest = [] → s2 = 0 ∧ H' a2 = some (.dK [])) → (rest ≠ [] → Spot H' a2 n s2 rest (met rest) ad2 g2 ∧ (rest.flatMap g2).length < (cs.flatMap g).length ∧ s2 ≤ s) → Q (.ref r) H'
theorem ok_onc {k : Nat} (T : Txt K mg) : FnOk P w K mg base CX0 (k + 7) T.aDescendOnce T.dDescendOnce ["count", "pattern", "place"] spOnc := by
  have GModulus : FnOk P w K mg base CX0 (k + 6) T.aModulus T.dModulus ["count"] spMod := ok_mod T
  have GValueStarts : FnOk P w K mg base CX0 (k + 6) T.aValueStarts T.dValueStarts ["pattern", "start", "values"] spVst := ok_vst T
  have GUncutIndex : FnOk P w K mg base CX0 (k + 6) T.aUncutIndex T.dUncutIndex ["size", "starts", "values"] spUnc := ok_unc T
  have GParents : FnOk P w K mg base CX0 (k + 6) T.aParents T.dParents ["count", "mark", "start", "text"] spPnt := ok_pnt T
  have GFreeSteps : FnOk P w K mg base CX0 (k + 6) T.aFreeSteps T.dFreeSteps ["names", "size", "mark", "starts"] spFrs := ok_frs T
  have GDelete : FnOk P w K mg base CX0 (k + 6) T.aDelete T.dDelete ["pattern", "letters"] spDel0 := ok_del0 T
  have GVariables : FnOk P w K mg base CX0 (k + 6) T.aVariables T.dVariables ["pattern"] spVars := ok_vars T
  refine T.fDescendOnce.ok scDescendOnce (fun vs H Q E h => ?_) (fun cdv A outer s H vs Q E hr h => ?_)
  · obtain ⟨_, _, _, _, _, _, _, _, rfl, _⟩ := h
    rfl
  · obtain ⟨n, st, cs, p, a, ns, ad, g, rfl, n1, n8, pat, ne, few, hp, sp, q⟩ := h
    refine ⟨_, (pss_cons (ps_asg (pv 2) (pg_tup (by rfl) (pgs_cons (pg_name (i := 3) scDescendOnce.nd rfl (Or.inl rfl)) (pgs_cons (pg_name (i := 4) scDescendOnce.nd rfl (Or.inr rfl)) pgs_nil))))
      (pss_cons (ps_set (i := 5) scDescendOnce.nd rfl (Or.inl rfl) (pe_call GModulus hr (by rfl) T.gModulus T.fModulus.kp T.bModulus .nil pass0 (pa_cons (pv 0) pa_nil)))
      (pss_cons (ps_set (i := 6) scDescendOnce.nd rfl (Or.inr rfl) (pe_call GValueStarts hr (by rfl) T.gValueStarts T.fValueStarts.kp T.bValueStarts .nil pass0 (pa_cons (pv 1) (pa_cons (pv 3) (pa_cons (pv 4) pa_nil)))))
      (pss_cons (ps_set (i := 7) scDescendOnce.nd rfl (Or.inr rfl) (pe_call GUncutIndex hr (by rfl) T.gUncutIndex T.fUncutIndex.kp T.bUncutIndex .nil pass0 (pa_cons (pv 5) (pa_cons (pv 6) (pa_cons (pv 4) pa_nil)))))
      (pss_cons (ps_set (i := 8) scDescendOnce.nd rfl (Or.inr rfl) (pe_lock (pe_dc (own := [("name", 9)]) (g := gName 9) (tt := tYes) rfl scDescendOnce.nd (pi_keys (pv 6)) (blkOk_by (N := ["count", "pattern", "place", "start", "values", "size", "starts", "mark", "inner", "name", "steps", "rest"]) (sc := defScope sDescendOnce) (by decide +kernel)) (fun _ _ _ _ _ => pg_name (i := 9) scDescendOnce.nd rfl (Or.inl rfl)) (fun _ _ _ _ _ => pts_nil) (fun _ _ _ _ _ => (pv 9)) (fun _ _ _ _ _ => (pe_call GParents hr (by rfl) T.gParents T.fParents.kp T.bParents .nil pass0 (pa_cons (pv 0) (pa_cons (pv 7) (pa_cons (pe_dget (Mo.room1 hr) (pv 6) (pv 9) (fun _ _ => rfl)) (pa_cons (pe_dget (Mo.room1 hr) (pv 4) (pv 9) (fun _ _ => rfl)) pa_nil)))))))))
      (pss_cons (ps_set (i := 10) scDescendOnce.nd rfl (Or.inl rfl) (pe_call GFreeSteps hr (by rfl) T.gFreeSteps T.fFreeSteps.kp T.bFreeSteps .nil pass0 (pa_cons (pe_lock (pe_lc (own := [("name", 9)]) (g := gName 9) rfl scDescendOnce.nd (pi_keys (pv 6)) (blkOk_by (N := ["count", "pattern", "place", "start", "values", "size", "starts", "mark", "inner", "name", "steps", "rest"]) (sc := defScope sDescendOnce) (by decide +kernel)) (fun _ _ _ _ _ => pg_name (i := 9) scDescendOnce.nd rfl (Or.inl rfl)) (fun _ _ _ _ _ => pts_one (pt_cmpR (Mo.op_eqNilTK (K := K) rfl hr.units) (pe_dget (Mo.room1 hr) (pv 8) (pv 9) (fun _ _ => rfl)) (pe_tup pa_nil) (nomark _))) (fun _ _ _ _ _ => (pv 9)))) (pa_cons (pv 5) (pa_cons (pv 7) (pa_cons (pv 6) pa_nil))))))
      (pss_cons (ps_set (i := 11) scDescendOnce.nd rfl (Or.inl rfl) (pe_call GDelete hr (by rfl) T.gDelete T.fDelete.kp T.bDelete .nil pass0 (pa_cons (pv 1) (pa_cons (pe_join pe_str (pe_callB (Mo.cr_sortTxt rfl) (by rfl) T.m_sorted (by decide +kernel) (pa_cons (pe_join pe_str (pv 10)) pa_nil))) pa_nil))))
      (pss_cons (ps_if (pt_cmpR op_eq (pv 11) pe_str (nomark _)) (pss_one (ps_ret (pe_tup (pa_cons (pv 10) (pa_cons (pv 11) (pa_cons (pe_tup (pa_cons pe_int (pa_cons pe_dnewK pa_nil))) pa_nil)))))) pss_nil)
      (pss_one (ps_ret (pe_tup (pa_cons (pv 10) (pa_cons (pv 11) (pa_cons (pe_tup (pa_cons (pe_op op_fdivN (pe_op op_sub (pe_op op_add (pe_op op_sub (pv 3) (pv 7)) (pv 5)) pe_int) (pv 5)) (pa_cons (pe_dc (own := [("name", 9)]) (g := gName 9) (tt := tYes) rfl scDescendOnce.nd (pi_str (pe_call GVariables hr (by rfl) T.gVariables T.fVariables.kp T.bVariables .nil pass0 (pa_cons (pv 11) pa_nil))) (blkOk_by (N := ["count", "pattern", "place", "start", "values", "size", "starts", "mark", "inner", "name", "steps", "rest"]) (sc := defScope sDescendOnce) (by decide +kernel)) (fun _ _ _ _ _ => pg_name (i := 9) scDescendOnce.nd rfl (Or.inl rfl)) (fun _ _ _ _ _ => pts_nil) (fun _ _ _ _ _ => (pv 9)) (fun _ _ _ _ _ => (pe_dget (Mo.room1 hr) (pv 8) (pv 9) (fun _ _ => rfl)))) pa_nil))) pa_nil)))))))))))))), ?_⟩
    obtain ⟨q1, q2, _⟩ := qOf_in n n1 n8
    have p40 := pat.len
    have m8 := pat.few
    refine ⟨_, rfl, p, _, rfl, SqT.of hp, rfl, _, _, rfl, _, _, rfl, rfl, ?_⟩
    refine ⟨_, rfl, n, rfl, n1, n8, fun H1 s1 => ?_⟩
    refine ⟨_, rfl, _, rfl, _, rfl, cs, st, a, ns, ad, g, rfl, p40, sp.va.same s1, sp.nd, sp.sub, fun H2 sd s2 nsd hsd => ?_⟩
    have s12 := s1.trans s2
    refine ⟨_, rfl, _, rfl, _, rfl, qOf n, sd, a, met cs, ns, ad, g, staN st g cs, rfl, by omega, m8, met_nodup _, hsd, sp.va.same s12, sp.nd, fun c hc => sp.sub c (mem_met.mp hc), fun H3 m s3 hm hcut => ?_⟩
    have s13 := s12.trans s3
    have hmq : m + 2 ≤ qOf n := by omega
    have cut : Unct (qOf n) m st g cs := fun c hc => hcut c (mem_met.mpr hc)
    have hsd3 := s3 _ _ hsd
    have nsd0 : H sd = none := s1.free nsd
    clear hcut s1 s2 s3 hsd nsd
    -- what each value becomes
    refine ⟨sd, _, hsd3, trivial, fun od => ⟨_, rfl, sd, od, rfl, .inl ⟨_, upd_same, fun D nD => ?_⟩⟩⟩
    have frz0 : upd H3 sd (.frz od (.dK (dk (oneD (met cs) fun c => V.int (staN st g cs c : Nat))))) sd = some (.frz od (.dK (dk (oneD (met cs) fun c => V.int (staN st g cs c : Nat))))) := upd_same
    have nDa : D ≠ sd := fun z => by rw [z, frz0] at nD; cases nD
    have nD0 : H3 D = none := by rw [upd_ne nDa] at nD; exact nD
    have back : ∀ {H' : Hp}, Same (upd H3 sd (.frz od (.dK (dk (oneD (met cs) fun c => V.int (staN st g cs c : Nat)))))) H' → Same H3 (upd H' sd (.dK (dk (oneD (met cs) fun c => V.int (staN st g cs c : Nat))))) := fun s => lock_samE hsd3 s
    have va3 := sp.va.same s13
    have nsda : a ≠ sd := fun z => by
      have := sp.va.ha
      rw [z, nsd0] at this
      cases this
    have vaz : VsAt (upd H3 sd (.frz od (.dK (dk (oneD (met cs) fun c => V.int (staN st g cs c : Nat)))))) a ns ad (fun c => intL (g c)) := ⟨by rw [upd_ne nsda]; exact va3.ha, fun c hc => by
      rw [upd_ne]
      · exact va3.el c hc
      · intro z
        have := sp.va.el c hc
        rw [z, nsd0] at this
        cases this⟩
    generalize upd H3 sd (.frz od (.dK (dk (oneD (met cs) fun c => V.int (staN st g cs c : Nat))))) = Hz at *
    refine dc_it walk_keys (fun i H' => Same Hz H' ∧ ∃ ad2 : Nat → Addr, H' D = some (.dK (dk (oneD ((met cs).take i) fun c => .ref (ad2 c)))) ∧ ∀ c ∈ (met cs).take i, H' (ad2 c) = some (.tup ((intL (inn (av (qOf n)) (qOf n) m st g cs c)).map V.int))) ?_ ?_ ?_ ?_
    · exact ⟨same_new nD, fun _ => D, upd_same, fun c hc => absurd hc (by simp)⟩
    · exact fun i H' _ h => h.1 _ _ frz0
    · rintro i x H8 H8' hi ⟨s8, ad2, hD2, el2⟩ ⟨rfl, kk, vv, hkv, rfl⟩
      obtain ⟨c, hc, rfl, rfl⟩ := one_at hkv
      have hcm := List.mem_of_getElem? hc
      have hcs := mem_met.mp hcm
      have tk : (met cs).take (i + 1) = (met cs).take i ++ [c] := by rw [List.take_add_one, hc]; rfl
      have cni : c ∉ (met cs).take i := fun z => by
        have nd := met_nodup cs
        rw [← List.take_append_drop (i + 1) (met cs), tk, List.append_assoc] at nd
        exact (List.nodup_append.mp nd).2.2 c z c (by simp) rfl
      have g1 := dget_r (p := [c]) (.inr ⟨od, s8 _ _ frz0⟩)
      rw [one_get (met_nodup _) hcm] at g1
      have va8 := vaz.same s8
      refine ⟨rfl, _, rfl, _, rfl, _, rfl, _, rfl, _, rfl, sd, _, rfl, g1, _, rfl, _, rfl, a, _, rfl, vs_get va8 sp.nd (sp.sub c hcs), ?_⟩
      refine ⟨n, m, staN st g cs c, (g c).length, ad c, rfl, n1, n8, hmq, List.length_pos_iff.mpr (sp.ne c hcs), by have := sta_le (s := st) (g := g) hcs; have := sp.len; have : st ≤ staN st g cs c := Nat.le_add_right _ _; omega, by rw [← place_blk sp.pl hcs]; exact va8.el c (sp.sub c hcs), not_cut (by omega) (off_of_ne (by omega) (cut c hcs).2), fun H9 pn s9 npn hpn => ?_⟩
      have hD9 := s9 _ _ hD2
      have npD : pn ≠ D := fun z => by rw [z, hD2] at npn; cases npn
      refine ⟨_, kS c, rfl, hD9, fitsLt (by rw [one_len, List.length_take]; omega), Same.put (s8.trans s9) nD, fun x => if x = c then pn else ad2 x, ?_, fun x hx => ?_⟩
      · have e0 : dk (oneD ((met cs).take i) fun x => V.ref (ad2 x)) = dk (oneD ((met cs).take i) fun x => V.ref (if x = c then pn else ad2 x)) := by
          unfold oneD
          refine congrArg dk (List.map_congr_left fun x hx => ?_)
          show ([x], V.ref (ad2 x)) = ([x], V.ref (if x = c then pn else ad2 x))
          rw [if_neg (fun z : x = c => cni (z ▸ hx))]
        have e1 := one_put (v := fun x => V.ref (if x = c then pn else ad2 x)) cni
        rw [if_pos rfl] at e1
        rw [upd_same, tk, ← e1, ← e0]
        rfl
      · rw [tk] at hx
        show upd _ _ _ (if x = c then pn else ad2 x) = _
        by_cases z : x = c
        · rw [if_pos z, upd_ne npD, z]
          exact hpn
        · rw [if_neg z]
          have hx2 : x ∈ (met cs).take i := (List.mem_append.mp hx).resolve_right fun y => z (List.mem_singleton.mp y)
          rw [upd_ne]
          · exact s9 _ _ (el2 x hx2)
          · intro y
            have := el2 x hx2
            rw [y, hD2] at this
            cases this
    rintro H9 ⟨s9, ad2, hD, el2⟩
    rw [one_len, List.take_length] at hD el2
    refine ⟨s9 _ _ frz0, ?_⟩
    have s4 := back s9
    have hD4 : upd H9 sd (.dK (dk (oneD (met cs) fun c => V.int (staN st g cs c : Nat)))) D = some (.dK (dk (oneD (met cs) fun c => .ref (ad2 c)))) := by rw [upd_ne nDa]; exact hD
    have el4 : ∀ c ∈ met cs, upd H9 sd (.dK (dk (oneD (met cs) fun c => V.int (staN st g cs c : Nat)))) (ad2 c) = some (.tup ((intL (inn (av (qOf n)) (qOf n) m st g cs c)).map V.int)) := fun c hc => by
      rw [upd_ne]
      · exact el2 c hc
      · intro z
        have h1 := el2 c hc
        rw [z, s9 _ _ frz0] at h1
        cases h1
    have s14 := s13.trans s4
    have hsd4 := s4 _ _ hsd3
    have nD00 : H D = none := s13.free nD0
    clear s9 hD el2 frz0 back nD vaz va3
    generalize upd H9 sd (.dK (dk (oneD (met cs) fun c => V.int (staN st g cs c : Nat)))) = H4 at *
    -- the values without a pair
    refine ⟨sd, _, hsd4, trivial, fun od => ⟨_, rfl, sd, od, rfl, .inl ⟨_, upd_same, fun L nL => ?_⟩⟩⟩
    have frz0 : upd H4 sd (.frz od (.dK (dk (oneD (met cs) fun c => V.int (staN st g cs c : Nat))))) sd = some (.frz od (.dK (dk (oneD (met cs) fun c => V.int (staN st g cs c : Nat))))) := upd_same
    have nLa : L ≠ sd := fun z => by rw [z, frz0] at nL; cases nL
    have nL0 : H4 L = none := by rw [upd_ne nLa] at nL; exact nL
    have back : ∀ {H' : Hp}, Same (upd H4 sd (.frz od (.dK (dk (oneD (met cs) fun c => V.int (staN st g cs c : Nat)))))) H' → Same H4 (upd H' sd (.dK (dk (oneD (met cs) fun c => V.int (staN st g cs c : Nat))))) := fun s => lock_samE hsd4 s
    have hDz : upd H4 sd (.frz od (.dK (dk (oneD (met cs) fun c => V.int (staN st g cs c : Nat))))) D = some (.dK (dk (oneD (met cs) fun c => .ref (ad2 c)))) := by rw [upd_ne nDa]; exact hD4
    have elz : ∀ c ∈ met cs, upd H4 sd (.frz od (.dK (dk (oneD (met cs) fun c => V.int (staN st g cs c : Nat))))) (ad2 c) = some (.tup ((intL (inn (av (qOf n)) (qOf n) m st g cs c)).map V.int)) := fun c hc => by
      rw [upd_ne]
      · exact el4 c hc
      · intro z
        have h1 := el4 c hc
        rw [z, hsd4] at h1
        cases h1
    generalize upd H4 sd (.frz od (.dK (dk (oneD (met cs) fun c => V.int (staN st g cs c : Nat))))) = Hz at *
    refine lc_it walk_keys (fun i H' => Same Hz H' ∧ H' L = some (.lst (tzs ((((met cs).take i).filter fun c => decide (inn (av (qOf n)) (qOf n) m st g cs c = [])).map fun c => [c])))) ?_ ?_ ?_ ?_
    · exact ⟨same_new nL, upd_same⟩
    · exact fun i H' _ h => h.1 _ _ frz0
    · rintro i x H8 H8' hi ⟨s8, hL⟩ ⟨rfl, kk, vv, hkv, rfl⟩
      obtain ⟨c, hc, rfl, rfl⟩ := one_at hkv
      have hcm := List.mem_of_getElem? hc
      have g1 := dget_t (p := [c]) (s8 _ _ hDz)
      rw [one_get (met_nodup _) hcm] at g1
      have hfl : (((met cs).take i).filter fun c => decide (inn (av (qOf n)) (qOf n) m st g cs c = [])).length ≤ 8 := Nat.le_trans (List.length_filter_le _ _) (by rw [List.length_take]; omega)
      refine ⟨rfl, _, rfl, _, rfl, D, _, rfl, g1, by show 0 ≤ sizeLine; decide, fun e0 ne0 => ?_⟩
      have s9 := same_new (o := .tup []) ne0
      refine ⟨ad2 c, e0, _, rfl, rfl, SqT.of (s9 _ _ (s8 _ _ (elz c hcm))), SqT.of upd_same, ?_⟩
      have eb : ((intL (inn (av (qOf n)) (qOf n) m st g cs c)).map V.int).isEmpty = decide (inn (av (qOf n)) (qOf n) m st g cs c = []) := by
        cases inn (av (qOf n)) (qOf n) m st g cs c with
        | nil => rfl
        | cons _ _ => rfl
      rw [show (met cs).take (i + 1) = (met cs).take i ++ [c] by rw [List.take_add_one, hc]; rfl, List.filter_append]
      have hL9 := s9 _ _ hL
      refine ⟨_, congrArg V.bl eb, ite2 (fun e => ?_) (fun e => ?_)⟩
      · rw [List.filter_cons_of_pos (by exact e), List.filter_nil]
        refine ⟨_, rfl, _, hL9, fitsLt (by rw [tzu_ln, List.length_map]; omega), Same.put (s8.trans s9) nL, ?_⟩
        rw [upd_same, List.map_append]
        unfold tzs
        rw [List.map_append]
        rfl
      · rw [List.filter_cons_of_neg (by exact e), List.filter_nil, List.append_nil]
        exact ⟨s8.trans s9, hL9⟩
    rintro H9 ⟨s9, hL⟩
    rw [one_len, List.take_length] at hL
    refine ⟨s9 _ _ frz0, ?_⟩
    have s5 := back s9
    have hL5 : upd H9 sd (.dK (dk (oneD (met cs) fun c => V.int (staN st g cs c : Nat)))) L = some (.lst (tzs (((met cs).filter fun c => decide (inn (av (qOf n)) (qOf n) m st g cs c = [])).map fun c => [c]))) := by rw [upd_ne nLa]; exact hL
    clear s9 hL frz0 back nL hDz elz
    generalize upd H9 sd (.dK (dk (oneD (met cs) fun c => V.int (staN st g cs c : Nat)))) = H5 at *
    have s15 := s14.trans s5
    refine ⟨_, rfl, _, rfl, _, rfl, L, sd, qOf n, m, _, met cs, staN st g cs, rfl, by omega, by omega, by omega, hL5, (met_nodup cs).filter _, Nat.le_trans (List.length_filter_le _ _) m8, s5 _ _ hsd4, met_nodup _, fun c hc => (List.mem_filter.mp hc).1, fun H6 W qs ds s6 nW hW pq aq dpw hx => ?_⟩
    have s16 := s15.trans s6
    have hA : ∀ i, av (qOf n) i / qOf n = i % qOf n := av_res (by omega)
    have hB := av_two (q := qOf n) (m := m) (by omega) (by omega)
    obtain ⟨stp, pl2⟩ := once_math (by omega) hA hB sp.pl sp.ne cut pq aq dpw hx
    have less := once_less (by omega) hA hB sp.pl sp.ne cut ne
    have rwo := rst_wo (A := av (qOf n)) (q := qOf n) (m := m) (s := st) (g := g) (cs := cs) pq
    have ql : qs.length ≤ 8 := by rw [pq.length_eq]; exact Nat.le_trans (List.length_filter_le _ _) m8
    have gp := grp_flat (fun c => offq (qOf n) m (staN st g cs c)) ds qs (dpw.imp fun h => Nat.ne_of_gt h) fun x hx2 => (hx _).mpr ⟨x, hx2, rfl⟩
    have qlow : Low qs := fun c hc => pat.low c (mem_met.mp (List.mem_filter.mp (pq.mem_iff.mp hc)).1)
    obtain ⟨v, hv⟩ : ∃ v, v = ds.map (grpD (fun c => offq (qOf n) m (staN st g cs c)) qs) := ⟨_, rfl⟩
    rw [← hv] at hW stp gp
    have vl : v.flatten.length ≤ 8 := by rw [gp.length_eq]; exact ql
    -- the joined letters
    refine ⟨_, rfl, ⟨_, rfl⟩, ⟨_, rfl⟩, _, rfl, _, W, v.map tx, rfl, rfl, .inl (SqL.of (by rw [← tzs_strs]; exact hW)), tzs_room (by omega), ?_⟩
    refine ⟨tx v.flatten, congrArg (fun z => [V.str z]) (join_tzs v), by rw [tx_size]; omega, fun zs S H7 pz o s7 nS hS => ?_⟩
    have ez := sorted_signs gp aq pz o
    subst ez
    refine ⟨_, S, _, rfl, rfl, .inl (SqL.of hS), sgs_room (by omega), ?_⟩
    refine ⟨cs, qs, congrArg (fun z => [V.str (tx cs), V.str z]) (join_signs qs), pat, vset_of_asc aq qlow, fun H8 s8 => ?_⟩
    rw [← rwo]
    have s18 := (s16.trans s7).trans s8
    have hW8 := s8 _ _ (s7 _ _ hW)
    have nW0 : H W = none := s15.free nW
    have hD8 := s8 _ _ (s7 _ _ (s6 _ _ (s5 _ _ hD4)))
    have el8 : ∀ c ∈ met cs, H8 (ad2 c) = some (.tup ((intL (inn (av (qOf n)) (qOf n) m st g cs c)).map V.int)) := fun c hc => s8 _ _ (s7 _ _ (s6 _ _ (s5 _ _ (el4 c hc))))
    have rsub : ∀ c ∈ rst (av (qOf n)) (qOf n) m st g cs, c ∈ cs := fun c hc => (rst_mem hc).1
    have rne : ∀ c ∈ rst (av (qOf n)) (qOf n) m st g cs, inn (av (qOf n)) (qOf n) m st g cs c ≠ [] := fun c hc => (rst_mem hc).2
    clear s7 s8 hS nS pz o hW s6 s5 hL5 hsd4 hsd3 hD4 el4 s16 s15 s14 s13 s12 rwo gp hx nW nL0 nLa
    have hrl : (rst (av (qOf n)) (qOf n) m st g cs).length ≤ cs.length := List.length_filter_le _ _
    generalize rst (av (qOf n)) (qOf n) m st g cs = rest at *
    refine ⟨_, rfl, rfl, decide (rest = []), ?_, ite2 (fun e => ?_) (fun e => ?_)⟩
    · refine congrArg V.bl (decide_eq_decide.mpr ⟨fun z => tx_inj ((V.str.inj z).trans tx_nil), fun z => by rw [z, ← tx_nil]⟩)
    · have re : rest = [] := of_decide_eq_true e
      subst re
      refine ⟨_, rfl, _, rfl, fun a2 na2 => ⟨by show 2 ≤ sizeLine; decide, fun p2 np2 => ⟨by show 3 ≤ sizeLine; decide, fun r nr => ?_⟩⟩⟩
      have t1 := same_new (o := .dK []) na2
      have t2 := same_new (o := .tup [V.int 0, .ref a2]) np2
      have t3 := same_new (o := .tup [V.ref W, .str (tx []), .ref p2]) nr
      have t13 := (t1.trans t2).trans t3
      refine q _ r W p2 a2 v [] 0 ad g (s18.trans t13) ((s18.trans (t1.trans t2)).free nr) nW0 upd_same (t13 _ _ hW8) stp (fun c hc => absurd hc (by simp)) (t3 _ _ upd_same) (fun _ => ⟨rfl, t3 _ _ (t2 _ _ upd_same)⟩) (fun z => absurd rfl z)
    · have re : rest ≠ [] := fun z => e (decide_eq_true z)
      have rpat : Pat rest := ⟨Nat.le_trans hrl p40, fun c hc => pat.low c (rsub c hc), Nat.le_trans (nd_sub _ (met cs) (met_nodup _) fun x hx => mem_met.mpr (rsub x (mem_met.mp hx))) m8⟩
      have mr8 := rpat.few
      refine ⟨_, rfl, _, rfl, _, rfl, _, rfl, _, _, rfl, rfl, _, rfl, _, _, rfl, rfl, _, 1, rfl, rfl, _, rfl, _, (qOf n : Int), rfl, rfl, ⟨by omega, by omega⟩, ?_⟩
      refine ⟨_, rfl, rest, rfl, rpat, fun H9 s9 => ⟨tx (met rest), rfl, fun a2 na2 => ?_⟩⟩
      have hD9 := s9 _ _ hD8
      refine dc_it walk_str (fun i H' => Same H9 H' ∧ H' a2 = some (.dK (dk (oneD ((met rest).take i) fun c => .ref (ad2 c))))) ?_ ?_ ?_ ?_
      · exact ⟨same_new na2, upd_same⟩
      · exact fun _ _ _ _ => trivial
      · rintro i x H10 H10' hi ⟨s10, hA2⟩ ⟨rfl, c, hc, rfl⟩
        rw [tx_get] at hc
        have hcm := List.mem_of_getElem? hc
        have tk : (met rest).take (i + 1) = (met rest).take i ++ [c] := by rw [List.take_add_one, hc]; rfl
        have cni : c ∉ (met rest).take i := fun z => by
          have nd := met_nodup rest
          rw [← List.take_append_drop (i + 1) (met rest), tk, List.append_assoc] at nd
          exact (List.nodup_append.mp nd).2.2 c z c (by simp) rfl
        have g1 := dget_t (p := [c]) (s10 _ _ hD9)
        rw [one_get (met_nodup _) (mem_met.mpr (rsub c (mem_met.mp hcm)))] at g1
        refine ⟨rfl, _, rfl, _, rfl, _, rfl, D, _, rfl, g1, _, kS c, rfl, hA2, fitsLt (by rw [one_len, List.length_take]; omega), Same.put s10 na2, ?_⟩
        rw [upd_same, tk, ← one_put cni]
        rfl
      · rintro H10 ⟨s10, hA2⟩
        rw [tx_size, List.take_length] at hA2
        refine ⟨by show 2 ≤ sizeLine; decide, fun p2 np2 => ⟨by show 3 ≤ sizeLine; decide, fun r nr => ?_⟩⟩
        have es := start_cei (q := qOf n) (m := m) (s := st) (by omega)
        dsimp only at np2 nr ⊢
        rw [es] at nr ⊢
        have t2 := same_new (o := .tup [V.int ((cei (qOf n) m st : Nat) : Int), .ref a2]) np2
        have t3 := same_new (o := .tup [V.ref W, .str (tx rest), .ref p2]) nr
        have t23 := t2.trans t3
        have s20 := (s18.trans s9).trans s10
        refine q _ r W p2 a2 v rest (cei (qOf n) m st) ad2 (inn (av (qOf n)) (qOf n) m st g cs) (s20.trans t23) ((s20.trans t2).free nr) nW0 upd_same (t23 _ _ (s10 _ _ (s9 _ _ hW8))) stp rsub (t3 _ _ upd_same) (fun z => absurd z re) (fun _ => ⟨⟨⟨t23 _ _ hA2, fun c hc => t23 _ _ (s10 _ _ (s9 _ _ (el8 c (mem_met.mpr (rsub c (mem_met.mp hc))))))⟩, met_nodup _, fun c hc => mem_met.mpr hc, rne, pl2, Nat.le_trans (Nat.le_of_lt less) sp.len⟩, less, cei_le (by omega)⟩)
end
end Mo

/-! ### chain_from_avoiding -/
namespace Mo
open PySem PySem.Spec PyProof.Rows L2
section
variable {P : Program} {w : World} {K : PySem.W.Frag} {mg : Str → Option Value} {base : Heap}
def spCap : Sp := fun vs H Q _ => ∃ (cs : List Nat) (x : V) (N : Addr → Prop), vs = [.str (tx cs), x] ∧ Pat cs ∧ cs ≠ [] ∧ AvIn N H cs x true ∧ ∀ H', Same H H' → Q .non H'
theorem ok_cap {k : Nat} (T : Txt K mg) : FnOk P w K mg base CX0 (k + 35) T.aCheckAvoidingPlace T.dCheckAvoidingPlace ["pattern", "place"] spCap := by
  have GIsAvoidingPlace : FnOk P w K mg base CX0 (k + 34) T.aIsAvoidingPlace T.dIsAvoidingPlace ["pattern", "value"] spIap := ok_iap T
  refine T.fCheckAvoidingPlace.ok scCheckAvoidingPlace (fun vs H Q E h => ?_) (fun cdv A outer s H vs Q E hr h => ?_)
  · obtain ⟨_, _, _, rfl, _⟩ := h
    rfl
  · obtain ⟨cs, x, N, rfl, pat, ne, hav, q⟩ := h
    refine ⟨_, (pss_one (ps_if (pt_not (pt_val (pe_call GIsAvoidingPlace hr (by rfl) T.gIsAvoidingPlace T.fIsAvoidingPlace.kp T.bIsAvoidingPlace .nil pass0 (pa_cons (pv 0) (pa_cons (pv 1) pa_nil))))) (pss_one ps_never) pss_nil)), ?_⟩
    exact ⟨_, rfl, _, rfl, cs, x, N, true, rfl, pat, ne, hav, fun H1 s1 => ⟨true, rfl, iteF (q H1 s1)⟩⟩
def spDsc : Sp := fun vs H Q _ => ∃ (s : Nat) (cs : List Nat) (p a : Addr) (ns : List Nat) (ad : Nat → Addr) (g : Nat → List Nat) (N : Addr → Prop), vs = [.str (tx cs), .ref p] ∧ Pat cs ∧ cs ≠ [] ∧ H p = some (.tup [.int s, .ref a]) ∧ Spot H a (met cs).length s cs ns ad g ∧ AvIn N H cs (.ref p) true ∧
  ∀ H' (r l p2 a2 : Addr) (v : List (List Nat)) (rest : List Nat) (s2 : Nat) (ad2 : Nat → Addr) (g2 : Nat → List Nat), Same H H' → H r = none → H l = none → H' r = some (.tup [.ref l, .str (tx rest), .ref p2]) → H' l = some (.lst (tzs v)) → Steps cs v rest → (∀ c ∈ rest, c ∈ cs) →
    H' p2 = some (.tup [.int s2, .ref a2]) → (rest = [] → s2 = 0 ∧ H' a2 = some (.dK [])) → (rest ≠ [] → Spot H' a2 (met cs).length s2 rest (met rest) ad2 g2 ∧ (rest.flatMap g2).length < (cs.flatMap g).length ∧ s2 ≤ s) → Q (.ref r) H'
theorem ok_dsc {k : Nat} (T : Txt K mg) : FnOk P w K mg base CX0 (k + 36) T.aDescend T.dDescend ["pattern", "place"] spDsc := by
  have GCheckAvoidingPlace : FnOk P w K mg base CX0 (k + 35) T.aCheckAvoidingPlace T.dCheckAvoidingPlace ["pattern", "place"] spCap := ok_cap T
  have GVariables : FnOk P w K mg base CX0 (k + 35) T.aVariables T.dVariables ["pattern"] spVars := ok_vars T
  have GDescendOnce : FnOk P w K mg base CX0 (k + 35) T.aDescendOnce T.dDescendOnce ["count", "pattern", "place"] spOnc := ok_onc T
  refine T.fDescend.ok scDescend (fun vs H Q E h => ?_) (fun cdv A outer s H vs Q E hr h => ?_)
  · obtain ⟨_, _, _, _, _, _, _, _, rfl, _⟩ := h
    rfl
  · obtain ⟨st, cs, p, a, ns, ad, g, N, rfl, pat, ne, hp, sp, hav, q⟩ := h
    refine ⟨_, (pss_cons (ps_expr (pe_call GCheckAvoidingPlace hr (by rfl) T.gCheckAvoidingPlace T.fCheckAvoidingPlace.kp T.bCheckAvoidingPlace .nil pass0 (pa_cons (pv 0) (pa_cons (pv 1) pa_nil))))
      (pss_one (ps_ret (pe_call GDescendOnce hr (by rfl) T.gDescendOnce T.fDescendOnce.kp T.bDescendOnce .nil pass0 (pa_cons (pe_callB call_len_str (by rfl) T.m_len PySem.boot_len (pa_cons (pe_call GVariables hr (by rfl) T.gVariables T.fVariables.kp T.bVariables .nil pass0 (pa_cons (pv 0) pa_nil)) pa_nil)) (pa_cons (pv 0) (pa_cons (pv 1) pa_nil))))))), ?_⟩
    have m8 := pat.few
    have m1 : 1 ≤ (met cs).length := by
      cases cs with
      | nil => exact absurd rfl ne
      | cons c t => exact List.length_pos_iff.mpr (List.ne_nil_of_mem (mem_met.mpr (List.mem_cons_self (a := c) (l := t))))
    have len : (tx (met cs)).length = (met cs).length := tx_len _
    refine ⟨_, rfl, _, rfl, cs, _, N, rfl, pat, ne, hav, fun H1 s1 => ?_⟩
    refine ⟨_, rfl, cs, rfl, pat, fun H2 s2 => ⟨_, rfl, fits5 (by rw [tx_len]; omega), ?_⟩⟩
    have s12 := s1.trans s2
    refine ⟨_, rfl, _, rfl, (met cs).length, st, cs, p, a, ns, ad, g, by rw [len]; rfl, m1, m8, pat, ne, Nat.le_refl _, s12 _ _ hp, sp.same s12, ?_⟩
    intro H4 r l p2 a2 u rest2 s2' ad2 g2 s4 nr nl hr4 hl4 st2 sub2 hp2 h0 h1
    exact q H4 r l p2 a2 u rest2 s2' ad2 g2 (s12.trans s4) (s12.free nr) (s12.free nl) hr4 hl4 st2 sub2 hp2 h0 h1
end
end Mo

namespace Mo
open PySem PySem.Spec PyProof.Rows L2
/-- data that repr writes -/
def Shw (e : PyData) : Prop := e.showable = true ∧ e.depth ≤ 40 ∧ e.shown.length ≤ sizeLine
/-- what _law_refused tells of a value -/
def TRef (C : Addr) : (XK → Hp → VK → Prop) → Hp → VK → Prop := fun tl H Q => ∃ (N : Addr → Prop) (x : V) (e : PyData), Dx N H x e ∧ Shw e ∧ (∀ (E : XK) (Q1 : VK), OutV C H E x → tl E H Q1) ∧
  ∀ H', Same H H' → Q (.str e.shown) H'
section
variable {P : Program} {w : World} {K : PySem.W.Frag} {mg : Str → Option Value} {base : Heap}
end
end Mo

/-! ### places and what is none, as data -/
namespace Mo
open PySem PySem.Spec PyProof.Rows L2
theorem avs_blA (q s n : Nat) : avs q s n = intL (blA (av q) s n) := by
  unfold avs intL blA
  rw [List.map_map]
  rfl
theorem flat_congI {f h : Nat → List Int} : ∀ {cs : List Nat}, (∀ c ∈ cs, f c = h c) → cs.flatMap f = cs.flatMap h
  | [], _ => rfl
  | c :: cs, e => by
    rw [List.flatMap_cons, List.flatMap_cons, e c List.mem_cons_self, flat_congI fun x hx => e x (List.mem_cons_of_mem _ hx)]
theorem nat_back : ∀ {l : List Int}, (∀ x ∈ l, 0 ≤ x) → l = intL (l.map Int.toNat)
  | [], _ => rfl
  | x :: l, h => by
    have h0 := h x List.mem_cons_self
    have e : intL ((x :: l).map Int.toNat) = ((x.toNat : Nat) : Int) :: intL (l.map Int.toNat) := rfl
    rw [e, ← nat_back fun y hy => h y (List.mem_cons_of_mem _ hy), Int.toNat_of_nonneg h0]
/-- a text whose letters are a block of the avoiding text -/
theorem blk_place {q b : Nat} {cs : List Nat} {F : Nat → List Int} (hF : ∀ c ∈ cs, F c ≠ []) (h : cs.flatMap F = avs q b (cs.flatMap F).length) :
    ∃ G : Nat → List Nat, (∀ c ∈ cs, F c = intL (G c)) ∧ (∀ c ∈ cs, G c ≠ []) ∧ PlA (av q) b G cs ∧ (cs.flatMap G).length = (cs.flatMap F).length := by
  have e1 : ∀ c ∈ cs, F c = intL ((F c).map Int.toNat) := fun c hc => nat_back fun x hx => by
    have : x ∈ cs.flatMap F := List.mem_flatMap.mpr ⟨c, hc, hx⟩
    rw [h] at this
    unfold avs at this
    obtain ⟨j, _, rfl⟩ := List.mem_map.mp this
    omega
  have e2 : cs.flatMap F = intL (cs.flatMap fun c => (F c).map Int.toNat) := (flat_congI e1).trans (intL_flat _ cs)
  have e3 : (cs.flatMap fun c => (F c).map Int.toNat).length = (cs.flatMap F).length := by rw [e2, intL_len]
  refine ⟨fun c => (F c).map Int.toNat, e1, fun c hc z => hF c hc ?_, ?_, e3⟩
  · have z : (F c).map Int.toNat = [] := z
    rw [e1 c hc, z]
    rfl
  · unfold PlA
    refine intL_inj ?_
    rw [← e2, e3, ← avs_blA]
    exact h

theorem fit_pairW {s y : PyData} (hs : Fit 40 3000 1 s) (hy : Fit 40 96900 4 y) : Fit 40 100000 6 (.tuple [s, y]) := by
  have h1 := hs.bulk
  have h2 := hy.bulk
  have h3 := hs.deep
  have h4 := hy.deep
  refine ⟨by simp only [okD, okAll]; exact ⟨hs.ok, hy.ok, trivial⟩, ?_, ?_⟩
  · simp only [PyData.bulk, PyData.bulkAll]
    omega
  · simp only [PyData.depth, PyData.depthAll]
    omega
theorem fit_start {s : Nat} (h : s ≤ 1000000000000000001) : Fit 40 3000 1 (.int (s : Int)) := ⟨by
  simp only [okD]
  exact Nat.lt_of_le_of_lt (show (s : Int).natAbs ≤ 1000000000000000001 by omega) (by decide), by simp only [PyData.bulk]; decide, by simp [PyData.depth]⟩
theorem key_fit {c : Nat} (h : c < 128) : Fit 40 40 0 (keyD (kS c)) := ⟨by
  show okD 40 (.str (tx [c]))
  simp only [okD]
  intro x hx
  rw [tx_list, List.mem_singleton] at hx
  rw [hx]
  exact h, by
  show PyData.bulk (.str (tx [c])) ≤ 40
  simp only [PyData.bulk]
  rw [tx_size]
  exact (by decide : 1 ≤ 40), by
  show PyData.depth (.str (tx [c])) ≤ 0
  simp [PyData.depth]⟩
theorem zip_nil2 {kvs : List (Key × V)} {ds : List PyData} (h : kvs.length = ds.length) (e : (kvs.map fun kv => keyD kv.1).zip ds = []) : kvs = [] ∧ ds = [] := by
  cases kvs with
  | nil =>
    cases ds with
    | nil => exact ⟨rfl, rfl⟩
    | cons _ _ => cases h
  | cons kv kvs =>
    cases ds with
    | nil => cases h
    | cons _ _ => cases e
theorem look_zip {q : Key} : ∀ {kvs kvs2 : List (Key × V)} {ds ds2 : List PyData}, kvs.length = ds.length → kvs2.length = ds2.length → (kvs.map fun kv => keyD kv.1).zip ds = (kvs2.map fun kv => keyD kv.1).zip ds2 → lookK kvs ds q = lookK kvs2 ds2 q
  | [], kvs2, ds, ds2, h1, h2, e => by
    have e0 : (([] : List (Key × V)).map fun kv => keyD kv.1).zip ds = [] := rfl
    obtain ⟨_, rfl⟩ := zip_nil2 (kvs := []) h1 e0
    obtain ⟨rfl, rfl⟩ := zip_nil2 h2 (e.symm.trans e0)
    rfl
  | (k, v) :: kvs, kvs2, ds, ds2, h1, h2, e => by
    cases ds with
    | nil => cases h1
    | cons d ds =>
      cases kvs2 with
      | nil => cases e
      | cons kv2 kvs2 =>
        obtain ⟨k2, v2⟩ := kv2
        cases ds2 with
        | nil => cases h2
        | cons d2 ds2 =>
          rw [List.map_cons, List.map_cons, List.zip_cons_cons, List.zip_cons_cons] at e
          injection e with e1 e2
          have ek : keyD k = keyD k2 := (Prod.mk.inj e1).1
          have ed : d = d2 := (Prod.mk.inj e1).2
          have ek2 := keyD_inj ek
          subst ek2 ed
          have ih := look_zip (q := q) (kvs := kvs) (kvs2 := kvs2) (ds := ds) (ds2 := ds2) (Nat.succ.inj h1) (Nat.succ.inj h2) e2
          unfold lookK
          rw [ih]
theorem av_off {N : Addr → Prop} {H : Hp} {cs ns : List Nat} {x : V} {s : Nat} {ad : Nat → Addr} {f : Nat → List Int} {b : Bool} (h : AvD N H cs x (plcD s ns ad f) b) (pm : ns.Perm (met cs)) (no : cs.flatMap f ≠ avs (qOf (met cs).length) s (cs.flatMap f).length) : b = false := by
  obtain ⟨_, _, hc⟩ := h
  rcases hc with ⟨hs, hb⟩ | ⟨p, sv, sd, a, kvs, ds, kvd, hx, hd, hp, ha, hsv, hsb, hds, hbd, hb, hz⟩
  · exact hb
  · unfold plcD at hd
    have e1 := PyData.tuple.inj hd
    injection e1 with e2 e3
    injection e3 with e4 _
    injection e4 with e5
    subst e2
    rw [hz] at e5
    have l1 : kvs.length = ds.length := by
      have := hds.length
      rwa [List.length_map] at this
    have e : cs.flatMap (blkK kvs ds) = cs.flatMap f := by
      unfold List.flatMap
      congr 1
      refine List.map_congr_left fun c hc => ?_
      have e6 : blkK kvs ds c = blkK (dk (valsD ns ad)) (ns.map fun c => txU (f c)) c := by
        unfold blkK
        rw [look_zip l1 (by rw [vals_len, List.length_map]) e5.symm]
      rw [e6]
      exact blk_vals (pm.mem_iff.mpr (mem_met.mpr hc))
    have e7 : (intD (.int (s : Int))).toNat = s := Int.toNat_natCast s
    rw [hb]
    unfold avB
    rw [e, e7, decide_eq_false no]
    simp only [Bool.and_false]
theorem av_emp {N : Addr → Prop} {H : Hp} {cs : List Nat} {x : V} {b : Bool} (ne : cs ≠ []) (h : AvD N H cs x (.tuple [.int 0, .dict []]) b) : b = false := by
  obtain ⟨_, _, hc⟩ := h
  rcases hc with ⟨hs, hb⟩ | ⟨p, sv, sd, a, kvs, ds, kvd, hx, hd, hp, ha, hsv, hsb, hds, hbd, hb, hz⟩
  · exact hb
  · have e1 := PyData.tuple.inj hd
    injection e1 with e2 e3
    injection e3 with e4 _
    injection e4 with e5
    subst e2
    rw [hz] at e5
    have l1 : kvs.length = ds.length := by
      have := hds.length
      rwa [List.length_map] at this
    obtain ⟨rfl, rfl⟩ := zip_nil2 l1 e5.symm
    have m1 : ¬ ([] : List (Key × V)).length = (met cs).length := fun z => by
      cases cs with
      | nil => exact ne rfl
      | cons c r =>
        have := List.length_pos_of_mem (mem_met.mpr (List.mem_cons_self (a := c) (l := r)))
        have z0 : 0 = (met (c :: r)).length := z
        omega
    rw [hb]
    unfold avB areB
    rw [decide_eq_false m1]
    simp only [Bool.false_and, Bool.and_false]
theorem fit_txu {l : List Int} (hl : l.length ≤ 4200) (h : ∀ x ∈ l, 0 ≤ x ∧ x ≤ 999999) : Fit 40 9000 1 (txU l) := by
  refine ⟨?_, ?_, ?_⟩
  · unfold txU
    simp only [okD]
    refine okAll_iff.mpr fun d hd => ?_
    obtain ⟨i, hi, rfl⟩ := List.mem_map.mp hd
    have := h i hi
    simp only [okD]
    exact Nat.lt_of_le_of_lt (show i.natAbs ≤ 1000000 by omega) (by decide)
  · unfold txU
    simp only [PyData.bulk]
    rw [bulk_ints]
    omega
  · unfold txU
    simp only [PyData.depth]
    rw [ints_depth]
    exact Nat.le_refl _
theorem fit_plc {s : Nat} {ns : List Nat} {ad : Nat → Addr} {f : Nat → List Int} (hs : s ≤ 1000000000000000001) (n8 : ns.length ≤ 8) (low : ∀ c ∈ ns, 97 ≤ c ∧ c ≤ 122) (ok : ∀ c ∈ ns, (f c).length ≤ 4200 ∧ ∀ x ∈ f c, 0 ≤ x ∧ x ≤ 999999) :
    Fit 40 100000 6 (plcD s ns ad f) := by
  have e : ((dk (valsD ns ad)).map fun kv => keyD kv.1).zip (ns.map fun c => txU (f c)) = ns.map fun c => (keyD (kS c), txU (f c)) := by
    rw [vals_list, List.map_map]
    clear n8 low ok
    induction ns with
    | nil => rfl
    | cons x r ih => rw [List.map_cons, List.map_cons, List.map_cons, List.zip_cons_cons, ih]; rfl
  obtain ⟨h1, h2, h3⟩ := fit_kvdQ (n := 0) (kvd := ns.map fun c => (keyD (kS c), txU (f c))) (B := 40) (W := 40) (V := 9000) (D := 1) fun kv hkv => by
    obtain ⟨c, hc, rfl⟩ := List.mem_map.mp hkv
    exact ⟨(key_fit (by have := (low c hc).2; omega)).mono (Nat.le_refl _) (Nat.le_refl _) (by decide), fit_txu (ok c hc).1 (ok c hc).2⟩
  rw [List.length_map] at h2
  have h4 : ns.length * (40 + 9000 + 2) ≤ 8 * (40 + 9000 + 2) := Nat.mul_le_mul_right _ n8
  unfold plcD
  rw [e]
  refine fit_pairW (fit_start hs) ⟨by simp only [okD]; exact h1, ?_, ?_⟩
  · simp only [PyData.bulk]
    omega
  · simp only [PyData.depth]
    omega
/-- what no place is -/
def Wrg (cs : List Nat) (e : PyData) : Prop := Shw e ∧ e.bulk ≤ 100000 ∧ ∀ (N : Addr → Prop) (H : Hp) (x : V) (b : Bool), AvD N H cs x e b → b = false
theorem wrg_av {N : Addr → Prop} {H : Hp} {cs : List Nat} {x : V} {e : PyData} (w : Wrg cs e) (dx : Dx N H x e) : AvIn N H cs x false := by
  obtain ⟨b, hb⟩ := avd_any cs dx w.2.1
  have := w.2.2 _ _ _ _ hb
  subst this
  exact ⟨e, hb⟩
theorem wrg_no {cs : List Nat} {e : PyData} (h : Fit 40 100000 6 e) (hs : shp e = false) : Wrg cs e := by
  refine ⟨h.repr (by decide) (by decide) (by decide) (by decide), h.bulk, fun N H x b av => ?_⟩
  obtain ⟨_, _, hc⟩ := av
  rcases hc with ⟨_, hb⟩ | ⟨p, sv, sd, a, kvs, ds, kvd, hx, hd, _⟩
  · exact hb
  · rw [hd] at hs
    cases hs
theorem wrg_plc {cs ns : List Nat} {s : Nat} {ad : Nat → Addr} {f : Nat → List Int} (h : Fit 40 100000 6 (plcD s ns ad f)) (pm : ns.Perm (met cs)) (no : cs.flatMap f ≠ avs (qOf (met cs).length) s (cs.flatMap f).length) : Wrg cs (plcD s ns ad f) :=
  ⟨h.repr (by decide) (by decide) (by decide) (by decide), h.bulk, fun _ _ _ _ av => av_off av pm no⟩
theorem wrg_emp {cs : List Nat} (ne : cs ≠ []) : Wrg cs (.tuple [.int 0, .dict []]) := by
  have hh : (PyData.tuple [.int 0, .dict []]).showable = true ∧ (PyData.tuple [.int 0, .dict []]).depth ≤ 40 ∧ (PyData.tuple [.int 0, .dict []]).shown.length ≤ 1000 ∧ (PyData.tuple [.int 0, .dict []]).bulk ≤ 100000 := by decide +kernel
  exact ⟨⟨hh.1, hh.2.1, Nat.le_trans hh.2.2.1 (by decide)⟩, hh.2.2.2, fun _ _ _ _ av => av_emp ne av⟩
/-- the block at the next start is another -/
theorem av_next {q s : Nat} (hq : 2 ≤ q) : av q s ≠ av q (s + 1) := fun z => by
  have h1 := av_res hq s
  have h2 := av_res hq (s + 1)
  rw [z, h2] at h1
  have h3 := Nat.mod_lt s (show 0 < q by omega)
  rw [Nat.add_mod, Nat.mod_eq_of_lt (show 1 < q by omega)] at h1
  by_cases e : s % q + 1 < q
  · rw [Nat.mod_eq_of_lt e] at h1
    omega
  · have e2 : s % q + 1 = q := by omega
    rw [e2, Nat.mod_self] at h1
    omega
theorem next_no {q s : Nat} {cs : List Nat} {f : Nat → List Int} (hq : 2 ≤ q) (ne : cs ≠ []) (hf : ∀ c ∈ cs, f c ≠ []) (h : cs.flatMap f = avs q s (cs.flatMap f).length) : cs.flatMap f ≠ avs q (s + 1) (cs.flatMap f).length := fun z => by
  have pos : 0 < (cs.flatMap f).length := by
    cases cs with
    | nil => exact absurd rfl ne
    | cons c r =>
      rw [List.flatMap_cons, List.length_append]
      have := List.length_pos_iff.mpr (hf c List.mem_cons_self)
      omega
  have h1 := avs_at (q := q) (s := s) pos
  have h2 := avs_at (q := q) (s := s + 1) pos
  rw [← h] at h1
  rw [← z] at h2
  rw [h1] at h2
  have := Int.ofNat.inj (Option.some.inj h2)
  exact av_next hq this
/-- a place as chain_from_avoiding takes it -/
theorem plc_spot {H : Hp} {a : Addr} {s : Nat} {cs ns : List Nat} {ad : Nat → Addr} {f : Nat → List Int} (vs : VsAt H a ns ad f) (nd : ns.Nodup) (pm : ns.Perm (met cs)) (hf : ∀ c ∈ ns, f c ≠ []) (h : cs.flatMap f = avs (qOf (met cs).length) s (cs.flatMap f).length) (l : (cs.flatMap f).length ≤ 4096) :
    ∃ G, Spot H a (met cs).length s cs ns ad G := by
  have sub : ∀ c ∈ cs, c ∈ ns := fun c hc => pm.mem_iff.mpr (mem_met.mpr hc)
  obtain ⟨G, g1, g2, g3, g4⟩ := blk_place (fun c hc => hf c (sub c hc)) h
  exact ⟨G, ⟨vs.ha, fun c hc => by
    have := vs.el c hc
    rw [g1 c (mem_met.mp (pm.mem_iff.mp hc))] at this
    exact this⟩, nd, sub, g2, g3, by rw [g4]; exact l⟩
/-- the edge's places -/
theorem edge_all {H : Hp} {p : Addr} {s m h : Nat} (e : EdgP H p s (avs 7 s m) (avs 7 (s + m) h)) (m0 : 0 < m) (h0 : 0 < h) (mh : m + h ≤ 4097) (hs : s ≤ 1000000000000000001) : ∃ va ad f, H p = some (.tup [.int (s : Int), .ref va]) ∧ VsAt H va [97, 98] ad f ∧ (∀ c ∈ [97, 98], f c ≠ []) ∧ [97, 98].flatMap f = avs 7 s (m + h) ∧
    AvD (fun _ => False) H [97, 98] (.ref p) (plcD s [97, 98] ad f) (decide (s ≤ 1000000000000000000) && decide (m + h ≤ 4096)) ∧ Shw (plcD s [97, 98] ad f) := by
  obtain ⟨va, ad, h1, h2⟩ := e
  have ok : ∀ c ∈ [97, 98], fTwo (avs 7 s m) (avs 7 (s + m) h) c ≠ [] ∧ (fTwo (avs 7 s m) (avs 7 (s + m) h) c).length ≤ 4096 ∧ ∀ n ∈ fTwo (avs 7 s m) (avs 7 (s + m) h) c, 0 ≤ n ∧ n ≤ 999999 := fun c hc => by
    simp only [List.mem_cons, List.not_mem_nil, or_false] at hc
    rcases hc with rfl | rfl
    · exact ⟨avs_ne m0, by show (avs 7 s m).length ≤ _; rw [avs_len]; omega, avs_range (by decide) (by decide)⟩
    · exact ⟨avs_ne h0, by show (avs 7 (s + m) h).length ≤ _; rw [avs_len]; omega, avs_range (by decide) (by decide)⟩
  have r := avp_vals (cs := [97, 98]) h1 h2 (by decide) (by decide) ok
  have q7 : qOf (met [97, 98]).length = 7 := by decide
  have fl : [97, 98].flatMap (fTwo (avs 7 s m) (avs 7 (s + m) h)) = avs 7 s (m + h) := by rw [edge_flat, avs_app]
  rw [fl, avs_len, q7, decide_eq_true (rfl : avs 7 s (m + h) = avs 7 s (m + h)), Bool.and_true] at r
  exact ⟨va, ad, _, h1, h2, fun c hc => (ok c hc).1, fl, r, (fit_plc hs (by decide) (by decide) fun c hc => ⟨Nat.le_trans (ok c hc).2.1 (by decide), (ok c hc).2.2⟩).repr (by decide) (by decide) (by decide) (by decide)⟩
end Mo

/-! ### the variables in the order of their first occurrence -/
namespace Mo
open PySem PySem.Spec PyProof.Rows L2
theorem cutS_to (zs : List Nat) {n : Nat} (h : n ≤ zs.length) : cutS (tx zs) none (some (n : Int)) = tx (zs.take n) := by
  have hl : (tx zs).length = zs.length := tx_len zs
  have e : HT.sIx (tx zs).length (tx zs).length (some (n : Int)) = n := by
    rw [HT.sIx_nat, hl]
    omega
  unfold cutS
  rw [e, tx_list]
  rfl
section
variable {P : Program} {w : World} {K : PySem.W.Frag} {mg : Str → Option Value} {base : Heap}
def spFirst : Sp := fun vs H Q _ => ∃ cs : List Nat, vs = [.str (tx cs)] ∧ cs.length ≤ 40 ∧ ∀ H' D, Same H H' → H D = none → H' D = some (.lst ((met cs).map sg)) → Q (.ref D) H'
theorem ok_first {k : Nat} (T : Txt K mg) : FnOk P w K mg base CX0 (k + 1) T.aLFirstOrder T.dLFirstOrder ["_law_pattern"] spFirst := by
  refine T.fLFirstOrder.ok scLFirstOrder (fun vs H Q E h => ?_) (fun cdv A outer s H vs Q E hr h => ?_)
  · obtain ⟨_, rfl, _⟩ := h
    rfl
  · obtain ⟨cs, rfl, hl, q⟩ := h
    refine ⟨_, (pss_one (ps_ret (pe_lc (own := [("_law_k", 1)]) (g := gName 1) rfl scLFirstOrder.nd (pi_range1 (by rfl) T.m_range (pa_cons (pe_callB call_len_str (by rfl) T.m_len PySem.boot_len (pa_cons (pv 0) pa_nil)) pa_nil)) (blkOk_by (N := ["_law_pattern", "_law_k"]) (sc := defScope sLFirstOrder) (by decide +kernel)) (fun _ _ _ _ _ => pg_name (i := 1) scLFirstOrder.nd rfl (Or.inl rfl)) (fun _ _ _ _ _ => pts_one (pt_cmpR op_notIn_sign (pe_ix ix_str (pv 0) (pv 1) (fun _ _ => rfl)) (pe_slice sl_str (pv 0) po_none (po_some (pv 1))) rfl)) (fun _ _ _ _ _ => (pe_ix ix_str (pv 0) (pv 1) (fun _ _ => rfl)))))), ?_⟩
    have tl : (tx cs).length = cs.length := tx_len cs
    refine ⟨_, rfl, _, rfl, by rw [tl]; exact fits5 (by omega), (tx cs).length, rfl, by rw [tl]; omega, by rw [tl]; omega, fun D nD => lc_range (lo := 0) (n := (tx cs).length) (fun i H' => Same H H' ∧ H' D = some (.lst ((met (cs.take i)).map sg))) ?_ ?_ ?_⟩
    · exact ⟨same_new nD, upd_same⟩
    · rintro i H1 hi ⟨s1, hD⟩
      rw [tl] at hi
      obtain ⟨c, hc⟩ : ∃ c, cs[i]? = some c := ⟨_, List.getElem?_eq_getElem hi⟩
      have hx : atI (tx cs).cps.toList ((i : Nat) : Int) = some c := by rw [tx_list]; exact atI_nat hc
      refine ⟨rfl, _, rfl, _, rfl, tx cs, ((i : Nat) : Int), c, rfl, congrArg V.int (by omega), by rw [tl]; exact fits5 (by omega), hx, ?_⟩
      refine ⟨_, rfl, _, rfl, ((i : Nat) : Int), congrArg V.int (by omega), tx cs, rfl, by rw [tl]; exact fits5 (by omega), ?_⟩
      rw [cutS_to cs (by omega)]
      refine ⟨c, _, rfl, rfl, _, rfl, ?_⟩
      rw [tx_list, met_take_snoc hc]
      unfold metStep
      have ml : (met (cs.take i)).length ≤ 40 := Nat.le_trans (met_length_le _) (by rw [List.length_take]; omega)
      by_cases e : c ∈ cs.take i
      · rw [decide_eq_true e, if_pos (mem_met.mpr e)]
        exact iteF ⟨s1, hD⟩
      · rw [decide_eq_false e, if_neg (fun z => e (mem_met.mp z))]
        refine iteT ⟨_, rfl, _, rfl, tx cs, ((i : Nat) : Int), c, rfl, congrArg V.int (by omega), by rw [tl]; exact fits5 (by omega), hx, _, hD, fitsLt (by rw [List.length_map]; omega), Same.put s1 nD, ?_⟩
        rw [upd_same, List.map_append]
        rfl
    · rintro H1 ⟨s1, hD⟩
      rw [tl, List.take_length] at hD
      exact q H1 D s1 nD hD
end
end Mo

namespace Mo
open PySem PySem.Spec PyProof.Rows L2
theorem call_isiK {X : Cx} {K : PySem.W.Frag} (h : X.K = K) : CallR X (.builtin "isinstance") (rIsi K) := by
  subst h
  exact call_isi
end Mo

/-! ### the law's look at a descent -/
namespace Mo
open PySem PySem.Spec PyProof.Rows L2
theorem emp_shown : (PyData.tuple [.int 0, .dict []]).shown = Str.ofString "(0, {})" := by decide +kernel
theorem emp_shw : Shw (PyData.tuple [.int 0, .dict []]) := by
  have hh : (PyData.tuple [.int 0, .dict []]).showable = true ∧ (PyData.tuple [.int 0, .dict []]).depth ≤ 40 ∧ (PyData.tuple [.int 0, .dict []]).shown.length ≤ 1000 := by decide +kernel
  exact ⟨hh.1, hh.2.1, Nat.le_trans hh.2.2 (by decide)⟩
theorem flat_int_eq {cs : List Nat} {g : Nat → List Nat} : (cs.flatMap fun c => intL (g c)) = intL (cs.flatMap g) := intL_flat g cs
section
variable {P : Program} {w : World} {K : PySem.W.Frag} {mg : Str → Option Value} {base : Heap}
def spRgt : Sp := fun vs H Q _ => ∃ (s : Nat) (cs : List Nat) (p a r l p2 a2 : Addr) (ns : List Nat) (ad : Nat → Addr) (g : Nat → List Nat) (v : List (List Nat)) (rest : List Nat) (s2 : Nat) (ad2 : Nat → Addr) (g2 : Nat → List Nat), vs = [.str (tx cs), .ref p, .ref r] ∧ Pat cs ∧ cs ≠ [] ∧ s ≤ 1000000000000000000 ∧ H p = some (.tup [.int s, .ref a]) ∧ ns.Perm (met cs) ∧ Spot H a (met cs).length s cs ns ad g ∧
  H r = some (.tup [.ref l, .str (tx rest), .ref p2]) ∧ H l = some (.lst (tzs v)) ∧ Steps cs v rest ∧ (∀ c ∈ rest, c ∈ cs) ∧ H p2 = some (.tup [.int s2, .ref a2]) ∧ (rest = [] → s2 = 0 ∧ H a2 = some (.dK [])) ∧
  (rest ≠ [] → Spot H a2 (met cs).length s2 rest (met rest) ad2 g2 ∧ (rest.flatMap g2).length < (cs.flatMap g).length ∧ s2 ≤ s) ∧ ∀ H', Same H H' → Q (.bl true) H'
theorem ok_rgt {k : Nat} (T : Txt K mg) (hbm : ∃ mm, base.Ns sysModules mm) : FnG P w K mg base CX0 (k + 5) T.aLDescentRight T.dLDescentRight ["_law_pattern", "_law_place", "_law_told_here"] spRgt := by
  have GLBehindSteps : FnOk P w K mg base CX0 (k + 4) T.aLBehindSteps T.dLBehindSteps ["_law_pattern", "_law_steps"] spBst := ok_bst T
  have GLIsNumber : FnOk P w K mg base CX0 (k + 4) T.aLIsNumber T.dLIsNumber ["_law_value", "_law_low", "_law_high"] spNum := ok_num T
  have GLFirstOrder : FnOk P w K mg base CX0 (k + 4) T.aLFirstOrder T.dLFirstOrder ["_law_pattern"] spFirst := ok_first T
  have GLFilled : FnOk P w K mg base CX0 (k + 4) T.aLFilled T.dLFilled ["_law_pattern", "_law_values"] spFil2 := ok_fil2 T
  have GLQ : FnOk P w K mg base CX0 (k + 4) T.aLQ T.dLQ ["_law_count"] spQ := ok_q T
  have GLText : FnOk P w K mg base CX0 (k + 4) T.aLText T.dLText ["_law_q_here", "_law_start", "_law_length"] spLTex := ok_ltex T
  refine okG T.fLDescentRight scLDescentRight (fun vs H Q E h => ?_) (fun cdv A outer s H vs Q E hr hgd h => ?_)
  · obtain ⟨_, _, _, _, _, _, _, _, _, _, _, _, _, _, _, _, rfl, _⟩ := h
    rfl
  · obtain ⟨st, cs, p, a, r, l, p2, a2, ns, ad, g, v, rest, s2, ad2, g2, rfl, pat, cne, st18, hp, pm, spot, hr2, hl, sts, sub, hp2, hno, hyes, q⟩ := h
    refine ⟨_, (pss_cons (ps_if (PW.pt (pw_or (pt_not (pt_val (pe_callB call_isi (by rfl) T.m_isinstance (by decide +kernel) (pa_cons (pv 2) (pa_cons (pe_bltn (v := .ty "tuple") (by rfl) T.m_tuple (by decide +kernel) rfl) pa_nil))))) (pw_or (pt_cmpR op_ne (pe_callB call_len_seq (by rfl) T.m_len PySem.boot_len (pa_cons (pv 2) pa_nil)) pe_int (nomark _)) (pw_or1 (pt_not (pt_val (pe_callB call_isi (by rfl) T.m_isinstance (by decide +kernel) (pa_cons (pe_ix ix_tup (pv 2) pe_int (fun _ _ => rfl)) (pa_cons (pe_bltn (v := .ty "list") (by rfl) T.m_list (by decide +kernel) rfl) pa_nil))))))))) (pss_one (ps_ret pe_bl)) pss_nil)
      (pss_cons (ps_asg (pv 2) (pg_tup (by rfl) (pgs_cons (pg_name (i := 3) scLDescentRight.nd rfl (Or.inl rfl)) (pgs_cons (pg_name (i := 4) scLDescentRight.nd rfl (Or.inl rfl)) (pgs_cons (pg_name (i := 5) scLDescentRight.nd rfl (Or.inl rfl)) pgs_nil)))))
      (pss_cons (ps_if (PW.pt (pw_or (pt_not (pt_val (pe_callB call_isi (by rfl) T.m_isinstance (by decide +kernel) (pa_cons (pv 4) (pa_cons (pe_bltn (v := .ty "str") (by rfl) T.m_str (by decide +kernel) rfl) pa_nil))))) (pw_or (pt_cmpR op_ne (pe_call GLBehindSteps hr (by rfl) T.gLBehindSteps T.fLBehindSteps.kp T.bLBehindSteps .nil pass0 (pa_cons (pv 0) (pa_cons (pv 3) pa_nil))) (pv 4) (nomark _)) (pw_or1 (pt_not (pt_val (pe_callB call_isi (by rfl) T.m_isinstance (by decide +kernel) (pa_cons (pv 5) (pa_cons (pe_bltn (v := .ty "tuple") (by rfl) T.m_tuple (by decide +kernel) rfl) pa_nil))))))))) (pss_one (ps_ret pe_bl)) pss_nil)
      (pss_cons (ps_if (pt_cmpR op_eq (pv 4) pe_str (nomark _)) (pss_one (ps_ret (pe_cmpR op_eq (pe_callB (Mo.cr_reprX hbm hgd hr.units) (by rfl) T.m_repr (by decide +kernel) (pa_cons (pv 5) pa_nil)) pe_str (nomark _)))) pss_nil)
      (pss_cons (ps_if (PW.pt (pw_or (pt_cmpR op_ne (pe_callB call_len_seq (by rfl) T.m_len PySem.boot_len (pa_cons (pv 5) pa_nil)) pe_int (nomark _)) (pw_or (pt_not (pt_val (pe_call GLIsNumber hr (by rfl) T.gLIsNumber T.fLIsNumber.kp T.bLIsNumber .nil pass0 (pa_cons (pe_ix ix_tup (pv 5) pe_int (fun _ _ => rfl)) (pa_cons pe_int (pa_cons (pe_op op_pow pe_int pe_int) pa_nil)))))) (pw_or1 (pt_not (pt_val (pe_callB call_isi (by rfl) T.m_isinstance (by decide +kernel) (pa_cons (pe_ix ix_tup (pv 5) pe_int (fun _ _ => rfl)) (pa_cons (pe_bltn (v := .ty "dict") (by rfl) T.m_dict (by decide +kernel) rfl) pa_nil))))))))) (pss_one (ps_ret pe_bl)) pss_nil)
      (pss_cons (ps_if (pt_cmpR (Mo.op_neFl hr.units) (pe_callTy (call_listD rfl) (by rfl) T.m_list (by decide +kernel) (pa_cons (pe_ix ix_tup (pv 5) pe_int (fun _ _ => rfl)) pa_nil)) (pe_call GLFirstOrder hr (by rfl) T.gLFirstOrder T.fLFirstOrder.kp T.bLFirstOrder .nil pass0 (pa_cons (pv 4) pa_nil)) (nomark _)) (pss_one (ps_ret pe_bl)) pss_nil)
      (pss_cons (ps_if (pt_cmpR (Mo.op_neNil hr.units) (pe_lock (pe_lc (own := [("_law_text_here", 6)]) (g := gName 6) rfl scLDescentRight.nd (pi_values (pe_ix ix_tup (pv 5) pe_int (fun _ _ => rfl))) (blkOk_by (N := ["_law_pattern", "_law_place", "_law_told_here", "_law_steps", "_law_rest", "_law_later", "_law_text_here", "_law_block_here", "_law_q_here"]) (sc := defScope sLDescentRight) (by decide +kernel)) (fun _ _ _ _ _ => pg_name (i := 6) scLDescentRight.nd rfl (Or.inl rfl)) (fun _ _ _ _ _ => pts_one (PW.pt (pw_or (pt_not (pt_val (pe_callB (Mo.call_isiK (K := K) rfl) (by rfl) T.m_isinstance (by decide +kernel) (pa_cons (pv 6) (pa_cons (pe_bltn (v := .ty "tuple") (by rfl) T.m_tuple (by decide +kernel) rfl) pa_nil))))) (pw_or1 (pt_cmpR (Mo.op_eqNilTK (K := K) rfl hr.units) (pv 6) (pe_tup pa_nil) (nomark _)))))) (fun _ _ _ _ _ => (pv 6)))) (pe_lst pa_nil) (nomark _)) (pss_one (ps_ret pe_bl)) pss_nil)
      (pss_cons (ps_par (i := 7) (j := 8) (by rfl) scLDescentRight.nd rfl rfl (by decide) rfl rfl (pa_cons (pe_call GLFilled hr (by rfl) T.gLFilled T.fLFilled.kp T.bLFilled .nil pass0 (pa_cons (pv 4) (pa_cons (pe_ix ix_tup (pv 5) pe_int (fun _ _ => rfl)) pa_nil))) (pa_cons (pe_call GLQ hr (by rfl) T.gLQ T.fLQ.kp T.bLQ .nil pass0 (pa_cons (pe_callB call_lenD (by rfl) T.m_len PySem.boot_len (pa_cons (pe_ix ix_tup (pv 1) pe_int (fun _ _ => rfl)) pa_nil)) pa_nil)) pa_nil)) (by rfl))
      (pss_cons (ps_if (pt_cmpR op_ge (pe_callB call_len_seq (by rfl) T.m_len PySem.boot_len (pa_cons (pv 7) pa_nil)) (pe_callB call_len_seq (by rfl) T.m_len PySem.boot_len (pa_cons (pe_call GLFilled hr (by rfl) T.gLFilled T.fLFilled.kp T.bLFilled .nil pass0 (pa_cons (pv 0) (pa_cons (pe_ix ix_tup (pv 1) pe_int (fun _ _ => rfl)) pa_nil))) pa_nil)) (nomark _)) (pss_one (ps_ret pe_bl)) pss_nil)
      (pss_one (ps_ret (pe_cmpR op_eq (pe_callB (Mo.cr_reprX hbm hgd hr.units) (by rfl) T.m_repr (by decide +kernel) (pa_cons (pv 7) pa_nil)) (pe_callB (Mo.cr_reprX hbm hgd hr.units) (by rfl) T.m_repr (by decide +kernel) (pa_cons (pe_call GLText hr (by rfl) T.gLText T.fLText.kp T.bLText .nil pass0 (pa_cons (pv 8) (pa_cons (pe_ix ix_tup (pv 5) pe_int (fun _ _ => rfl)) (pa_cons (pe_callB call_len_seq (by rfl) T.m_len PySem.boot_len (pa_cons (pv 7) pa_nil)) pa_nil)))) pa_nil)) (nomark _))))))))))))), ?_⟩
    have c40 := pat.len
    refine ⟨_, rfl, _, _, .type "tuple", .type "tuple", true, rfl, .ty "tuple", .base (.tup hr2), kit_ty (by decide +kernel), true, rfl, iteF ?_⟩
    refine ⟨_, rfl, r, _, rfl, .inr (SqT.of hr2), rfl, false, same_ne (.int 3), iteF ?_⟩
    refine ⟨_, rfl, r, _, 0, .ref l, rfl, rfl, SqT.of hr2, rfl, _, _, .type "list", .type "list", true, rfl, .ty "list", .base (.lst hl), kit_ty (by decide +kernel), true, rfl, iteF ?_⟩
    refine ⟨_, rfl, r, _, rfl, SqT.of hr2, rfl, _, _, rfl, _, _, rfl, _, _, rfl, rfl, ?_⟩
    refine ⟨_, rfl, _, _, .type "str", .type "str", true, rfl, .ty "str", .base (.str _), kit_ty (by decide +kernel), true, rfl, iteF ?_⟩
    refine ⟨_, rfl, _, rfl, cs, l, v, rest, rfl, c40, hl, sts, fun H1 s1 => ⟨_, rfl, rfl, false, same_ne _, iteF ?_⟩⟩
    have hp21 := s1 _ _ hp2
    refine ⟨_, rfl, _, _, .type "tuple", .type "tuple", true, rfl, .ty "tuple", .base (.tup hp21), kit_ty (by decide +kernel), true, rfl, iteF ?_⟩
    refine ⟨_, rfl, rfl, decide (rest = []), congrArg V.bl (decide_eq_decide.mpr ⟨fun z => tx_inj ((V.str.inj z).trans tx_nil), fun z => by rw [z]; exact congrArg V.str tx_nil⟩), ite2 (fun e => ?_) (fun e => ?_)⟩
    · obtain ⟨rfl, ha2⟩ := hno (of_decide_eq_true e)
      obtain ⟨f1, f2, f3⟩ := emp_shw
      refine ⟨_, rfl, (fun _ => False), .ref p2, .tuple [.int 0, .dict []], rfl, .tup hp21 (fun z => z) (.cons (.int _) (.cons (.dct (kvs := []) (s1 _ _ ha2) (fun z => z) .nil) .nil)), f1, f2, f3, rfl, ?_⟩
      rw [decide_eq_true (congrArg V.str emp_shown)]
      exact q H1 s1
    have rne : rest ≠ [] := fun z => e (decide_eq_true z)
    obtain ⟨sp2, less, s2le⟩ := hyes rne
    have sp21 := sp2.same s1
    have hv2 := sp21.va
    clear hno hyes e
    refine ⟨_, rfl, p2, _, rfl, .inr (SqT.of hp21), rfl, false, same_ne (.int 2), iteF ?_⟩
    have hnum : numB 0 ((10 : Int) ^ (18 : Int).toNat) (.int (s2 : Int)) = true := by
      have e18 : ((10 : Int) ^ (18 : Int).toNat) = 1000000000000000000 := by decide +kernel
      unfold numB
      rw [e18, show plainD (.int (s2 : Int)) = true from rfl, show intD (.int (s2 : Int)) = (s2 : Int) from rfl, decide_eq_true (show (0 : Int) ≤ (s2 : Int) by omega), decide_eq_true (show (s2 : Int) ≤ 1000000000000000000 by omega)]
      rfl
    refine ⟨_, rfl, p2, _, 0, .int (s2 : Int), rfl, rfl, SqT.of hp21, rfl, 10, 18, rfl, rfl, ⟨by decide, by decide, by decide⟩, (fun _ => False), .int (s2 : Int), .int (s2 : Int), 0, _, rfl, .int _, fun H2 s2' => ⟨true, congrArg V.bl hnum, iteF ?_⟩⟩
    have hp22 := s2' _ _ hp21
    have hv3 := hv2.same s2'
    have s12 := s1.trans s2'
    refine ⟨_, rfl, p2, _, 1, .ref a2, rfl, rfl, SqT.of hp22, rfl, _, _, .type "dict", .type "dict", true, rfl, .ty "dict", .base (.dK hv3.ha), kit_ty (by decide +kernel), true, rfl, iteF ?_⟩
    refine ⟨_, rfl, p2, _, 1, .ref a2, rfl, rfl, SqT.of hp22, rfl, a2, _, rfl, .inl hv3.ha, fun D nD => ?_⟩
    have sD := same_new (o := .lst ((dk (valsD (met rest) ad2)).map fun kv => kV kv.1)) nD
    have ek : ((dk (valsD (met rest) ad2)).map fun kv => kV kv.1) = (met rest).map sg := by
      rw [vals_list, List.map_map]
      rfl
    have hD : upd H2 D (.lst ((dk (valsD (met rest) ad2)).map fun kv => kV kv.1)) D = some (.lst ((met rest).map sg)) := by rw [upd_same, ek]
    have hp23 := sD _ _ hp22
    have hv4 := hv3.same sD
    have s13 := s12.trans sD
    clear hp2 hp21 hp22 hv2 hv3 s2' s12 sD nD hnum
    generalize upd H2 D (.lst ((dk (valsD (met rest) ad2)).map fun kv => kV kv.1)) = H3 at *
    have rl40 : rest.length ≤ 40 := by
      rw [sts.gone]
      exact Nat.le_trans (wo_len _ _) c40
    refine ⟨_, rfl, rest, rfl, rl40, fun H4 D2 s4 nD2 hD2 => ⟨_, _, ⟨D, D2, rfl, rfl, sgs_fl _, sgs_fl _, .inl ⟨SqL.of (s4 _ _ hD), SqL.of hD2⟩⟩, false, congrArg V.bl (by rw [eqLs_self (sgs_fl _)]; rfl), iteF ?_⟩⟩
    have hp24 := s4 _ _ hp23
    have hv5 := hv4.same s4
    have s14 := s13.trans s4
    clear hD hD2 hp23 hv4 s13
    -- the values
    refine ⟨a2, _, hv5.ha, trivial, fun od => ?_⟩
    have frz0 : upd H4 a2 (.frz od (.dK (dk (valsD (met rest) ad2)))) a2 = some (.frz od (.dK (dk (valsD (met rest) ad2)))) := upd_same
    have back : ∀ {H' : Hp}, Same (upd H4 a2 (.frz od (.dK (dk (valsD (met rest) ad2))))) H' → Same H4 (upd H' a2 (.dK (dk (valsD (met rest) ad2)))) := fun s => lock_sameQ hv5.ha s
    have hpz : upd H4 a2 (.frz od (.dK (dk (valsD (met rest) ad2)))) p2 = some (.tup [.int s2, .ref a2]) := by
      rw [upd_ne (fun z => by rw [z, hv5.ha] at hp24; cases hp24)]
      exact hp24
    have elz : ∀ c ∈ met rest, upd H4 a2 (.frz od (.dK (dk (valsD (met rest) ad2)))) (ad2 c) = some (.tup ((intL (g2 c)).map V.int)) := fun c hc => by
      have h1 := hv5.el c hc
      rw [upd_ne (fun z => by rw [z, hv5.ha] at h1; cases h1)]
      exact h1
    generalize upd H4 a2 (.frz od (.dK (dk (valsD (met rest) ad2)))) = Hz at *
    refine ⟨_, rfl, p2, _, 1, .ref a2, rfl, rfl, SqT.of hpz, rfl, a2, od, _, rfl, frz0, fun D3 nD3 => lc_it walk_values (fun i H' => Same Hz H' ∧ H' D3 = some (.lst [])) ?_ ?_ ?_ ?_⟩
    · exact ⟨same_new nD3, upd_same⟩
    · exact fun i H' _ h => h.1 _ _ frz0
    · rintro i x H5 H5' hi ⟨s5, hD5⟩ ⟨rfl, kk, hkv⟩
      rw [vals_list, List.getElem?_map] at hkv
      obtain ⟨c, hc, e2⟩ := Option.map_eq_some_iff.mp hkv
      obtain ⟨rfl, rfl⟩ := Prod.mk.inj e2
      have cm := List.mem_of_getElem? hc
      have hel := s5 _ _ (elz c cm)
      have gne : g2 c ≠ [] := sp2.ne c (mem_met.mp cm)
      refine ⟨rfl, _, rfl, _, _, .type "tuple", .type "tuple", true, rfl, .ty "tuple", .base (.tup hel), kit_ty (by decide +kernel), true, rfl, iteF ?_⟩
      refine ⟨_, rfl, Nat.zero_le _, fun t nt => ⟨ad2 c, t, _, rfl, rfl, SqT.of ((same_new nt) _ _ hel), SqT.of upd_same, false, ?_, iteF ⟨s5.trans (same_new nt), (same_new nt) _ _ hD5⟩⟩⟩
      cases hg : g2 c with
      | nil => exact absurd hg gne
      | cons _ _ => rfl
    rintro H5 ⟨s5, hD5⟩
    have s45 := back s5
    have nDa : D3 ≠ a2 := fun z => by
      have h1 := s5 _ _ frz0
      rw [← z, hD5] at h1
      cases h1
    have hD6 : upd H5 a2 (.dK (dk (valsD (met rest) ad2))) D3 = some (.lst []) := by rw [upd_ne nDa]; exact hD5
    refine ⟨s5 _ _ frz0, Nat.zero_le _, fun E0 nE => ⟨D3, E0, [], rfl, rfl, SqL.of ((same_new nE) _ _ hD6), SqL.of upd_same, false, rfl, iteF ?_⟩⟩
    have sE := same_new (o := .lst []) nE
    have s16 := s14.trans (s45.trans sE)
    have hp26 := (s45.trans sE) _ _ hp24
    have hv6 := hv5.same (s45.trans sE)
    generalize upd (upd H5 a2 (.dK (dk (valsD (met rest) ad2)))) E0 (.lst []) = H6 at *
    clear hD6 sE nE nDa s45 hD5 s5 elz hpz back frz0 hv5 hp24 s14 nD3
    -- the block, and q
    have l1 : (rest.flatMap fun c => intL (g2 c)).length = (rest.flatMap g2).length := by rw [flat_int_eq, intL_len]
    have l2 : (cs.flatMap fun c => intL (g c)).length = (cs.flatMap g).length := by rw [flat_int_eq, intL_len]
    have l3 := spot.len
    have b1 : rest.flatMap (fun c => intL (g2 c)) = avs (qOf (met cs).length) s2 (rest.flatMap g2).length := by
      rw [flat_int_eq, avs_blA]
      exact congrArg intL sp2.pl
    have hp6 := s16 _ _ hp
    have va6 := spot.va.same s16
    have m8 := pat.few
    have m1 : 1 ≤ (met cs).length := by
      cases cs with
      | nil => exact absurd rfl cne
      | cons c t => exact List.length_pos_iff.mpr (List.ne_nil_of_mem (mem_met.mpr (List.mem_cons_self (a := c) (l := t))))
    obtain ⟨q1, q2, _⟩ := qOf_in (met cs).length m1 m8
    refine ⟨_, rfl, _, rfl, p2, _, 1, .ref a2, rfl, rfl, SqT.of hp26, rfl, rest, a2, _, (fun c => intL (g2 c)), rfl, hv6.ha, by rw [l1]; omega, fun c hc => ⟨ad2 c, vals_get (met_nodup _) (mem_met.mpr hc), hv6.el c (mem_met.mpr hc)⟩, fun H7 B s7 hB => ?_⟩
    rw [b1] at hB
    refine ⟨_, rfl, p, _, 1, .ref a, rfl, rfl, SqT.of (s7 _ _ hp6), rfl, a, _, rfl, s7 _ _ va6.ha, (met cs).length, by rw [vals_len, pm.length_eq]; rfl, m1, m8, fun H8 s8 => ⟨_, _, rfl, ?_⟩⟩
    have s68 := s7.trans s8
    have hB8 := s8 _ _ hB
    have lenB : ((avs (qOf (met cs).length) s2 (rest.flatMap g2).length).map V.int).length = (rest.flatMap g2).length := by rw [List.length_map, avs_len]
    refine ⟨_, rfl, B, _, rfl, .inr (SqT.of hB8), _, rfl, _, rfl, p, _, 1, .ref a, rfl, rfl, SqT.of (s68 _ _ hp6), rfl, cs, a, _, (fun c => intL (g c)), rfl, s68 _ _ va6.ha, by rw [l2]; omega, fun c hc => ⟨ad c, vals_get spot.nd (spot.sub c hc), s68 _ _ (va6.el c (spot.sub c hc))⟩, fun H9 B2 s9 hB2 => ⟨B2, _, rfl, .inr (SqT.of hB2), _, _, rfl, rfl, false, ?_, iteF ?_⟩⟩
    · rw [lenB, List.length_map, l2]
      exact congrArg V.bl (decide_eq_false (by omega))
    have hB9 := s9 _ _ hB8
    have s69 := s68.trans s9
    have rng := avs_range (q := qOf (met cs).length) (s := s2) (n := (rest.flatMap g2).length) (by omega) q2
    have ftx : Fit 40 9000 1 (txU (avs (qOf (met cs).length) s2 (rest.flatMap g2).length)) := fit_txu (by rw [avs_len]; omega) rng
    obtain ⟨f1, f2, f3⟩ := ftx.repr (by decide) (by decide) (by decide) (by decide)
    refine ⟨_, rfl, (fun _ => False), .ref B, _, rfl, .tup hB9 (fun z => z) (ints_dx _), f1, f2, f3, _, rfl, _, rfl, p2, _, 0, .int (s2 : Int), rfl, rfl, SqT.of (s69 _ _ hp26), rfl, _, rfl, B, _, rfl, .inr (SqT.of hB9), qOf (met cs).length, s2, (rest.flatMap g2).length, by rw [lenB]; rfl, by omega, q2, by omega, by omega, fun HA T' sA hT => ?_⟩
    refine ⟨(fun _ => False), .ref T', _, rfl, .tup hT (fun z => z) (ints_dx _), f1, f2, f3, rfl, ?_⟩
    have fin := q HA ((s16.trans s69).trans sA)
    rw [decide_eq_true rfl]
    exact fin
end
end Mo

/-! ### check_avoiding_place and chain_from_avoiding, where they raise -/
namespace Mo
open PySem PySem.Spec PyProof.Rows L2
theorem fn_or2 {P : Program} {w : World} {K : PySem.W.Frag} {mg : Str → Option Value} {base : Heap} {CX : CXT} {k : Nat} {f : Addr} {fd : FuncData} {ps : List Str} {sp sp' : Sp} (F : FnOk P w K mg base CX k f fd ps sp) (G : FnOk P w K mg base CX k f fd ps sp') :
    FnOk P w K mg base CX k f fd ps (fun vs H Q E => sp vs H Q E ∨ sp' vs H Q E) :=
  ⟨fun vs H Q E q => q.elim (F.len vs H Q E) (G.len vs H Q E), fun A outer s H args us vs Q E hr he hb hv hs => hs.elim (F.run A outer s H args us vs Q E hr he hb hv) (G.run A outer s H args us vs Q E hr he hb hv)⟩
section
variable {P : Program} {w : World} {K : PySem.W.Frag} {mg : Str → Option Value} {base : Heap}
theorem ok_initPlc {k : Nat} (T : Txt K mg) : FnOk P w K mg base CX0 (k + 1) T.iInvalidPlace T.dInvalidPlace ["self", "value"] (spInit T.cInvalidPlace "value") := by
  refine T.fInitInvalidPlace.ok scInitInvalidPlace (fun vs H Q E h => ?_) (fun cdv A outer s H vs Q E hr h => ?_)
  · obtain ⟨a, y, rfl, _⟩ := h
    rfl
  · obtain ⟨a, y, rfl, ha, q⟩ := h
    refine ⟨_, pss_one (ps_ost (pv 0) (pv 1)), ?_⟩
    exact ⟨_, rfl, _, rfl, a, T.cInvalidPlace, rfl, T.xInvalidPlace.oex, T.xInvalidPlace.no, .inl ⟨ha, fun dx nd ne => q dx nd ne⟩⟩
theorem ok_capA {k : Nat} (T : Txt K mg) : FnOk P w K mg base (L2.CX P w) (k + 35) T.aCheckAvoidingPlace T.dCheckAvoidingPlace ["pattern", "place"] (spIapX T.cInvalidPattern) := by
  have GIsAvoidingPlaceX : FnOk P w K mg base (L2.CX P w) (k + 34) T.aIsAvoidingPlace T.dIsAvoidingPlace ["pattern", "value"] (spIapX T.cInvalidPattern) := ok_iapX T
  have GInitInvalidPlace : FnOk P w K mg base CX0 (k + 33) T.iInvalidPlace T.dInvalidPlace ["self", "value"] (spInit T.cInvalidPlace "value") := ok_initPlc T
  refine T.fCheckAvoidingPlace.okX scCheckAvoidingPlace (fun vs H Q E h => ?_) (fun cdv A outer s H vs Q E hr h => ?_)
  · obtain ⟨_, _, _, _, rfl, _⟩ := h
    rfl
  · obtain ⟨N, x, y, d, rfl, dx, bx, no, out⟩ := h
    refine ⟨_, (pss_one (ps_if (pt_not (pt_val (pe_call GIsAvoidingPlaceX hr (by rfl) T.gIsAvoidingPlace T.fIsAvoidingPlace.kp T.bIsAvoidingPlace .nil (passes_call (takes_of rfl rfl rfl rfl) (fun _ _ _ _ h => h)) (pa_cons (pv 0) (pa_cons (pv 1) pa_nil))))) (pss_one (ps_raise rfl (takes_of rfl rfl rfl rfl) (pmk_oex T.xInvalidPlace.oex T.xInvalidPlace.iC T.xInvalidPlace.tI GInitInvalidPlace hr T.bInitInvalidPlace .nil pass0 (by rfl) T.eInvalidPlace (pa_cons (pv 1) pa_nil)))) pss_nil)), ?_⟩
    exact ⟨_, rfl, _, rfl, N, x, y, d, rfl, dx, bx, no, out⟩
def spIapF (D : Addr) : Sp := fun vs H Q E => ∃ (cs : List Nat) (x : V) (N : Addr → Prop), vs = [.str (tx cs), x] ∧ Pat cs ∧ cs ≠ [] ∧ AvIn N H cs x false ∧ OutV D H E x
theorem ok_capB {k : Nat} (T : Txt K mg) : FnOk P w K mg base (L2.CX P w) (k + 35) T.aCheckAvoidingPlace T.dCheckAvoidingPlace ["pattern", "place"] (spIapF T.cInvalidPlace) := by
  have GIsAvoidingPlace : FnOk P w K mg base CX0 (k + 34) T.aIsAvoidingPlace T.dIsAvoidingPlace ["pattern", "value"] spIap := ok_iap T
  have GInitInvalidPlace : FnOk P w K mg base CX0 (k + 33) T.iInvalidPlace T.dInvalidPlace ["self", "value"] (spInit T.cInvalidPlace "value") := ok_initPlc T
  refine T.fCheckAvoidingPlace.okX scCheckAvoidingPlace (fun vs H Q E h => ?_) (fun cdv A outer s H vs Q E hr h => ?_)
  · obtain ⟨_, _, _, rfl, _⟩ := h
    rfl
  · obtain ⟨cs, x, N, rfl, pat, ne, av, out⟩ := h
    refine ⟨_, (pss_one (ps_if (pt_not (pt_val (pe_call GIsAvoidingPlace hr (by rfl) T.gIsAvoidingPlace T.fIsAvoidingPlace.kp T.bIsAvoidingPlace .nil pass0 (pa_cons (pv 0) (pa_cons (pv 1) pa_nil))))) (pss_one (ps_raise rfl (takes_of rfl rfl rfl rfl) (pmk_oex T.xInvalidPlace.oex T.xInvalidPlace.iC T.xInvalidPlace.tI GInitInvalidPlace hr T.bInitInvalidPlace .nil pass0 (by rfl) T.eInvalidPlace (pa_cons (pv 1) pa_nil)))) pss_nil)), ?_⟩
    exact ⟨_, rfl, _, rfl, cs, x, N, false, rfl, pat, ne, av, fun H1 s1 => ⟨false, rfl, iteT ⟨_, rfl, err_read fun dd H' nd s5 hd => out dd H' (s1.free nd) (s1.trans s5) hd⟩⟩⟩
theorem ok_dscX {k : Nat} (T : Txt K mg) : FnOk P w K mg base (L2.CX P w) (k + 36) T.aDescend T.dDescend ["pattern", "place"] (fun vs H Q E => spIapX T.cInvalidPattern vs H Q E ∨ spIapF T.cInvalidPlace vs H Q E) := by
  have GCheckAvoidingPlaceX := fn_or2 (ok_capA (k := k) (P := P) (w := w) (base := base) T) (ok_capB T)
  refine T.fDescend.okX scDescend (fun vs H Q E h => ?_) (fun cdv A outer s H vs Q E hr h => ?_)
  · rcases h with ⟨_, _, _, _, rfl, _⟩ | ⟨_, _, _, rfl, _⟩ <;> rfl
  · obtain ⟨x, y, rfl⟩ : ∃ x y, vs = [x, y] := by
      rcases h with ⟨_, x, y, _, rfl, _⟩ | ⟨cs, x, _, rfl, _⟩
      · exact ⟨x, y, rfl⟩
      · exact ⟨_, x, rfl⟩
    refine ⟨_, (pss_cons (ps_expr (pe_call GCheckAvoidingPlaceX hr (by rfl) T.gCheckAvoidingPlace T.fCheckAvoidingPlace.kp T.bCheckAvoidingPlace .nil (passes_call (takes_of rfl rfl rfl rfl) (fun _ _ _ _ h => h)) (pa_cons (pv 0) (pa_cons (pv 1) pa_nil))))
      Mo.pss_never), ?_⟩
    refine ⟨_, rfl, _, rfl, ?_⟩
    rcases h with ⟨N, x', y', d, e, dx, bx, no, out⟩ | ⟨cs, x', N, e, pat, ne, av, out⟩
    · exact .inl ⟨N, x', y', d, e, dx, bx, no, out⟩
    · exact .inr ⟨cs, x', N, e, pat, ne, av, out⟩
end
end Mo

namespace Mo
open PySem PySem.Spec PyProof.Rows L2
/-- what _law_told makes of a call that raises -/
def TTold (cN cC : Addr) : (XK → Hp → VK → Prop) → Hp → VK → Prop := fun tl H Q =>
  (∃ (N : Addr → Prop) (x : V) (d : PyData), Dx N H x d ∧ Shw d ∧ (∀ (E : XK) (Q1 : VK), OutV cN H E x → tl E H Q1) ∧
    ∀ H' p, Same H H' → H' p = some (.tup [.str (Str.ofString "pattern"), .str d.shown, .bl true]) → Q (.ref p) H') ∨
  (∃ (N : Addr → Prop) (x : V) (d : PyData), Dx N H x d ∧ Shw d ∧ (∀ (E : XK) (Q1 : VK), OutV cC H E x → tl E H Q1) ∧
    ∀ H' p, Same H H' → H' p = some (.tup [.str (Str.ofString "place"), .str d.shown, .bl true]) → Q (.ref p) H')
section
variable {P : Program} {w : World} {K : PySem.W.Frag} {mg : Str → Option Value} {base : Heap}
theorem givesLTold (T : Txt K mg) (hbm : ∃ mm, base.Ns sysModules mm) {N : List Str} {qual : Str} {sc : Scope} {f0 : Addr} {cd0 : Value} {A : Around} {outer : List Env} {s0 : Shared} {H0 : Hp} {E0 : XK} {k : Nat} {q : Str} (hgd : A.guards = some []) :
    ∀ cdv : Value, GivesF (cxOf CX0 P w K mg base N qual sc f0 cd0 A outer s0 H0 E0).nox ["_law_call", "_law_heard", "e"] "_law_told" (defScope sLTold) T.aLTold cdv (defBody sLTold) "_law_call" q k (TTold T.cInvalidPattern T.cInvalidPlace) := by
  intro cdv fn cc F s H Q tl _ hr act hco hfn h
  refine ⟨_, (pss_cons (ps_set (i := 1) scLTold.nd rfl (Or.inl rfl) pe_non)
      (pss_cons (Mo.ps_try_each rfl rfl scLTold.nd takes0 (fun W pn xe tk _ => (pss_one (ps_set (i := 1) scLTold.nd rfl (Or.inl rfl) (act _ _ _ _ _ tk)))) (.cons ⟨rfl, by decide, Or.inl T.eInvalidPattern⟩ (i := 2) rfl rfl (fun a oe cls d pn hz hf => (pss_one (ps_set (i := 1) scLTold.nd rfl (Or.inl rfl) (pe_tup (pa_cons pe_str (pa_cons (pe_callB (Mo.cr_reprX hbm hgd hr.units) (by rfl) T.m_repr (by decide +kernel) (pa_cons (Mo.pe_xs hz hf (pv 2)) pa_nil)) (pa_cons (pe_and (pe_callB (Mo.cr_isS hz hf) (by rfl) T.m_isinstance (by decide +kernel) (pa_cons (pv 2) (pa_cons (pe_bltn (v := .ty "ValueError") (by rfl) T.m_ValueError (by decide +kernel) rfl) pa_nil))) (pe_one (pe_not (pe_callB (Mo.cr_isST hz hf) (by rfl) T.m_isinstance (by decide +kernel) (pa_cons (pv 2) (pa_cons (pe_tup (pa_cons (pe_glob (v := .ref T.cInvalidPlace) rfl T.eInvalidPlace rfl) (pa_cons (pe_glob (v := .ref T.cInvalidText) rfl T.eInvalidText rfl) pa_nil))) pa_nil)))))) pa_nil))))))) (.cons ⟨rfl, by decide, Or.inl T.eInvalidPlace⟩ (i := 2) rfl rfl (fun a oe cls d pn hz hf => (pss_one (ps_set (i := 1) scLTold.nd rfl (Or.inl rfl) (pe_tup (pa_cons pe_str (pa_cons (pe_callB (Mo.cr_reprX hbm hgd hr.units) (by rfl) T.m_repr (by decide +kernel) (pa_cons (Mo.pe_xs hz hf (pv 2)) pa_nil)) (pa_cons (pe_and (pe_callB (Mo.cr_isS hz hf) (by rfl) T.m_isinstance (by decide +kernel) (pa_cons (pv 2) (pa_cons (pe_bltn (v := .ty "ValueError") (by rfl) T.m_ValueError (by decide +kernel) rfl) pa_nil))) (pe_one (pe_not (pe_callB (Mo.cr_isS hz hf) (by rfl) T.m_isinstance (by decide +kernel) (pa_cons (pv 2) (pa_cons (pe_glob (v := .ref T.cInvalidText) rfl T.eInvalidText rfl) pa_nil)))))) pa_nil))))))) .nil)))
      (pss_one (ps_ret (pv 1))))), ?_⟩
  refine ⟨rfl, hco, hfn, fun cls d H' => _, fun cls d H' z => z, ?_⟩
  rcases h with ⟨N0, x, d, dx, ⟨f1, f2, f3⟩, hB, q⟩ | ⟨N0, x, d, dx, ⟨f1, f2, f3⟩, hC, q⟩
  · refine hB _ _ fun dd H1 nd s1 hd => ?_
    refine ⟨true, T.xInvalidPattern.te, fun _ a na => ?_, fun z => nomatch z⟩
    refine ⟨_, rfl, T.cInvalidPattern, dd, _, x, rfl, rfl, rfl, hd, T.xInvalidPattern.xf, T.xInvalidPattern.no, by simp [List.lookup], N0, x, d, rfl, dx.same s1, f1, f2, f3, ?_⟩
    refine ⟨_, rfl, T.cInvalidPattern, dd, _, .ty "ValueError", .type "ValueError", true, rfl, rfl, rfl, hd, T.xInvalidPattern.exc, .ty _, T.oInvalidPatternValueError, true, rfl, ?_⟩
    refine ⟨_, rfl, by show 2 ≤ sizeLine; decide, fun tp ntp => ?_⟩
    have s2 := same_new (o := .tup [.ref T.cInvalidPlace, .ref T.cInvalidText]) ntp
    refine ⟨T.cInvalidPattern, dd, tp, _, [.ref T.cInvalidPlace, .ref T.cInvalidText], [.ref T.cInvalidPlace, .ref T.cInvalidText], false, rfl, rfl, rfl, s2 _ _ hd, T.xInvalidPattern.exc, upd_same, .cons (.own _) (.cons (.own _) .nil), T.kInvalidPatternInvalidPlaceInvalidText, false, rfl, ?_⟩
    refine ⟨by show 3 ≤ sizeLine; decide, fun p np => ?_⟩
    exact ⟨_, rfl, q _ p ((s1.trans s2).trans (same_new np)) upd_same⟩
  · refine hC _ _ fun dd H1 nd s1 hd => ?_
    refine ⟨false, T.mInvalidPlaceInvalidPattern, fun z => Bool.noConfusion z, fun _ => ⟨true, T.xInvalidPlace.te, fun _ a na => ?_, fun z => nomatch z⟩⟩
    refine ⟨_, rfl, T.cInvalidPlace, dd, _, x, rfl, rfl, rfl, hd, T.xInvalidPlace.xf, T.xInvalidPlace.no, by simp [List.lookup], N0, x, d, rfl, dx.same s1, f1, f2, f3, ?_⟩
    refine ⟨_, rfl, T.cInvalidPlace, dd, _, .ty "ValueError", .type "ValueError", true, rfl, rfl, rfl, hd, T.xInvalidPlace.exc, .ty _, T.oInvalidPlaceValueError, true, rfl, ?_⟩
    refine ⟨_, rfl, T.cInvalidPlace, dd, _, .ref T.cInvalidText, .ref T.cInvalidText, false, rfl, rfl, rfl, hd, T.xInvalidPlace.exc, .own _, T.oInvalidPlaceInvalidText, false, rfl, ?_⟩
    refine ⟨by show 3 ≤ sizeLine; decide, fun p np => ?_⟩
    exact ⟨_, rfl, q _ p (s1.trans (same_new np)) upd_same⟩
end
end Mo

/-! ### where the avoiding text repeats -/
namespace Mo
open PySem PySem.Spec PyProof.Rows L2
theorem av_one {q : Nat} (hq : 2 ≤ q) : av q 1 = q := by
  have h := av_at hq 0 (j := 1) (by omega)
  rw [av_zero, Nat.zero_mul, Nat.zero_add] at h
  rw [h]
  unfold ltr
  simp
theorem av_q {q : Nat} (hq : 2 ≤ q) : av q q = 1 := by
  have h := av_at hq 1 (j := 0) (by omega)
  rw [av_one hq, Nat.one_mul, Nat.add_zero] at h
  rw [h]
  unfold ltr
  rw [Nat.div_self (by omega), Nat.mul_zero, Nat.zero_mul, Nat.add_zero, Nat.zero_add, Nat.mod_eq_of_lt (by omega)]
theorem av_sq {q t : Nat} (hq : 2 ≤ q) (ht : t < q) : av q (q * q + t) = t * q + t := by
  rw [av_at hq q ht, av_q hq]
  unfold ltr
  rw [Nat.div_eq_of_lt (show 1 < q by omega), Nat.mod_eq_of_lt (show 1 < q by omega), Nat.zero_add, Nat.one_mul, Nat.mod_eq_of_lt ht]
theorem av_last {q t : Nat} (hq : 2 ≤ q) (ht : t < q) : av q ((q * q + t) * q + (q - 1)) = (q - 1) * q := by
  rw [av_at hq _ (show q - 1 < q by omega), av_sq hq ht]
  have e1 : (t * q + t) / q = t := by
    rw [Nat.mul_comm, Nat.mul_add_div (by omega), Nat.div_eq_of_lt ht, Nat.add_zero]
  have e2 : (t * q + t) % q = t := by
    rw [Nat.mul_comm, Nat.mul_add_mod, Nat.mod_eq_of_lt ht]
  unfold ltr
  rw [e1, e2]
  have e3 : t + t * (q - 1) = q * t := by
    obtain ⟨r, rfl⟩ : ∃ r, q = r + 1 := ⟨q - 1, by omega⟩
    rw [Nat.add_sub_cancel, Nat.add_mul, Nat.one_mul, Nat.mul_comm t r, Nat.add_comm]
  rw [e3, Nat.mul_mod_right, Nat.add_zero]
theorem av_lift {q x y u : Nat} (hq : 2 ≤ q) (h : av q x = av q y) (hu : u < q) : av q (x * q + u) = av q (y * q + u) := by
  rw [av_at hq _ hu, av_at hq _ hu, h]
theorem av_liftW {q w x y u : Nat} (hq : 2 ≤ q) (hw : w = q ∨ w = q * q) (h : av q x = av q y) (hu : u < w) : av q (x * w + u) = av q (y * w + u) := by
  rcases hw with rfl | rfl
  · exact av_lift hq h hu
  · have h1 : u / q < q := Nat.div_lt_of_lt_mul hu
    have h2 : u % q < q := Nat.mod_lt _ (by omega)
    have e : ∀ z, z * (q * q) + u = (z * q + u / q) * q + u % q := fun z => by
      have := Nat.div_add_mod u q
      rw [Nat.add_mul, Nat.mul_assoc, Nat.mul_comm (u / q) q, Nat.add_assoc, this]
    rw [e x, e y]
    exact av_lift hq (av_lift hq h h1) h2
/-- the first value once more, one stretch of w * q on -/
theorem avs_again {q w t sk sz : Nat} (hq : 2 ≤ q) (hw : w = q ∨ w = q * q) (ht : t < q) (hs : sk + sz ≤ w) : avs q (w * (q * q * q + q - 1) + sk + w * q * t) sz = avs q (w * (q * q * q + q - 1) + sk) sz := by
  unfold avs
  refine List.map_congr_left fun j hj => ?_
  have hj := List.mem_range.mp hj
  have e : ∀ t, w * (q * q * q + q - 1) + sk + w * q * t + j = ((q * q + t) * q + (q - 1)) * w + (sk + j) := fun t => by
    have e1 : (q * q + t) * q + (q - 1) = q * q * q + q - 1 + q * t := by
      rw [Nat.add_mul, Nat.mul_comm t q]
      omega
    rw [e1, Nat.add_mul, Nat.mul_comm (q * q * q + q - 1) w, Nat.mul_comm (q * t) w, Nat.mul_assoc w q t]
    omega
  have e0 := e 0
  rw [Nat.mul_zero, Nat.add_zero] at e0
  rw [e t, e0, av_liftW hq hw ((av_last hq ht).trans (av_last hq (show 0 < q by omega)).symm) (by omega)]
/-- what the pattern and the values are so far: m names used, the text goes up to last -/
structure Frp (q st sz L : Nat) (n0 : Nat) (ns : List Nat) (m : Nat) (cs : List Nat) (f : Nat → List Int) (last : Nat) : Prop where
  mem : ∀ x, x ∈ cs ↔ x ∈ ns.take m
  txt : cs.flatMap f = avs q st last
  hi : last ≤ L
  val : ∀ x ∈ ns.take m, f x ≠ [] ∧ (f x).length ≤ 1400 ∧ ∀ y ∈ f x, 0 ≤ y ∧ y ≤ 999999
  word : f n0 = avs q st sz
  inn : n0 ∈ ns.take m
theorem Frp.more {q st sz L m last l n0 : Nat} {ns cs : List Nat} {f : Nat → List Int} {c1 : Nat} (h : Frp q st sz L n0 ns m cs f last) (h2 : 2 ≤ q) (h19 : q ≤ 19) (nd : ns.Nodup) (hc : ns[m]? = some c1) (hl : 0 < l) (h14 : l ≤ 1400) (hl2 : last + l ≤ L) :
    c1 ∉ ns.take m ∧ Frp q st sz L n0 ns (m + 1) (cs ++ [c1]) (fun x => if x = c1 then avs q (st + last) l else f x) (last + l) := by
  have tk : ns.take (m + 1) = ns.take m ++ [c1] := by rw [List.take_add_one, hc]; rfl
  have cni : c1 ∉ ns.take m := fun z => by
    have nd2 := nd
    rw [← List.take_append_drop (m + 1) ns, tk, List.append_assoc] at nd2
    exact (List.nodup_append.mp nd2).2.2 c1 z c1 (by simp) rfl
  have hcs : ∀ x ∈ cs, (if x = c1 then avs q (st + last) l else f x) = f x := fun x hx => if_neg (fun z : x = c1 => cni (z ▸ (h.mem x).mp hx))
  refine ⟨cni, fun x => ?_, ?_, hl2, fun x hx => ?_, ?_, ?_⟩
  · rw [tk, List.mem_append, List.mem_append, h.mem x]
  · rw [List.flatMap_append, flat_if hcs, h.txt]
    show _ ++ ([c1].flatMap fun x => if x = c1 then avs q (st + last) l else f x) = _
    rw [List.flatMap_singleton, if_pos rfl, avs_app]
  · rw [tk] at hx
    rcases List.mem_append.mp hx with z | z
    · rw [if_neg (fun e : x = c1 => cni (e ▸ z))]
      exact h.val x z
    · rw [if_pos (List.mem_singleton.mp z)]
      exact ⟨avs_ne hl, by rw [avs_len]; omega, avs_range h2 h19⟩
  · show (if n0 = c1 then avs q (st + last) l else f n0) = _
    rw [if_neg (fun e : n0 = c1 => cni (e ▸ h.inn))]
    exact h.word
  · rw [tk]
    exact List.mem_append_left _ h.inn
theorem Frp.again {q st sz L m last n0 : Nat} {ns cs : List Nat} {f : Nat → List Int} (h : Frp q st sz L n0 ns m cs f last) (hw : avs q (st + last) sz = avs q st sz) (hl2 : last + sz ≤ L) : Frp q st sz L n0 ns m (cs ++ [n0]) f (last + sz) := by
  refine ⟨fun x => ?_, ?_, hl2, h.val, h.word, h.inn⟩
  · rw [List.mem_append, ← h.mem x]
    refine ⟨fun z => z.elim id fun z => ?_, .inl⟩
    rw [List.mem_singleton.mp z]
    exact (h.mem n0).mpr h.inn
  · rw [List.flatMap_append, h.txt, List.flatMap_singleton, h.word, ← hw, avs_app]
end Mo

/-! ### a pattern whose first variable stands again and again, and a place of it -/
namespace Mo
open PySem PySem.Spec PyProof.Rows L2
section
variable {P : Program} {w : World} {K : PySem.W.Frag} {mg : Str → Option Value} {base : Heap}
def spRep : Sp := fun vs H Q _ => ∃ (d c : Addr) (n t : Nat), vs = [.ref d, .int (n : Int)] ∧ Nxt H d c t ∧ 2 ≤ n ∧ n ≤ 8 ∧ t < 900000 ∧ ∀ H' r t', But d H H' → Nxt H' d c t' → t' ≤ t + 100 → PlcAt H' r d n → Q (.ref r) H'
theorem ok_lrep {k : Nat} (T : Txt K mg) : FnOk P w K mg base CX0 (k + 5) T.aLRepeated T.dLRepeated ["_law_pen_here", "_law_count"] spRep := by
  have GLQ : FnOk P w K mg base CX0 (k + 4) T.aLQ T.dLQ ["_law_count"] spQ := ok_q T
  have GLShuffled : FnOk P w K mg base CX0 (k + 4) T.aLShuffled T.dLShuffled ["_law_pen_here", "_law_values"] spShuffled := ok_shuffled T
  have GLDraw : FnOk P w K mg base CX0 (k + 4) T.aLDraw T.dLDraw ["_law_pen_here", "_law_many"] spNDraw := ok_draw T
  have GLText : FnOk P w K mg base CX0 (k + 4) T.aLText T.dLText ["_law_q_here", "_law_start", "_law_length"] spLTex := ok_ltex T
  refine T.fLRepeated.ok scLRepeated (fun vs H Q E h => ?_) (fun cdv A outer s H vs Q E hr h => ?_)
  · obtain ⟨_, _, _, _, rfl, _⟩ := h
    rfl
  · obtain ⟨d, c, n, t, rfl, src, n2, n8, ht, q⟩ := h
    refine ⟨_, (pss_cons (ps_par (i := 2) (j := 3) (by rfl) scLRepeated.nd rfl rfl (by decide) rfl rfl (pa_cons (pe_call GLQ hr (by rfl) T.gLQ T.fLQ.kp T.bLQ .nil pass0 (pa_cons (pv 1) pa_nil)) (pa_cons (pe_slice sl_list (pe_call GLShuffled hr (by rfl) T.gLShuffled T.fLShuffled.kp T.bLShuffled .nil pass0 (pa_cons (pv 0) (pa_cons pe_str pa_nil))) po_none (po_some (pv 1))) pa_nil)) (by rfl))
      (pss_cons (ps_set (i := 4) scLRepeated.nd rfl (Or.inl rfl) (pe_op op_mul (pv 2) (pe_ix ix_list (pe_lst (pa_cons pe_int (pa_cons (pv 2) pa_nil))) (pe_op op_mul (pe_call GLDraw hr (by rfl) T.gLDraw T.fLDraw.kp T.bLDraw .nil pass0 (pa_cons (pv 0) (pa_cons pe_int pa_nil))) (pe_callTy call_int1 (by rfl) T.m_int (by decide +kernel) (pa_cons (pe_cmpR op_lt (pv 2) pe_int (nomark _)) pa_nil))) (fun _ _ => rfl))))
      (pss_cons (ps_par (i := 5) (j := 6) (by rfl) scLRepeated.nd rfl rfl (by decide) rfl rfl (pa_cons (pe_op op_mul (pv 4) (pv 2)) (pa_cons (pe_op op_add pe_int (pe_call GLDraw hr (by rfl) T.gLDraw T.fLDraw.kp T.bLDraw .nil pass0 (pa_cons (pv 0) (pa_cons (pe_op op_sub (pe_callB (call_min2 rfl) (by rfl) T.m_min (by decide +kernel) (pa_cons (pv 4) (pa_cons pe_int pa_nil))) pe_int) pa_nil)))) pa_nil)) (by rfl))
      (pss_cons (ps_set (i := 7) scLRepeated.nd rfl (Or.inl rfl) (pe_ix ix_list (pe_lst (pa_cons pe_int (pa_cons (pe_call GLDraw hr (by rfl) T.gLDraw T.fLDraw.kp T.bLDraw .nil pass0 (pa_cons (pv 0) (pa_cons (pe_op op_add (pe_op op_sub (pv 4) (pv 6)) pe_int) pa_nil))) pa_nil))) (pe_call GLDraw hr (by rfl) T.gLDraw T.fLDraw.kp T.bLDraw .nil pass0 (pa_cons (pv 0) (pa_cons pe_int pa_nil))) (fun _ _ => rfl)))
      (pss_cons (ps_par (i := 8) (j := 9) (by rfl) scLRepeated.nd rfl rfl (by decide) rfl rfl (pa_cons (pe_op op_add (pe_op op_mul (pv 4) (pe_op op_sub (pe_op op_add (pe_op op_pow (pv 2) pe_int) (pv 2)) pe_int)) (pv 7)) (pa_cons (pe_callB (call_min2 rfl) (by rfl) T.m_min (by decide +kernel) (pa_cons (pe_op op_sub (pv 1) pe_int) (pa_cons (pe_op op_fdivN pe_int (pv 5)) pa_nil))) pa_nil)) (by rfl))
      (pss_cons (ps_set (i := 10) scLRepeated.nd rfl (Or.inl rfl) (pe_call GLText hr (by rfl) T.gLText T.fLText.kp T.bLText .nil pass0 (pa_cons (pv 2) (pa_cons (pv 8) (pa_cons (pe_op op_add (pe_op op_add (pe_op op_mul (pv 5) (pv 9)) (pv 6)) pe_int) pa_nil)))))
      (pss_cons (ps_par (i := 11) (j := 12) (by rfl) scLRepeated.nd rfl rfl (by decide) rfl rfl (pa_cons (pe_ix ix_list (pv 3) pe_int (fun _ _ => rfl)) (pa_cons (pe_disp (pps_cons (pe_ix ix_list (pv 3) pe_int (fun _ _ => rfl)) (pe_slice sl_tupA (pv 10) po_none (po_some (pv 6))) pps_nil) (by rfl) (by rfl) (fun z => by cases z) (by decide)) pa_nil)) (by rfl))
      (pss_cons (ps_for PassesOwn.never rfl (pi_range1 (by rfl) T.m_range (pa_cons (pv 9) pa_nil)) (pg_name (i := 13) scLRepeated.nd rfl (Or.inl rfl)) (pss_cons (ps_set (i := 11) scLRepeated.nd rfl (Or.inl rfl) (pe_op op_add_str (pe_op op_add_str (pv 11) (pe_ix ix_list (pv 3) (pe_op op_add (pv 13) pe_int) (fun _ _ => rfl))) (pe_ix ix_list (pv 3) pe_int (fun _ _ => rfl))))
      (pss_cons (ps_set (i := 14) scLRepeated.nd rfl (Or.inl rfl) (pe_slice sl_tupA (pe_slice sl_tupA (pv 10) (po_some (pe_op op_add (pe_op op_mul (pv 5) (pv 13)) (pv 6))) po_none) po_none (po_some (pe_op op_sub (pv 5) (pv 6)))))
      (pss_one (ps_dput (Mo.room1 hr) (pv 12) (pe_ix ix_list (pv 3) (pe_op op_add (pv 13) pe_int) (fun _ _ => rfl)) (pv 14) rfl)))))
      (pss_cons (ps_set (i := 15) scLRepeated.nd rfl (Or.inl rfl) (pe_op op_add (pe_op op_mul (pv 5) (pv 9)) (pv 6)))
      (pss_cons (ps_for PassesOwn.never rfl (pi_list (pe_slice sl_list (pv 3) (po_some (pe_op op_add (pv 9) pe_int)) po_none)) (pg_name (i := 16) scLRepeated.nd rfl (Or.inl rfl)) (pss_cons (ps_set (i := 17) scLRepeated.nd rfl (Or.inl rfl) (pe_op op_add pe_int (pe_call GLDraw hr (by rfl) T.gLDraw T.fLDraw.kp T.bLDraw .nil pass0 (pa_cons (pv 0) (pa_cons pe_int pa_nil)))))
      (pss_cons (ps_par (i := 11) (j := 15) (by rfl) scLRepeated.nd rfl rfl (by decide) rfl rfl (pa_cons (pe_op op_add_str (pv 11) (pv 16)) (pa_cons (pe_op op_add (pv 15) (pv 17)) pa_nil)) (by rfl))
      (pss_one (ps_dput (Mo.room1 hr) (pv 12) (pv 16) (pe_slice sl_tupA (pv 10) (po_some (pe_op op_sub (pv 15) (pv 17))) (po_some (pv 15))) rfl)))))
      (pss_one (ps_ret (pe_tup (pa_cons (pv 11) (pa_cons (pe_tup (pa_cons (pv 8) (pa_cons (pv 12) pa_nil))) pa_nil))))))))))))))), ?_⟩
    obtain ⟨q1, q2, _⟩ := qOf_in n (by omega) n8
    refine ⟨_, rfl, n, rfl, by omega, n8, fun H1 s1 => ?_⟩
    have src1 := src.same s1
    refine ⟨_, rfl, d, c, lett, t, congrArg (fun z => [V.ref d, V.str z]) (by decide +kernel), src1, by decide, by omega, fun HC L1 zs tC bC srcC htC nL1 nL1d hL1 perm => ?_⟩
    refine ⟨_, rfl, _, rfl, L1, _, rfl, SqL.of hL1, fun NL nNL => ⟨_, _, rfl, ?_⟩⟩
    have l26 : lett.length = 26 := by decide
    obtain ⟨ns, hns⟩ : ∃ ns, ns = zs.take n := ⟨_, rfl⟩
    rw [cut_to, ← List.map_take, ← hns]
    have zl : zs.length = 26 := perm.length_eq
    have nsl : ns.length = n := by rw [hns, List.length_take]; omega
    have nsn : ns.Nodup := by rw [hns]; exact (perm.nodup_iff.mpr (by decide)).sublist (List.take_sublist _ _)
    have nslet : ∀ x ∈ ns, x ∈ lett := fun x hx => perm.mem_iff.mp (List.mem_of_mem_take (hns ▸ hx))
    have sNL := same_new (o := .lst (ns.map sg)) nNL
    have hNL := upd_same (H := HC) (a := NL) (o := .lst (ns.map sg))
    have nNd := (srcC.new nNL).1
    have src2 := srcC.same sNL
    have b2 : But d H (upd HC NL (.lst (ns.map sg))) := ((But.same s1).trans bC).trans (But.same sNL)
    clear src src1 s1 bC srcC hL1 nNL sNL perm zl hns
    generalize upd HC NL (.lst (ns.map sg)) = H2 at *
    obtain ⟨Q', hQ'⟩ : ∃ Q', Q' = qOf n := ⟨_, rfl⟩
    rw [← hQ'] at q1 q2 ⊢
    -- how wide
    refine ⟨_, rfl, _, rfl, by show 2 ≤ sizeLine; decide, fun W nW => ?_⟩
    have sW := same_new (o := .lst [V.int 1, V.int (Q' : Int)]) nW
    have hW : upd H2 W (.lst [V.int 1, V.int (Q' : Int)]) W = some (.lst [V.int 1, V.int (Q' : Int)]) := upd_same
    have src3 := src2.same sW
    have nWd := (src2.new nW).1
    have hNL3 := sW _ _ hNL
    have b3 := b2.trans (But.same (d := d) sW)
    clear hNL src2 b2 nW sW
    generalize upd H2 W (.lst [V.int 1, V.int (Q' : Int)]) = H3 at *
    refine ⟨_, rfl, d, c, 2, tC, rfl, src3, by decide, by decide, by omega, fun H4 k4 t4 b4 src4 ht4 k40 k41 => ?_⟩
    have hW4 := b4 _ _ nWd hW
    have hNL4 := b4 _ _ nNd hNL3
    have b04 := b3.trans b4
    obtain ⟨m4, rfl⟩ := nat_of k40
    refine ⟨_, rfl, (Q' : Int), 12, rfl, rfl, .inr ⟨_, rfl, _, _, rfl, rfl, ?bm, ?_⟩⟩
    case bm =>
      refine .inl ⟨?_, ?_⟩ <;> omega
    obtain ⟨mv, iv, hmv, hiv, wd, ew, hw, far14⟩ : ∃ mv iv : Nat, (m4 : Int) * (if decide ((Q' : Int) < 12) = true then 1 else 0) = ((iv : Nat) : Int) ∧ atI [V.int 1, V.int (Q' : Int)] ((iv : Nat) : Int) = some (V.int ((mv : Nat) : Int)) ∧ ∃ wd, wd = Q' * mv ∧ (wd = Q' ∨ wd = Q' * Q') ∧ wd * Q' ≤ 1400 := by
      by_cases z : Q' < 12 ∧ m4 = 1
      · obtain ⟨z1, rfl⟩ := z
        refine ⟨Q', 1, ?_, rfl, _, rfl, .inr rfl, ?_⟩
        · rw [if_pos (decide_eq_true (by omega))]
          rfl
        · have h1 : Q' ≤ 11 := by omega
          exact Nat.le_trans (Nat.mul_le_mul (Nat.mul_le_mul h1 h1) h1) (by decide)
      · refine ⟨1, 0, ?_, rfl, _, rfl, .inl (Nat.mul_one _), ?_⟩
        · by_cases z1 : Q' < 12
          · have : m4 = 0 := by omega
            rw [this]
            exact Int.zero_mul _
          · rw [if_neg (by rw [decide_eq_false (by omega)]; decide), Int.mul_zero]
            rfl
        · rw [Nat.mul_one]
          exact Nat.le_trans (Nat.mul_le_mul q2 q2) (by decide)
    refine ⟨W, _, ((iv : Nat) : Int), V.int ((mv : Nat) : Int), rfl, congrArg V.int hmv, SqL.of hW4, hiv, _, _, rfl, rfl, .inl ⟨by omega, by omega⟩, ?_⟩
    dsimp only
    rw [show (Q' : Int) * ((mv : Nat) : Int) = ((wd : Nat) : Int) by rw [ew]; push_cast; rfl]
    have wpos : Q' ≤ wd := by
      rcases hw with h | h
      · omega
      · rw [h]
        exact Nat.le_mul_of_pos_left _ (by omega)
    have wd400 : wd ≤ 400 := by
      rcases hw with h | h
      · omega
      · rw [h]
        exact Nat.le_trans (Nat.mul_le_mul q2 q2) (by decide)
    clear hmv hiv ew hW hNL3 b3 b4 src3 k40 k41 hW4
    -- how far, how long
    refine ⟨_, rfl, _, rfl, _, _, rfl, rfl, .inl ⟨by omega, by omega⟩, ?_⟩
    refine ⟨_, rfl, _, rfl, _, _, rfl, _, 1, rfl, rfl, d, c, _, t4, rfl, src4, ?b1, ?b2, by omega, fun H5 k5 t5 b5 src5 ht5 k50 k51 => ?_⟩
    case b1 => split <;> omega
    case b2 => split <;> omega
    obtain ⟨m5, rfl⟩ := nat_of k50
    have hm5 : m5 + 2 ≤ wd ∧ m5 + 2 ≤ 99 := by
      revert k51
      split <;> omega
    refine ⟨2, _, rfl, rfl, _, _, rfl, ?_⟩
    obtain ⟨sz, hsz⟩ : ∃ sz, sz = 2 + m5 := ⟨_, rfl⟩
    obtain ⟨fr, hfr⟩ : ∃ fr, fr = wd * Q' := ⟨_, rfl⟩
    dsimp only
    rw [show (2 : Int) + (m5 : Int) = ((sz : Nat) : Int) by omega, show ((wd : Nat) : Int) * (Q' : Int) = ((fr : Nat) : Int) by rw [hfr]; push_cast; rfl]
    have hNL5 := b5 _ _ nNd hNL4
    have b05 := b04.trans b5
    clear hNL4 b04 b5 src4 k50 k51
    -- where
    refine ⟨_, rfl, _, rfl, _, rfl, _, _, rfl, rfl, _, 1, rfl, rfl, d, c, _, t5, rfl, src5, by omega, by omega, by omega, fun H6 k6 t6 b6 src6 ht6 k60 k61 => ?_⟩
    obtain ⟨m6, rfl⟩ := nat_of k60
    have hm6 : m6 + sz ≤ wd := by omega
    refine ⟨by show 2 ≤ sizeLine; decide, fun W2 nW2 => ?_⟩
    have sW2 := same_new (o := .lst [V.int 0, V.int (m6 : Int)]) nW2
    have hW2 : upd H6 W2 (.lst [V.int 0, V.int (m6 : Int)]) W2 = some (.lst [V.int 0, V.int (m6 : Int)]) := upd_same
    have src7 := src6.same sW2
    have nW2d := (src6.new nW2).1
    have hNL7 := sW2 _ _ (b6 _ _ nNd hNL5)
    have b07 := (b05.trans b6).trans (But.same (d := d) sW2)
    clear hNL5 b05 b6 src5 src6 nW2 sW2 k60 k61
    generalize upd H6 W2 (.lst [V.int 0, V.int (m6 : Int)]) = H7 at *
    refine ⟨_, rfl, d, c, 2, t6, rfl, src7, by decide, by decide, by omega, fun H8 k8 t8 b8 src8 ht8 k80 k81 => ?_⟩
    obtain ⟨m8, rfl⟩ := nat_of k80
    obtain ⟨sk, hsk, hsk2⟩ : ∃ sk : Nat, atI [V.int 0, V.int (m6 : Int)] (m8 : Int) = some (V.int ((sk : Nat) : Int)) ∧ sk + sz ≤ wd := by
      rcases (show m8 = 0 ∨ m8 = 1 by omega) with rfl | rfl
      · exact ⟨0, rfl, by omega⟩
      · exact ⟨m6, rfl, by omega⟩
    refine ⟨W2, _, ((m8 : Nat) : Int), V.int ((sk : Nat) : Int), rfl, rfl, SqL.of (b8 _ _ nW2d hW2), hsk, ?_⟩
    have hNL8 := b8 _ _ nNd hNL7
    have b08 := b07.trans b8
    clear hNL7 b07 b8 src7 k80 k81 hW2 hsk hm6
    -- the start, and how many
    have fp : 1 ≤ fr := by
      rw [hfr]
      exact Nat.le_trans (by decide) (Nat.mul_le_mul (show 1 ≤ wd by omega) (show 1 ≤ Q' by omega))
    have q64 : (Q' : Int).natAbs < 2 ^ 64 := by
      have : (2 : Nat) ^ 64 = 18446744073709551616 := by decide
      omega
    refine ⟨_, rfl, _, rfl, _, 3, rfl, rfl, ⟨by decide, by decide, q64⟩, _, rfl, _, _, rfl, rfl, _, 1, rfl, rfl, _, _, rfl, rfl, .inl ⟨by omega, by omega⟩, _, rfl, _, _, rfl, rfl, ?_⟩
    refine ⟨_, rfl, _, 1, rfl, rfl, _, rfl, 3934, _, rfl, rfl, ⟨by omega, by omega⟩, _, _, rfl, _, _, rfl, ?_⟩
    dsimp only
    obtain ⟨st, hst⟩ : ∃ st, st = wd * (Q' * Q' * Q' + Q' - 1) + sk := ⟨_, rfl⟩
    have c3 : Q' * Q' * Q' ≤ 6859 := Nat.le_trans (Nat.mul_le_mul (Nat.mul_le_mul q2 q2) q2) (by decide)
    have est : ((wd : Nat) : Int) * ((Q' : Int) ^ (3 : Int).toNat + (Q' : Int) - 1) + ((sk : Nat) : Int) = ((st : Nat) : Int) := by
      rw [hst, show ((3 : Int).toNat) = 3 from rfl]
      have e1 : ((Q' : Int) ^ 3 + (Q' : Int) - 1) = ((Q' * Q' * Q' + Q' - 1 : Nat) : Int) := by
        rw [Int.ofNat_sub (by omega)]
        push_cast
        rw [show (Q' : Int) ^ 3 = (Q' : Int) * (Q' : Int) * (Q' : Int) from by rw [Int.pow_succ, Int.pow_succ, Int.pow_succ, Int.pow_zero, Int.one_mul]]
      rw [e1]
      push_cast
      rfl
    have stb : st ≤ 1000000000000000000 := by
      have h1 : wd * (Q' * Q' * Q' + Q' - 1) ≤ 400 * 7000 := Nat.mul_le_mul wd400 (by omega)
      omega
    rw [est]
    obtain ⟨mn, hmn, mn1, mn2, mn3⟩ : ∃ mn : Nat, (if (3934 : Int).fdiv ((fr : Nat) : Int) < (n : Int) - 1 then (3934 : Int).fdiv ((fr : Nat) : Int) else (n : Int) - 1) = ((mn : Nat) : Int) ∧ mn + 1 ≤ n ∧ fr * mn ≤ 3934 ∧ 1 ≤ mn := by
      have e1 : (3934 : Int).fdiv ((fr : Nat) : Int) = ((3934 / fr : Nat) : Int) := by
        rw [Int.fdiv_eq_ediv_of_nonneg _ (by omega)]
        rfl
      rw [e1]
      have h2 : fr * (3934 / fr) ≤ 3934 := Nat.mul_div_le _ _
      have h3 : 1 ≤ 3934 / fr := (Nat.one_le_div_iff (by omega)).mpr (by omega)
      split
      · exact ⟨_, rfl, by omega, h2, h3⟩
      · refine ⟨n - 1, by omega, by omega, Nat.le_trans (Nat.mul_le_mul_left _ (show n - 1 ≤ 3934 / fr by omega)) h2, by omega⟩
    rw [hmn]
    clear hmn est
    -- the text
    obtain ⟨L, hL⟩ : ∃ L, L = fr * mn + sz + 63 := ⟨_, rfl⟩
    have hLb : L ≤ 4096 := by omega
    refine ⟨_, rfl, _, rfl, _, rfl, _, rfl, _, _, rfl, rfl, .inl ⟨by omega, by omega⟩, _, rfl, _, _, rfl, rfl, _, 63, rfl, rfl, Q', st, L, ?ea, by omega, q2, stb, by omega, fun H9 wp s9 hwp => ?_⟩
    case ea =>
      rw [hL]
      push_cast
      rfl
    have src9 := src8.same s9
    have hNL9 := s9 _ _ hNL8
    have b09 := b08.trans (But.same (d := d) s9)
    have wpd : wp ≠ d := src9.kind hwp (fun _ e => by cases e)
    clear hNL8 b08 src8 s9
    -- the first name
    obtain ⟨n0, hn0⟩ : ∃ n0, ns[0]? = some n0 := ⟨_, List.getElem?_eq_getElem (by omega)⟩
    have hx0 : atI (ns.map sg) ((0 : Nat) : Int) = some (sg n0) := atI_nat (by rw [List.getElem?_map, hn0]; rfl)
    refine ⟨_, rfl, NL, _, ((0 : Nat) : Int), sg n0, rfl, rfl, SqL.of hNL9, hx0, fun vA nvA => ?_⟩
    have svA := same_new (o := .dK []) nvA
    have nvAd := (src9.new nvA).1
    have nvAc := (src9.new nvA).2
    have hvA0 : H vA = none := b09.none nvA nvAd
    refine ⟨_, rfl, NL, _, ((0 : Nat) : Int), sg n0, rfl, rfl, SqL.of (svA _ _ hNL9), hx0, ?_⟩
    refine ⟨_, rfl, _, rfl, ((sz : Nat) : Int), rfl, slA_any (svA _ _ hwp) fun bp HA sA hbp _ => ⟨sA _ _ upd_same, [(kS n0, .ref bp)], rfl, (show 1 ≤ 15 by decide), _, _, rfl, ?_⟩⟩
    rw [cut_to, ← List.map_take, show (avs Q' st L).take sz = avs Q' st sz from by
      have e := avs_cut (q := Q') (s := st) (N := L) (a := 0) (n := sz) (by omega)
      rwa [List.drop_zero] at e] at hbp
    have eA : upd HA vA (.dK (mergeK [] [(kS n0, V.ref bp)])) vA = some (.dK (dk (valsD [n0] fun _ => bp))) := by
      rw [upd_same]
      rfl
    have nbv : bp ≠ vA := fun z => by
      have h1 := sA _ _ (upd_same (H := H9) (a := vA) (o := .dK []))
      rw [← z, hbp] at h1
      cases h1
    have b9B : But d H9 (upd HA vA (.dK (mergeK [] [(kS n0, V.ref bp)]))) := But.same (Same.put (svA.trans sA) nvA)
    have srcB : Nxt (upd HA vA (.dK (mergeK [] [(kS n0, V.ref bp)]))) d c t8 := src9.same (Same.put (svA.trans sA) nvA)
    have hbpB : upd HA vA (.dK (mergeK [] [(kS n0, V.ref bp)])) bp = some (.tup ((avs Q' st sz).map V.int)) := by rw [upd_ne nbv]; exact hbp
    have hwpB := b9B _ _ wpd hwp
    have hNLB := b9B _ _ nNd hNL9
    have b0B := b09.trans b9B
    clear hbp hwp hNL9 src9 b09 sA svA nvA b9B
    generalize upd HA vA (.dK (mergeK [] [(kS n0, V.ref bp)])) = HB at *
    have vs0 : VsAt HB vA (ns.take 1) (fun _ => bp) (fun _ => avs Q' st sz) := by
      have e : ns.take 1 = [n0] := by rw [show (1 : Nat) = 0 + 1 from rfl, List.take_add_one, hn0]; rfl
      rw [e]
      exact ⟨eA, fun x hx => hbpB⟩
    have n0in : n0 ∈ ns.take 1 := by
      have e : ns.take 1 = [n0] := by rw [show (1 : Nat) = 0 + 1 from rfl, List.take_add_one, hn0]; rfl
      rw [e]
      exact List.mem_singleton_self _
    have hq2 : 2 ≤ Q' := by omega
    have sz2 : 2 ≤ sz := by omega
    have fr14 : fr ≤ 1400 := by omega
    have szfr : sz < fr := by
      have : wd * 2 ≤ wd * Q' := Nat.mul_le_mul_left _ hq2
      omega
    have fill0 : Frp Q' st sz L n0 ns 1 [n0] (fun _ => avs Q' st sz) sz := by
      have e : ns.take 1 = [n0] := by rw [show (1 : Nat) = 0 + 1 from rfl, List.take_add_one, hn0]; rfl
      exact ⟨fun x => by rw [e], List.flatMap_singleton _ _, by omega, fun x _ => ⟨avs_ne (by omega), by rw [avs_len]; omega, avs_range hq2 q2⟩, rfl, n0in⟩
    have nwv : wp ≠ vA := fun z => by rw [z, eA] at hwpB; cases hwpB
    have nnv : NL ≠ vA := fun z => by rw [z, eA] at hNLB; cases hNLB
    refine ⟨_, rfl, _, rfl, by omega, by omega, for_range (lo := 0) (fun i σ' H' => ∃ (cs : List Nat) (ad : Nat → Addr) (f : Nat → List Int) (o13 o14 : Option V), σ' = [some (.ref d), some (.int (n : Int)), some (.int ((Q' : Nat) : Int)), some (.ref NL), some (.int ((wd : Nat) : Int)), some (.int ((fr : Nat) : Int)), some (.int ((sz : Nat) : Int)), some (.int ((sk : Nat) : Int)), some (.int ((st : Nat) : Int)), some (.int ((mn : Nat) : Int)), some (.ref wp), some (.str (tx cs)), some (.ref vA), o13, o14, none, none, none] ∧ But vA HB H' ∧ VsAt H' vA (ns.take (1 + i)) ad f ∧ Frp Q' st sz L n0 ns (1 + i) cs f (fr * i + sz) ∧ cs.length ≤ 2 * i + 1) ?_ ?_ ?_⟩
    · exact ⟨[n0], _, _, _, _, rfl, But.refl _ _, vs0, by rw [Nat.mul_zero, Nat.zero_add]; exact fill0, by show 1 ≤ 2 * 0 + 1; omega⟩
    · rintro i σ' H1 hi ⟨cs, ad, f, o13, o14, rfl, bv, vs, fl, cl⟩
      have hi2 : i < mn := by omega
      have hfi : fr * (i + 1) ≤ fr * mn := Nat.mul_le_mul_left _ hi2
      rw [Nat.mul_succ] at hfi
      obtain ⟨fi, hfi0⟩ : ∃ fi, fi = fr * i := ⟨_, rfl⟩
      rw [← hfi0] at fl hfi
      obtain ⟨c1, hc1⟩ : ∃ c1, ns[1 + i]? = some c1 := ⟨_, List.getElem?_eq_getElem (by omega)⟩
      obtain ⟨cni, fl2⟩ := fl.more hq2 q2 nsn hc1 (show 0 < fr - sz by omega) (by omega) (by omega)
      rw [show fi + sz + (fr - sz) = fi + fr by omega] at fl2
      have wd2 : avs Q' (st + (fi + fr)) sz = avs Q' st sz := by
        have h := avs_again (q := Q') (w := wd) (t := i + 1) (sk := sk) (sz := sz) hq2 hw (by omega) hsk2
        rw [← hst, ← hfr, Nat.mul_succ, ← hfi0] at h
        exact h
      have fl3 := fl2.again wd2 (by omega)
      have hwp1 := bv _ _ nwv hwpB
      have hNL1 := bv _ _ nnv hNLB
      have c20 : cs.length ≤ 20 := by omega
      have tk : ns.take (1 + i + 1) = ns.take (1 + i) ++ [c1] := by rw [List.take_add_one, hc1]; rfl
      have hx1 : atI (ns.map sg) ((1 + i : Nat) : Int) = some (sg c1) := atI_nat (by rw [List.getElem?_map, hc1]; rfl)
      refine ⟨_, rfl, _, rfl, _, rfl, _, 1, rfl, rfl, NL, _, ((1 + i : Nat) : Int), sg c1, rfl, congrArg V.int (by omega), SqL.of hNL1, hx1, _, _, rfl, rfl, Nat.le_of_lt (small1000 (by rw [tx_len]; show _ + 1 ≤ 1000; omega)), ?_⟩
      rw [show (tx cs ++ { cps := #[c1] } : Str) = tx (cs ++ [c1]) from tx_app cs [c1]]
      refine ⟨_, rfl, NL, _, ((0 : Nat) : Int), sg n0, rfl, rfl, SqL.of hNL1, hx0, _, _, rfl, rfl, Nat.le_of_lt (small1000 (by rw [tx_len, List.length_append]; show _ + 1 + 1 ≤ 1000; omega)), ?_⟩
      rw [show (tx (cs ++ [c1]) ++ { cps := #[n0] } : Str) = tx (cs ++ [c1] ++ [n0]) from tx_app (cs ++ [c1]) [n0]]
      have emul : ((fr : Nat) : Int) * (0 + (i : Int)) + ((sz : Nat) : Int) = ((fi + sz : Nat) : Int) := by
        rw [hfi0]
        push_cast
        rw [Int.zero_add]
      refine ⟨_, rfl, _, rfl, _, rfl, _, _, rfl, rfl, .inl ⟨by omega, by omega⟩, _, rfl, _, _, rfl, rfl, ((fi + sz : Nat) : Int), congrArg V.int emul, ?_⟩
      dsimp only [tNoPart]
      refine slA_any hwp1 fun g1 G2 s2 hg1 _ => ?_
      replace hg1 : G2 g1 = some (.tup ((avs Q' (st + (fi + sz)) (L - (fi + sz))).map V.int)) := hg1.trans (congrArg (fun z => some (HO.tup z)) (e_fr (q := Q') (s := st) (N := L) (a := fi + sz) (by omega)))
      refine ⟨_, rfl, _, rfl, _, _, rfl, rfl, ((fr - sz : Nat) : Int), congrArg V.int (by omega), slA_any hg1 fun g2 G3 s3 hg2 _ => ?_⟩
      replace hg2 : G3 g2 = some (.tup ((avs Q' (st + (fi + sz)) (fr - sz)).map V.int)) := hg2.trans (congrArg (fun z => some (HO.tup z)) (e_tk (q := Q') (s := st + (fi + sz)) (N := L - (fi + sz)) (n := fr - sz) (by omega)))
      have s13 := s2.trans s3
      have vs3 := vs.same s13
      have hNL3 := s13 _ _ hNL1
      obtain ⟨ad2, f2, e1, e2, e3, e4⟩ := putK_vals2 (ad := ad) (f := f) (p := g2) (b := avs Q' (st + (fi + sz)) (fr - sz)) cni
      refine ⟨_, rfl, _, rfl, _, rfl, _, rfl, _, 1, rfl, rfl, NL, _, ((1 + i : Nat) : Int), sg c1, rfl, congrArg V.int (by omega), SqL.of hNL3, hx1, vA, _, rfl, DPut.k (k := kS c1) vs3.ha (fitsLt (by rw [vals_len, List.length_take]; omega)), ?_⟩
      rw [e1, ← tk]
      refine ⟨cs ++ [c1] ++ [n0], ad2, (fun x => if x = c1 then avs Q' (st + (fi + sz)) (fr - sz) else f x), _, _, rfl, fun b o nb h => ?_, ⟨upd_same, fun x hx => ?_⟩, by rw [Nat.mul_succ, ← hfi0]; exact fl3, ?_⟩
      · rw [upd_ne nb]
        exact s13 _ _ (bv _ _ nb h)
      · have hx : x ∈ ns.take (1 + i + 1) := hx
        rw [tk] at hx
        rcases List.mem_append.mp hx with z | z
        · rw [(e4 x z).1, if_neg (fun e : x = c1 => cni (e ▸ z))]
          have h1 := vs3.el x z
          rw [upd_ne (fun e => by rw [e, vs3.ha] at h1; cases h1)]
          exact h1
        · rw [List.mem_singleton.mp z, e2, if_pos rfl, upd_ne (fun e => by rw [e, vs3.ha] at hg2; cases hg2)]
          exact hg2
      · rw [List.length_append, List.length_append, List.length_singleton, List.length_singleton]
        omega
    rintro σ' HF ⟨cs, ad, f, o13, o14, rfl, bv, vs, fl, cl⟩
    rw [Int.toNat_natCast] at vs fl cl
    have hwpF := bv _ _ nwv hwpB
    have hNF := bv _ _ nnv hNLB
    have srcF := srcB.butS bv (fun z => nvAd z.symm) (fun z => nvAc z.symm)
    have bF : But d H HF := fun b o nb h => bv _ _ (fun z => by rw [z, hvA0] at h; cases h) (b0B _ _ nb h)
    obtain ⟨fm, hfm⟩ : ∃ fm, fm = fr * mn := ⟨_, rfl⟩
    rw [← hfm] at fl mn2 hL
    have elast : ((fr : Nat) : Int) * ((mn : Nat) : Int) + ((sz : Nat) : Int) = ((fm + sz : Nat) : Int) := by
      rw [hfm]
      push_cast
      rfl
    refine ⟨_, rfl, _, rfl, _, _, rfl, rfl, .inl ⟨by omega, by omega⟩, _, rfl, _, _, rfl, rfl, ?_⟩
    dsimp only
    rw [elast]
    refine ⟨_, rfl, _, rfl, _, 1, rfl, rfl, ((1 + mn : Nat) : Int), congrArg V.int (by omega), NL, _, rfl, SqL.of hNF, fun RL nRL => ?_⟩
    obtain ⟨m0, hm0⟩ : ∃ m0, m0 = 1 + mn := ⟨_, rfl⟩
    rw [← hm0] at vs fl ⊢
    rw [cut_from, ← List.map_drop]
    have sRL := same_new (o := .lst ((ns.drop m0).map sg)) nRL
    have hRL := upd_same (H := HF) (a := RL) (o := .lst ((ns.drop m0).map sg))
    have nRd := (srcF.new nRL).1
    have hm8 : m0 ≤ n := by omega
    have cl2 : cs.length ≤ 20 := by omega
    refine ⟨RL, rfl, ⟨_, SqL.of hRL⟩, for_it (walk_list (xs := (ns.drop m0).map sg)) (fun i σ' H' => ∃ (cs : List Nat) (ad : Nat → Addr) (f : Nat → List Int) (o16 o17 : Option V) (last t' : Nat), σ' = [some (.ref d), some (.int (n : Int)), some (.int ((Q' : Nat) : Int)), some (.ref NL), some (.int ((wd : Nat) : Int)), some (.int ((fr : Nat) : Int)), some (.int ((sz : Nat) : Int)), some (.int ((sk : Nat) : Int)), some (.int ((st : Nat) : Int)), some (.int ((mn : Nat) : Int)), some (.ref wp), some (.str (tx cs)), some (.ref vA), o13, o14, some (.int (last : Int)), o16, o17] ∧ But d H H' ∧ Nxt H' d c t' ∧ t' ≤ t8 + i ∧ H' wp = some (.tup ((avs Q' st L).map V.int)) ∧ H' RL = some (.lst ((ns.drop m0).map sg)) ∧ VsAt H' vA (ns.take (m0 + i)) ad f ∧ Frp Q' st sz L n0 ns (m0 + i) cs f last ∧ last ≤ fm + sz + 9 * i ∧ cs.length ≤ 20 + i) ?_ ?_ ?_ ?_⟩
    · exact ⟨cs, ad, f, _, _, fm + sz, t8, rfl, bF.trans (But.same sRL), srcF.same sRL, by omega, sRL _ _ hwpF, hRL, vs.same sRL, fl, by omega, by omega⟩
    · rintro i σ' H' _ ⟨_, _, _, _, _, _, _, _, _, _, _, _, h, _⟩
      exact SqL.of h
    · rintro i x σ' H1 H1' hi ⟨cs, ad, f, o16, o17, last, t', rfl, b1, src1, ht1, hwp1, hRL1, vs1, fl1, la1, cl1⟩ ⟨rfl, hxi⟩
      rw [List.length_map, List.length_drop] at hi
      obtain ⟨c1, hc0, rfl⟩ : ∃ c1, (ns.drop m0)[i]? = some c1 ∧ x = sg c1 := by
        rw [List.getElem?_map] at hxi
        obtain ⟨c1, h1, h2⟩ := Option.map_eq_some_iff.mp hxi
        exact ⟨c1, h1, h2.symm⟩
      have hc1 : ns[m0 + i]? = some c1 := by rw [List.getElem?_drop] at hc0; exact hc0
      refine ⟨_, rfl, d, c, 9, t', rfl, src1, by decide, by decide, by omega, fun H2 k2 t2 b2 src2 ht2 k20 k21 => ?_⟩
      obtain ⟨m2, rfl⟩ := nat_of k20
      refine ⟨1, _, rfl, rfl, ?_⟩
      obtain ⟨ll, hll⟩ : ∃ ll, ll = 1 + m2 := ⟨_, rfl⟩
      dsimp only
      rw [show (1 : Int) + (m2 : Int) = (ll : Int) by omega]
      obtain ⟨cni, fl2⟩ := fl1.more (l := ll) hq2 q2 nsn hc1 (by omega) (by omega) (by omega)
      have tk : ns.take (m0 + i + 1) = ns.take (m0 + i) ++ [c1] := by rw [List.take_add_one, hc1]; rfl
      have hwp2 := b2 _ _ wpd hwp1
      have hRL2 := b2 _ _ nRd hRL1
      have vs2 := vs1.butN nvAd src1 b2
      refine ⟨_, rfl, _, rfl, _, _, rfl, rfl, Nat.le_of_lt (small1000 (by rw [tx_len]; show _ + 1 ≤ 1000; omega)), _, rfl, _, rfl, _, _, rfl, rfl, _, _, rfl, ?_⟩
      rw [show (tx cs ++ { cps := #[c1] } : Str) = tx (cs ++ [c1]) from tx_app cs [c1]]
      dsimp only
      rw [show (last : Int) + (ll : Int) = ((last + ll : Nat) : Int) by omega]
      refine ⟨_, rfl, _, rfl, _, rfl, _, _, rfl, rfl, ((last : Nat) : Int), congrArg V.int (by omega), _, rfl, ((last + ll : Nat) : Int), rfl, slA_any hwp2 fun bp H3 s3 hbp _ => ?_⟩
      have hi2 := fl2.hi
      rw [cut_at, ← List.map_drop, ← List.map_take, avs_cut (by omega)] at hbp
      have vs3 := vs2.same s3
      obtain ⟨ad2, f2, e1, e2, e3, e4⟩ := putK_vals2 (ad := ad) (f := f) (p := bp) (b := avs Q' (st + last) ll) cni
      refine ⟨_, rfl, _, rfl, vA, _, rfl, DPut.k (k := kS c1) vs3.ha (fitsLt (by rw [vals_len, List.length_take]; omega)), ?_⟩
      rw [e1, ← tk]
      have nrv : RL ≠ vA := fun z => by
        have := vs1.ha
        rw [← z, hRL1] at this
        cases this
      refine ⟨cs ++ [c1], ad2, (fun x => if x = c1 then avs Q' (st + last) ll else f x), _, _, last + ll, t2, rfl, ((b1.trans b2).trans (But.same s3)).put (o := .dK (dk (valsD (ns.take (m0 + i + 1)) ad2))) hvA0, (src2.same s3).upd nvAd nvAc, by omega, by rw [upd_ne nwv]; exact s3 _ _ hwp2, by rw [upd_ne nrv]; exact s3 _ _ hRL2, ⟨upd_same, fun x hx => ?_⟩, fl2, by omega, by rw [List.length_append, List.length_singleton]; omega⟩
      have hx : x ∈ ns.take (m0 + i + 1) := hx
      rw [tk] at hx
      rcases List.mem_append.mp hx with z | z
      · rw [(e4 x z).1, if_neg (fun e : x = c1 => cni (e ▸ z))]
        have h1 := vs3.el x z
        rw [upd_ne (fun e => by rw [e, vs3.ha] at h1; cases h1)]
        exact h1
      · rw [List.mem_singleton.mp z, e2, if_pos rfl, upd_ne (fun e => by rw [e, vs3.ha] at hbp; cases hbp)]
        exact hbp
    rintro σ' HG ⟨cs, ad, f, o16, o17, last, t', rfl, bG, srcG, htG, hwpG, hRLG, vsG, flG, laG, clG⟩
    rw [List.length_map, List.length_drop] at vsG flG laG clG htG
    rw [show m0 + (ns.length - m0) = ns.length by omega] at vsG flG
    rw [List.take_length] at vsG
    have memG : ∀ x, x ∈ cs ↔ x ∈ ns := fun x => by
      have := flG.mem x
      rw [List.take_length] at this
      exact this
    have valG : ∀ x ∈ ns, f x ≠ [] ∧ (f x).length ≤ 1400 ∧ ∀ y ∈ f x, 0 ≤ y ∧ y ≤ 999999 := fun x hx => flG.val x (by rw [List.take_length]; exact hx)
    have ml : (met cs).length ≤ n := by rw [← nsl]; exact met_sub_len fun x hx => (memG x).mp hx
    have ml2 : ns.length ≤ (met cs).length := nodup_sub_len ns (met cs) nsn fun x hx => mem_met.mpr ((memG x).mpr hx)
    have pm : ns.Perm (met cs) := perm_of nsn (fun x hx => mem_met.mpr ((memG x).mpr hx)) (by omega)
    have lowN : Low ns := fun x hx => (show ∀ c ∈ lett, 97 ≤ c ∧ c ≤ 122 by decide) x (nslet x hx)
    have nne : ns ≠ [] := fun z => by rw [z] at nsl; have : 0 = n := nsl; omega
    have cne : cs ≠ [] := fun z => by
      cases ns with
      | nil => exact nne rfl
      | cons x r =>
        have := (memG x).mpr List.mem_cons_self
        rw [z] at this
        cases this
    have hiG := flG.hi
    refine ⟨_, rfl, _, rfl, _, rfl, by show 2 ≤ sizeLine; decide, fun pp npp => ⟨by show 2 ≤ sizeLine; decide, fun r nr => ?_⟩⟩
    have sp := same_new (o := .tup [V.int ((st : Nat) : Int), V.ref vA]) npp
    have sr := same_new (o := .tup [V.str (tx cs), V.ref pp]) nr
    have spr := sp.trans sr
    have hpp := sr _ _ (upd_same (H := HG) (a := pp) (o := .tup [V.int ((st : Nat) : Int), V.ref vA]))
    have hr2 := upd_same (H := upd HG pp (.tup [V.int ((st : Nat) : Int), V.ref vA])) (a := r) (o := .tup [V.str (tx cs), V.ref pp])
    have tl : (cs.flatMap f).length = last := by rw [flG.txt, avs_len]
    refine q _ r t' (bG.trans (But.same spr)) (srcG.same spr) (by omega) ⟨pp, vA, cs, ns, st, ad, f, hr2, hpp, vsG.same spr, nvAd, pm, nsn, nne, by omega, lowN, ⟨by omega, fun x hx => lowN x ((memG x).mp hx), by omega⟩, cne, by omega, valG, by omega, by omega, ?_, by omega⟩
    rw [tl, ← hQ']
    exact flG.txt
end
end Mo

set_option pp.maxSteps 300
namespace Mo
open PySem PySem.Spec PyProof.Rows L2
theorem kit1_self {K : PySem.W.Frag} {C : Addr} : PySem.W.kitOne K (.ref C) (.ref C) = some true := by
  show (if (Value.ref C == Value.ref C) = true then some true else _) = some true
  rw [if_pos (beq_self_eq_true _)]
theorem pat_ab : Pat [97, 98] := ⟨by decide, fun c hc => by
  simp only [List.mem_cons, List.not_mem_nil, or_false] at hc
  omega, by decide⟩
def lamQ : Str := (envOfC "law" (defScope sLaw) 0 0 .none).qual ++ "<lambda>"
theorem mul41 : mulS [97] 41 = List.replicate 41 97 := by decide
theorem EdgP.tabs {H H' : Hp} {p : Addr} {s : Nat} {la lb : List Int} (h : EdgP H p s la lb) (x : LamX.ExtN H H') : EdgP H' p s la lb := by
  obtain ⟨va, ad, h1, h2⟩ := h
  exact ⟨va, ad, x _ _ h1 (fun _ e => by cases e), ⟨x _ _ h2.ha (fun _ e => by cases e), fun c hc => x _ _ (h2.el c hc) (fun _ e => by cases e)⟩⟩
/-- what no pattern is -/
def Odd (e : PyData) : Prop := fldD e = false ∧ e.bulk ≤ 1000000 ∧ Shw e
def odds : List PyData := [.str (tx []), .str (tx [65]), .none, .int 7, .str (tx [97, 98, 99, 100, 101, 102, 103, 104, 105]), .str (tx (List.replicate 41 97))]
theorem odd_all : ∀ e ∈ odds, Odd e := by
  intro e he
  have h : ∀ e ∈ odds, fldD e = false ∧ e.bulk ≤ 1000000 ∧ e.showable = true ∧ e.depth ≤ 40 ∧ e.shown.length ≤ 1000 := by decide +kernel
  obtain ⟨h0, h1, h2, h3, h4⟩ := h e he
  exact ⟨h0, h1, h2, h3, Nat.le_trans h4 (by decide)⟩
theorem mem_od {e : PyData} (i : Nat) (h : odds[i]? = some e := by rfl) : Odd e := odd_all _ (List.mem_of_getElem? h)
theorem mem_oS {x : Str} (i : Nat) (ls : List Nat) (e : tx ls = x := by decide +kernel) (h : odds[i]? = some (.str (tx ls)) := by rfl) : Odd (PyData.str x) := e ▸ odd_all _ (List.mem_of_getElem? h)
theorem odd_tup {cs : List Nat} (p : Pat cs) : Odd (.tuple [.str (tx cs)]) := by
  have f : Fit 40 1000 1 (.tuple [.str (tx cs)]) := ⟨by
    simp only [okD, okAll]
    exact ⟨fun x hx => by
      rw [tx_list] at hx
      have := (p.low x hx).2
      omega, trivial⟩, by
    simp only [PyData.bulk, PyData.bulkAll]
    rw [tx_size]
    have := p.len
    omega, by simp [PyData.depth, PyData.depthAll]⟩
  exact ⟨rfl, Nat.le_trans f.bulk (by decide), f.repr (by decide) (by decide) (by decide) (by decide)⟩
/-- such a place is one in the avoiding text -/
theorem spot_av {H : Hp} {p a : Addr} {s : Nat} {cs ns : List Nat} {ad : Nat → Addr} {g : Nat → List Nat} (hp : H p = some (.tup [.int s, .ref a])) (pm : ns.Perm (met cs)) (sp : Spot H a (met cs).length s cs ns ad g) (hs : s ≤ 1000000000000000000) (pat : Pat cs) : ∃ e, AvD (fun _ => False) H cs (.ref p) e true := by
  have m8 := pat.few
  have l1 : (cs.flatMap fun c => intL (g c)).length = (cs.flatMap g).length := by rw [flat_int_eq, intL_len]
  have b1 : cs.flatMap (fun c => intL (g c)) = avs (qOf (met cs).length) s (cs.flatMap fun c => intL (g c)).length := by
    rw [l1, flat_int_eq, avs_blA]
    exact congrArg intL sp.pl
  have m1 : ns ≠ [] → 1 ≤ (met cs).length := fun z => by rw [← pm.length_eq]; exact List.length_pos_iff.mpr z
  have e := avp_vals (cs := cs) hp sp.va pm (by rw [pm.length_eq]; exact m8) fun c hc => by
    have hc2 := mem_met.mp (pm.mem_iff.mp hc)
    obtain ⟨q1, q2, _⟩ := qOf_in (met cs).length (m1 (List.ne_nil_of_mem hc)) m8
    refine ⟨fun z => sp.ne c hc2 (intL_nil.mp z), ?_, fun x hx => ?_⟩
    · rw [intL_len]
      obtain ⟨u, w, e⟩ := List.append_of_mem hc2
      have := sp.len
      rw [e, List.flatMap_append, List.flatMap_cons] at this
      simp only [List.length_append] at this
      omega
    · have : x ∈ cs.flatMap fun c => intL (g c) := List.mem_flatMap.mpr ⟨c, hc2, hx⟩
      rw [b1] at this
      exact avs_range (by omega) q2 x this
  rw [decide_eq_true hs, decide_eq_true (by rw [l1]; exact sp.len), decide_eq_true b1] at e
  exact ⟨_, e⟩
section
variable {P : Program} {w : World} {K : PySem.W.Frag} {mg : Str → Option Value} {base : Heap}
def spLaw (K : PySem.W.Frag) (pd : Addr) : Sp := fun vs H Q _ => ∃ (a : Addr) (ns : List Int), vs = [.ref a] ∧ SqL K H a (ns.map V.int) ∧ ns.length ≤ 63 ∧ H pd = some (.tbl #[]) ∧ ∀ H', Q (.bl true) H'
theorem ok_law {k : Nat} (T : Txt K mg) (TB : LamX.TabB base mg T.cdLaw T.pdLaw) (hbm : ∃ mm, base.Ns sysModules mm) : FnG P w K mg base CX0 (k + 39) T.aLaw T.dLaw ["_law_script"] (spLaw K T.pdLaw) := by
  have GLPen : FnOk P w K mg base CX0 (k + 38) T.aLPen T.dLPen ["_law_script"] (spPen K) := ok_pen T
  have GLDraw : FnOk P w K mg base CX0 (k + 38) T.aLDraw T.dLDraw ["_law_pen_here", "_law_many"] spNDraw := ok_draw T
  have GLPick : FnOk P w K mg base CX0 (k + 38) T.aLPick T.dLPick ["_law_pen_here", "_law_choices"] (spNPick K) := ok_pick T
  have GLPlaced : FnOk P w K mg base CX0 (k + 38) T.aLPlaced T.dLPlaced ["_law_pen_here", "_law_count"] spPlcd := ok_plcd T
  have GLRepeated : FnOk P w K mg base CX0 (k + 38) T.aLRepeated T.dLRepeated ["_law_pen_here", "_law_count"] spRep := ok_lrep T
  have GLEdge : FnOk P w K mg base CX0 (k + 38) T.aLEdge T.dLEdge ["_law_pen_here"] spEdg := ok_ledge T
  have GLDescentRight : FnG P w K mg base CX0 (k + 38) T.aLDescentRight T.dLDescentRight ["_law_pattern", "_law_place", "_law_told_here"] spRgt := ok_rgt T hbm
  have GDescend : FnOk P w K mg base CX0 (k + 38) T.aDescend T.dDescend ["pattern", "place"] spDsc := ok_dsc T
  have GDescendX : FnOk P w K mg base (L2.CX P w) (k + 36) T.aDescend T.dDescend ["pattern", "place"] (fun vs H Q E => spIapX T.cInvalidPattern vs H Q E ∨ spIapF T.cInvalidPlace vs H Q E) := ok_dscX T
  refine okT T.fLaw T.kdLaw scLaw (fun vs H Q E h => ?_) (fun A outer sh H vs Q E hr hgd h => ?_)
  · obtain ⟨a, ns, rfl, _⟩ := h
    rfl
  · obtain ⟨a, ns, rfl, hs, hn, htb, q⟩ := h
    refine ⟨_, (pss_cons (ps_set (i := 1) scLaw.nd rfl (Or.inl rfl) (pe_call GLPen hr (by rfl) T.gLPen T.fLPen.kp T.bLPen .nil pass0 (pa_cons (pv 0) pa_nil)))
      (pss_cons (ps_for PassesOwn.never rfl (pi_range1 (by rfl) T.m_range (pa_cons (pe_op op_add pe_int (pe_callB (call_min2 rfl) (by rfl) T.m_min (by decide +kernel) (pa_cons pe_int (pa_cons (pe_callB call_len_seq (by rfl) T.m_len PySem.boot_len (pa_cons (pv 0) pa_nil)) pa_nil)))) pa_nil)) (pg_name (i := 2) scLaw.nd rfl (Or.inl rfl)) (pss_cons (ps_asg (pe_call GLPlaced hr (by rfl) T.gLPlaced T.fLPlaced.kp T.bLPlaced .nil pass0 (pa_cons (pv 1) (pa_cons (pe_op op_add pe_int (pe_call GLDraw hr (by rfl) T.gLDraw T.fLDraw.kp T.bLDraw .nil pass0 (pa_cons (pv 1) (pa_cons pe_int pa_nil)))) pa_nil))) (pg_tup (by rfl) (pgs_cons (pg_name (i := 5) scLaw.nd rfl (Or.inr rfl)) (pgs_cons (pg_name (i := 6) scLaw.nd rfl (Or.inl rfl)) pgs_nil))))
      (pss_cons (ps_par (i := 7) (j := 8) (by rfl) scLaw.nd rfl rfl (by decide) rfl rfl (pa_cons (pe_callB (Mo.cr_reprX hbm hgd hr.units) (by rfl) T.m_repr (by decide +kernel) (pa_cons (pv 6) pa_nil)) (pa_cons (pe_call GDescend hr (by rfl) T.gDescend T.fDescend.kp T.bDescend .nil pass0 (pa_cons (pv 5) (pa_cons (pv 6) pa_nil))) pa_nil)) (by rfl))
      (pss_cons (ps_if (PW.pt (pw_or (pt_not (pt_val (Mo.pe_callG GLDescentRight hr hgd (by rfl) T.gLDescentRight T.fLDescentRight.kp T.bLDescentRight .nil pass0 (pa_cons (pv 5) (pa_cons (pv 6) (pa_cons (pv 8) pa_nil)))))) (pw_or1 (pt_cmpR op_ne (pe_callB (Mo.cr_reprX hbm hgd hr.units) (by rfl) T.m_repr (by decide +kernel) (pa_cons (pv 6) pa_nil)) (pv 7) (nomark _))))) (pss_one (ps_ret pe_bl)) pss_nil)
      (pss_cons (ps_expr (pe_bm PySem.F.plainAttrs_list PySem.F.slot_list_append PySem.F.type_list_append mt_append (pe_ix ix_tup (pv 8) pe_int (fun _ _ => rfl)) (pa_cons pe_str pa_nil)))
      (pss_cons (ps_if (pt_not (pt_val (Mo.pe_callG GLDescentRight hr hgd (by rfl) T.gLDescentRight T.fLDescentRight.kp T.bLDescentRight .nil pass0 (pa_cons (pv 5) (pa_cons (pv 6) (pa_cons (pe_call GDescend hr (by rfl) T.gDescend T.fDescend.kp T.bDescend .nil pass0 (pa_cons (pv 5) (pa_cons (pv 6) pa_nil))) pa_nil)))))) (pss_one (ps_ret pe_bl)) pss_nil)
      (pss_cons (ps_set (i := 3) scLaw.nd rfl (Or.inr rfl) (pe_call GLPick hr (by rfl) T.gLPick T.fLPick.kp T.bLPick .nil pass0 (pa_cons (pv 1) (pa_cons (pe_lst (pa_cons pe_non (pa_cons (pe_tup (pa_cons (pe_op op_add (pe_ix ix_tup (pv 6) pe_int (fun _ _ => rfl)) pe_int) (pa_cons (pe_ix ix_tup (pv 6) pe_int (fun _ _ => rfl)) pa_nil))) (pa_cons (pe_tup (pa_cons (pe_ix ix_tup (pv 6) pe_int (fun _ _ => rfl)) pa_nil)) (pa_cons (pe_lst (pa_cons (pe_ix ix_tup (pv 6) pe_int (fun _ _ => rfl)) (pa_cons (pe_ix ix_tup (pv 6) pe_int (fun _ _ => rfl)) pa_nil))) (pa_cons (pe_tup (pa_cons pe_int (pa_cons pe_dnewK pa_nil))) (pa_cons pe_int (pa_cons pe_str pa_nil)))))))) pa_nil))))
      (pss_cons (ps_if (pt_cmpR (Mo.op_neFl hr.units) (Mo.pe_callL T.fLTold T.bLTold scLTold (by rfl) T.gLTold rfl (Or.inl rfl) (givesLTold T hbm hgd) hr (Mo.pe_lamV (T := [(T.pdLaw, _)]) TB rfl (List.mem_singleton.mpr rfl) (fun p hp _ => by rw [List.mem_singleton.mp hp]) (LamX.lamS_by (sc := defScope sLaw) (by decide +kernel)) rfl (fun _ _ _ _ _ => rfl) (fun A outer s' H' E fn cc hr hgu => (pe_call GDescendX hr (by rfl) T.gDescend T.fDescend.kp T.bDescend .nil (passes_call (takes_of rfl rfl rfl rfl) (fun _ _ _ _ h => h)) (pa_cons (pv 5) (pa_cons (pv 3) pa_nil)))))) (pe_tup (pa_cons pe_str (pa_cons (pe_callB (Mo.cr_reprX hbm hgd hr.units) (by rfl) T.m_repr (by decide +kernel) (pa_cons (pv 3) pa_nil)) (pa_cons pe_bl pa_nil)))) (nomark _)) (pss_one (ps_ret pe_bl)) pss_nil)
      (pss_cons (ps_set (i := 4) scLaw.nd rfl (Or.inr rfl) (pe_call GLPick hr (by rfl) T.gLPick T.fLPick.kp T.bLPick .nil pass0 (pa_cons (pv 1) (pa_cons (pe_lst (pa_cons pe_str (pa_cons pe_str (pa_cons pe_non (pa_cons pe_int (pa_cons pe_str (pa_cons (pe_op Mo.op_mulS pe_str pe_int) (pa_cons (pe_tup (pa_cons (pv 5) pa_nil)) pa_nil)))))))) pa_nil))))
      (pss_one (ps_if (pt_cmpR (Mo.op_neFl hr.units) (Mo.pe_callL T.fLTold T.bLTold scLTold (by rfl) T.gLTold rfl (Or.inl rfl) (givesLTold T hbm hgd) hr (Mo.pe_lamV (T := [(T.pdLaw, _)]) TB rfl (List.mem_singleton.mpr rfl) (fun p hp _ => by rw [List.mem_singleton.mp hp]) (LamX.lamS_by (sc := defScope sLaw) (by decide +kernel)) rfl (fun _ _ _ _ _ => rfl) (fun A outer s' H' E fn cc hr hgu => (pe_call GDescendX hr (by rfl) T.gDescend T.fDescend.kp T.bDescend .nil (passes_call (takes_of rfl rfl rfl rfl) (fun _ _ _ _ h => h)) (pa_cons (pv 4) (pa_cons (pv 3) pa_nil)))))) (pe_tup (pa_cons pe_str (pa_cons (pe_callB (Mo.cr_reprX hbm hgd hr.units) (by rfl) T.m_repr (by decide +kernel) (pa_cons (pv 4) pa_nil)) (pa_cons pe_bl pa_nil)))) (nomark _)) (pss_one (ps_ret pe_bl)) pss_nil)))))))))))
      (pss_cons (ps_asg (pe_call GLRepeated hr (by rfl) T.gLRepeated T.fLRepeated.kp T.bLRepeated .nil pass0 (pa_cons (pv 1) (pa_cons (pe_op op_add pe_int (pe_call GLDraw hr (by rfl) T.gLDraw T.fLDraw.kp T.bLDraw .nil pass0 (pa_cons (pv 1) (pa_cons pe_int pa_nil)))) pa_nil))) (pg_tup (by rfl) (pgs_cons (pg_name (i := 5) scLaw.nd rfl (Or.inr rfl)) (pgs_cons (pg_name (i := 6) scLaw.nd rfl (Or.inl rfl)) pgs_nil))))
      (pss_cons (ps_while PassesOwn.never (pt_cmpR op_notN (pv 6) pe_non (nomark _)) (pss_cons (ps_set (i := 8) scLaw.nd rfl (Or.inl rfl) (pe_call GDescend hr (by rfl) T.gDescend T.fDescend.kp T.bDescend .nil pass0 (pa_cons (pv 5) (pa_cons (pv 6) pa_nil))))
      (pss_cons (ps_if (pt_not (pt_val (Mo.pe_callG GLDescentRight hr hgd (by rfl) T.gLDescentRight T.fLDescentRight.kp T.bLDescentRight .nil pass0 (pa_cons (pv 5) (pa_cons (pv 6) (pa_cons (pv 8) pa_nil)))))) (pss_one (ps_ret pe_bl)) pss_nil)
      (pss_one (ps_set (i := 6) scLaw.nd rfl (Or.inl rfl) (pe_ifExp (pt_cmpR op_eq (pe_ix ix_tup (pv 8) pe_int (fun _ _ => rfl)) (pv 5) (nomark _)) (pe_ix ix_tup (pv 8) pe_int (fun _ _ => rfl)) pe_non))))))
      (pss_cons (ps_asg (pe_call GLEdge hr (by rfl) T.gLEdge T.fLEdge.kp T.bLEdge .nil pass0 (pa_cons (pv 1) pa_nil)) (pg_tup (by rfl) (pgs_cons (pg_name (i := 5) scLaw.nd rfl (Or.inr rfl)) (pgs_cons (pg_name (i := 6) scLaw.nd rfl (Or.inl rfl)) (pgs_cons (pg_name (i := 9) scLaw.nd rfl (Or.inr rfl)) pgs_nil)))))
      (pss_cons (ps_if (pt_not (pt_val (Mo.pe_callG GLDescentRight hr hgd (by rfl) T.gLDescentRight T.fLDescentRight.kp T.bLDescentRight .nil pass0 (pa_cons (pv 5) (pa_cons (pv 6) (pa_cons (pe_call GDescend hr (by rfl) T.gDescend T.fDescend.kp T.bDescend .nil pass0 (pa_cons (pv 5) (pa_cons (pv 6) pa_nil))) pa_nil)))))) (pss_one (ps_ret pe_bl)) pss_nil)
      (pss_one (ps_ret (pe_cmpR (Mo.op_eqFl hr.units) (Mo.pe_callL T.fLTold T.bLTold scLTold (by rfl) T.gLTold rfl (Or.inl rfl) (givesLTold T hbm hgd) hr (Mo.pe_lamV (T := [(T.pdLaw, _)]) TB rfl (List.mem_singleton.mpr rfl) (fun p hp _ => by rw [List.mem_singleton.mp hp]) (LamX.lamS_by (sc := defScope sLaw) (by decide +kernel)) rfl (fun _ _ _ _ _ => rfl) (fun A outer s' H' E fn cc hr hgu => (pe_call GDescendX hr (by rfl) T.gDescend T.fDescend.kp T.bDescend .nil (passes_call (takes_of rfl rfl rfl rfl) (fun _ _ _ _ h => h)) (pa_cons (pv 5) (pa_cons (pv 9) pa_nil)))))) (pe_tup (pa_cons pe_str (pa_cons (pe_callB (Mo.cr_reprX hbm hgd hr.units) (by rfl) T.m_repr (by decide +kernel) (pa_cons (pv 9) pa_nil)) (pa_cons pe_bl pa_nil)))) (nomark _)))))))))), ?_⟩
    refine ⟨_, rfl, a, ns, rfl, hs, hn, fun H0 d c s0 nd0 src0 => ?_⟩
    have tb0 : LamX.Tabs [(T.pdLaw, lamQ)] H0 := tabs_nil (s0 _ _ htb)
    have mt : V.bl (!decide (V.str (tx []) = V.str (Str.ofString ""))) = V.bl false := congrArg (fun b => V.bl (!b)) (decide_eq_true (congrArg V.str tx_nil))
    refine ⟨_, rfl, a, _, rfl, .inl (s0.seq hs), 4, _, rfl, 3, _, rfl, rfl, _, rfl, ?_, ?_, for_range (lo := 0) (fun i σ H' => ∃ (t : Nat) (o2 o3 o4 o5 o6 o7 o8 o9 : Option V), σ = [some (.ref a), some (.ref d), o2, o3, o4, o5, o6, o7, o8, o9] ∧ Nxt H' d c t ∧ t ≤ 1000 * i ∧ LamX.Tabs [(T.pdLaw, lamQ)] H') ?_ ?_ ?_⟩
    · split <;> omega
    · split <;> omega
    · exact ⟨0, _, _, _, _, _, _, _, _, rfl, src0, Nat.zero_le _, tb0⟩
    · rintro i σ Ha hi ⟨t, o2, o3, o4, o5, o6, o7, o8, o9, rfl, srca, ht, tba⟩
      have hi2 : i < 7 := by
        revert hi
        split <;> omega
      clear hi tb0 src0 htb hs
      -- a pattern and a place
      refine ⟨_, rfl, _, rfl, d, c, 8, t, rfl, srca, by decide, by decide, by omega, fun H1 kk t1 b1 src1 ht1 k0 k1 => ?_⟩
      obtain ⟨j, rfl⟩ := nat_of k0
      refine ⟨_, _, rfl, rfl, d, c, 1 + j, t1, by show [V.ref d, V.int (1 + (j : Int))] = [V.ref d, V.int ((1 + j : Nat) : Int)]; rw [show (1 : Int) + (j : Int) = ((1 + j : Nat) : Int) by omega], src1, by omega, by omega, by omega, fun Hb r t2 b2 srcb ht2 plc => ?_⟩
      have tbb := src1.tab (srca.tab tba b1) b2
      obtain ⟨pa, va, cs, ns, st, ad, f, hr2, hpa, vs, vad, pm, nsn, nne, n8, low, pat, cne, c28, val, st18, mln, txt, l4096⟩ := plc
      refine ⟨r, _, rfl, SqT.of hr2, rfl, _, _, rfl, _, _, rfl, rfl, ?_⟩
      rw [← mln] at txt
      have dx0 : Dx (fun x => x = d) Hb (.ref pa) (plcD st ns ad f) := place_dx hpa (srcb.kind hpa (fun _ e => by cases e)) vad vs (fun c hc => srcb.kind (vs.el c hc) (fun _ e => by cases e))
      have fit0 : Fit 40 100000 6 (plcD st ns ad f) := fit_plc (by omega) n8 low fun c hc => ⟨by have := (val c hc).2.1; omega, (val c hc).2.2⟩
      obtain ⟨f1, f2, f3⟩ := fit0.repr (by decide) (by decide) (by decide) (by decide)
      have ok4 : ∀ c ∈ ns, f c ≠ [] ∧ (f c).length ≤ 4096 ∧ ∀ n ∈ f c, 0 ≤ n ∧ n ≤ 999999 := fun c hc => ⟨(val c hc).1, by have := (val c hc).2.1; omega, (val c hc).2.2⟩
      have avA : ∀ H', Same Hb H' → AvD (fun _ => False) H' cs (.ref pa) (plcD st ns ad f) true := fun H' s' => by
        have e := avp_vals (cs := cs) (s' _ _ hpa) (vs.same s') pm n8 ok4
        rw [decide_eq_true st18, decide_eq_true l4096, decide_eq_true txt] at e
        exact e
      obtain ⟨G, spot⟩ := plc_spot vs nsn pm (fun c hc => (val c hc).1) txt l4096
      have c40 : cs.length ≤ 40 := by omega
      clear srca tba b1 src1 b2 hr2
      -- what it is, and its descent
      refine ⟨_, rfl, (fun x => x = d), .ref pa, plcD st ns ad f, rfl, dx0, f1, f2, f3, _, rfl, _, rfl, st, cs, pa, va, ns, ad, G, (fun _ => False), rfl, pat, cne, hpa, spot, ⟨_, avA _ (Same.refl _)⟩, ?_⟩
      intro Hd r2 l p2 a2 v rest s2 ad2 g2 sd nr nl hrd hld sts sub hp2 h0 h1
      refine ⟨_, _, rfl, ?_⟩
      refine ⟨_, rfl, _, rfl, _, rfl, st, cs, pa, va, r2, l, p2, a2, ns, ad, G, v, rest, s2, ad2, g2, rfl, pat, cne, st18, sd _ _ hpa, pm, spot.same sd, hrd, hld, sts, sub, hp2, h0, h1, fun He se => ⟨true, rfl, iteF ?_⟩⟩
      have sde := sd.trans se
      refine ⟨_, rfl, (fun x => x = d), .ref pa, plcD st ns ad f, rfl, dx0.same sde, f1, f2, f3, _, rfl, rfl, false, same_ne _, iteF ?_⟩
      have hle := se _ _ hld
      have hre := se _ _ hrd
      have vl := sts.len
      have m8 := pat.few
      refine ⟨_, rfl, r2, _, 0, .ref l, rfl, rfl, SqT.of hre, rfl, .inl ⟨rfl, _, SqL.of hle⟩, l, _, _, rfl, rfl, hle, fitsLt (by unfold tzs; rw [List.length_map]; omega), ?_⟩
      have sf : Same Hb (upd He l (.lst (tzs v ++ [V.str (Str.ofString "zz")]))) := Same.put sde nl
      generalize upd He l (.lst (tzs v ++ [V.str (Str.ofString "zz")])) = Hf at *
      refine ⟨_, rfl, _, rfl, _, rfl, _, rfl, st, cs, pa, va, ns, ad, G, (fun _ => False), rfl, pat, cne, sf _ _ hpa, spot.same sf, ⟨_, avA _ sf⟩, ?_⟩
      intro Hg r3 l3 p3 a3 v3 rest3 s3 ad3 g3 sg' nr3 nl3 hr3 hl3 sts3 sub3 hp3 h03 h13
      have sg2 := sf.trans sg'
      refine ⟨st, cs, pa, va, r3, l3, p3, a3, ns, ad, G, v3, rest3, s3, ad3, g3, rfl, pat, cne, st18, sg2 _ _ hpa, pm, spot.same sg2, hr3, hl3, sts3, sub3, hp3, h03, h13, fun Hc sh => ⟨true, rfl, iteF ?_⟩⟩
      have sc := sg2.trans sh
      have srcc := srcb.same sc
      have tbc := Tabs.same tbb sc
      have dxc := dx0.same sc
      have hpac := sc _ _ hpa
      clear srcb tbb
      -- what is no place
      have hNc := nxt_lit srcc
      obtain ⟨dxs, dxv⟩ : Dx (fun x => x = d) Hc (.int (st : Int)) (.int (st : Int)) ∧ Dx (fun x => x = d) Hc (.ref va) (.dict (((dk (valsD ns ad)).map fun kv => keyD kv.1).zip (ns.map fun c => txU (f c)))) := by
        obtain ⟨p', xs, e1, e2, _, e4⟩ := tpl_dx dxc
        have e5 : pa = p' := V.ref.inj e1
        subst e5
        rw [hpac] at e2
        have e6 := HO.tup.inj (Option.some.inj e2)
        subst e6
        cases e4 with
        | cons h1 t =>
          cases t with
          | cons h2 _ => exact ⟨h1, h2⟩
      refine ⟨_, rfl, pick_ofN (N := fun x => x = d) (n := 7) (Pp := Wrg cs) rfl srcc (by omega) (mk_lst hNc (mka_cons (mk_lit hNc lit_non ?w0) (mka_cons ?w1 (mka_cons ?w2 (mka_cons ?w3 (mka_cons ?w4 (mka_cons (mk_lit hNc (lit_int (i := 5)) ?w5) (mka_cons (mk_lit hNc (lit_str (x := Str.ofString "a")) ?w6) mka_nil)))))))) (q := fun H8 v t8 e b8 src8 ht8 dx8 hw => ?_) (E := E)⟩
      case w0 => exact wrg_no ⟨by simp [okD], by simp [PyData.bulk], by simp [PyData.depth]⟩ rfl
      case w5 => exact wrg_no ⟨by simp only [okD]; decide, by simp [PyData.bulk], by simp [PyData.depth]⟩ rfl
      case w6 => exact wrg_no ⟨by simp only [okD]; decide +kernel, by simp only [PyData.bulk]; decide +kernel, by simp [PyData.depth]⟩ rfl
      case w1 =>
        intro Hm sm Qm qm
        refine ⟨_, rfl, pa, _, 0, .int (st : Int), rfl, rfl, SqT.of (sm _ _ hpac), rfl, _, 1, rfl, rfl, _, rfl, pa, _, 1, .ref va, rfl, rfl, SqT.of (sm _ _ hpac), rfl, by show 2 ≤ sizeLine; decide, fun tp ntp => ?_⟩
        have stp := same_new (o := .tup [V.int ((st : Int) + 1), V.ref va]) ntp
        have ntd : tp ≠ d := fun z => hNc d rfl (by rw [← z]; exact sm.free ntp)
        refine qm _ _ (plcD (st + 1) ns ad f) stp (.tup upd_same ntd (.cons ?_ (.cons (dxv.same (sm.trans stp)) .nil))) (wrg_plc (fit_plc (by omega) n8 low fun c hc => ⟨by have := (val c hc).2.1; omega, (val c hc).2.2⟩) pm ?_)
        · have e : PyData.int ((st + 1 : Nat) : Int) = PyData.int ((st : Int) + 1) := congrArg PyData.int (by omega)
          rw [e]
          exact .int _
        · obtain ⟨q1, q2, _⟩ := qOf_in (met cs).length (by omega) (by omega)
          exact next_no (by omega) cne (fun c hc => (val c (pm.mem_iff.mpr (mem_met.mpr hc))).1) txt
      case w2 =>
        intro Hm sm Qm qm
        refine ⟨_, rfl, pa, _, 0, .int (st : Int), rfl, rfl, SqT.of (sm _ _ hpac), rfl, by show 1 ≤ sizeLine; decide, fun tp ntp => ?_⟩
        have stp := same_new (o := .tup [V.int (st : Int)]) ntp
        have ntd : tp ≠ d := fun z => hNc d rfl (by rw [← z]; exact sm.free ntp)
        refine qm _ _ (.tuple [.int (st : Int)]) stp (.tup upd_same ntd (.cons (.int _) .nil)) (wrg_no ?_ rfl)
        have h1 := fit_start (s := st) (by omega)
        exact ⟨by simp only [okD, okAll]; exact ⟨h1.ok, trivial⟩, by simp only [PyData.bulk, PyData.bulkAll]; decide, by simp [PyData.depth, PyData.depthAll]⟩
      case w3 =>
        intro Hm sm Qm qm
        refine ⟨_, rfl, pa, _, 0, .int (st : Int), rfl, rfl, SqT.of (sm _ _ hpac), rfl, _, rfl, pa, _, 1, .ref va, rfl, rfl, SqT.of (sm _ _ hpac), rfl, by show 2 ≤ sizeLine; decide, fun tp ntp => ?_⟩
        have stp := same_new (o := .lst [V.int (st : Int), V.ref va]) ntp
        have ntd : tp ≠ d := fun z => hNc d rfl (by rw [← z]; exact sm.free ntp)
        refine qm _ _ (.list [.int (st : Int), .dict (((dk (valsD ns ad)).map fun kv => keyD kv.1).zip (ns.map fun c => txU (f c)))]) stp (.lst upd_same ntd (.cons (.int _) (.cons (dxv.same (sm.trans stp)) .nil))) (wrg_no ?_ rfl)
        have h1 := fit0
        unfold plcD at h1
        exact ⟨by have := h1.ok; simp only [okD] at this ⊢; exact this, by have := h1.bulk; simp only [PyData.bulk] at this ⊢; exact this, by have := h1.deep; simp only [PyData.depth] at this ⊢; exact this⟩
      case w4 =>
        intro Hm sm Qm qm
        refine fun dp ndp => ⟨by show 2 ≤ sizeLine; decide, fun tp ntp => ?_⟩
        have sdp := same_new (o := .dK []) ndp
        have stp := same_new (o := .tup [V.int 0, V.ref dp]) ntp
        have ndd : dp ≠ d := fun z => hNc d rfl (by rw [← z]; exact sm.free ndp)
        have ntd : tp ≠ d := fun z => hNc d rfl (by rw [← z]; exact sm.free (sdp.free ntp))
        exact qm _ _ (.tuple [.int 0, .dict []]) (sdp.trans stp) (.tup upd_same ntd (.cons (.int 0) (.cons (.dct (kvs := []) (stp _ _ upd_same) ndd .nil) .nil))) (wrg_emp cne)
      -- told of a wrong place
      have tb8 := srcc.tab tbc b8
      have sw := hw.1
      obtain ⟨g1, g2, g3⟩ := id sw
      clear srcc tbc b8 hNc dxs dxv hpac dxc sd nr nl hrd hld sts sub hp2 h0 h1 se sde hle hre sf sg' sg2 sh sc nr3 nl3 hr3 hl3 sts3 sub3 hp3 h03 h13
      refine ⟨tb8, fun fn G1 nf ex1 tg1 la => ⟨fn, _, rfl, la, .inr ⟨(fun x => x = d), v, e, dx8.tabs ex1, sw, fun E Q1 out => ?_, fun H10 p10 s10 hp10 => ?_⟩⟩⟩
      · exact ⟨_, rfl, _, rfl, .inr ⟨cs, v, (fun x => x = d), rfl, pat, cne, wrg_av hw (dx8.tabs ex1), out⟩⟩
      have exC := ex1.trans (extN_same s10)
      have src9 := src8.tabs exC
      have tb9 := Tabs.same tg1 s10
      have dx9 := dx8.tabs exC
      refine ⟨_, rfl, (fun x => x = d), v, e, rfl, dx9, g1, g2, g3, by show 3 ≤ sizeLine; decide, fun p11 np11 => neFl_self ((same_new np11) _ _ hp10) upd_same rfl ⟨false, rfl, iteF ?_⟩⟩
      have src11 := src9.same (same_new (o := .tup [.str (Str.ofString "place"), .str e.shown, .bl true]) np11)
      have tb11 := Tabs.same tb9 (same_new (o := .tup [.str (Str.ofString "place"), .str e.shown, .bl true]) np11)
      have dx11 := dx9.same (same_new (o := .tup [.str (Str.ofString "place"), .str e.shown, .bl true]) np11)
      clear src8 tb8 src9 tb9 dx9 dx8 tg1 exC ex1 la nf hp10
      generalize upd H10 p11 (.tup [.str (Str.ofString "place"), .str e.shown, .bl true]) = H11 at *
      -- what is no pattern
      have hN11 := nxt_lit src11
      refine ⟨_, rfl, pick_ofN (N := fun x => x = d) (n := 7) (Pp := Odd) rfl src11 (by omega) (mk_lst hN11 (mka_cons (mk_lit hN11 (lit_str (x := Str.ofString "")) (mem_oS 0 [])) (mka_cons (mk_lit hN11 (lit_str (x := Str.ofString "A")) (mem_oS 1 [65])) (mka_cons (mk_lit hN11 lit_non (mem_od 2)) (mka_cons (mk_lit hN11 (lit_int (i := 7)) (mem_od 3)) (mka_cons (mk_lit hN11 (lit_str (x := Str.ofString "abcdefghi")) (mem_oS 4 [97, 98, 99, 100, 101, 102, 103, 104, 105])) (mka_cons ?o5 (mka_cons ?o6 mka_nil)))))))) (q := fun H12 v2 t12 e2 b12 src12 ht12 dx12 ho => ?_) (E := E)⟩
      case o5 =>
        intro Hm sm Qm qm
        exact ⟨[97], 41, congrArg V.str (by decide +kernel), rfl, by decide, by decide, qm Hm _ _ (Same.refl _) (.str _) (mem_oS 5 (List.replicate 41 97) (congrArg tx mul41.symm))⟩
      case o6 =>
        intro Hm sm Qm qm
        refine ⟨_, rfl, by show 1 ≤ sizeLine; decide, fun tp ntp => ?_⟩
        have stp := same_new (o := .tup [V.str (tx cs)]) ntp
        have ntd : tp ≠ d := fun z => hN11 d rfl (by rw [← z]; exact sm.free ntp)
        exact qm _ _ (.tuple [.str (tx cs)]) stp (.tup upd_same ntd (.cons (.str _) .nil)) (odd_tup pat)
      have tb12 := src11.tab tb11 b12
      obtain ⟨fl, bk, sw2⟩ := ho
      obtain ⟨h1, h2, h3⟩ := id sw2
      clear src11 tb11 b12 hN11
      refine ⟨tb12, fun fn G1 nf ex1 tg1 la => ⟨fn, _, rfl, la, .inl ⟨(fun x => x = d), v2, e2, dx12.tabs ex1, sw2, fun E Q1 out => ?_, fun H14 p14 s14 hp14 => ?_⟩⟩⟩
      · exact ⟨_, rfl, _, rfl, .inl ⟨(fun x => x = d), v2, v, e2, rfl, dx12.tabs ex1, bk, fl, out⟩⟩
      have exC := ex1.trans (extN_same s14)
      refine ⟨_, rfl, (fun x => x = d), v2, e2, rfl, dx12.tabs exC, h1, h2, h3, by show 3 ≤ sizeLine; decide, fun p15 np15 => neFl_self ((same_new np15) _ _ hp14) upd_same rfl ⟨false, rfl, iteF ?_⟩⟩
      have s15 := same_new (o := .tup [.str (Str.ofString "pattern"), .str e2.shown, .bl true]) np15
      exact ⟨t12, _, _, _, _, _, _, _, _, rfl, (src12.tabs exC).same s15, by omega, Tabs.same (Tabs.same tg1 s14) s15⟩
    · rintro σ Ha ⟨t, o2, o3, o4, o5, o6, o7, o8, o9, rfl, srca, ht, tba⟩
      have ht2 : t < 800000 := by
        revert ht
        split <;> omega
      -- the repeated one
      refine ⟨_, rfl, _, rfl, d, c, 7, t, rfl, srca, by decide, by decide, by omega, fun H1 kk t1 b1 src1 ht1 k0 k1 => ?_⟩
      obtain ⟨j, rfl⟩ := nat_of k0
      refine ⟨_, _, rfl, rfl, d, c, 2 + j, t1, by show [V.ref d, V.int (2 + (j : Int))] = [V.ref d, V.int ((2 + j : Nat) : Int)]; rw [show (2 : Int) + (j : Int) = ((2 + j : Nat) : Int) by omega], src1, by omega, by omega, by omega, fun Hb r t2 b2 srcb ht2 plc => ?_⟩
      have tbb := src1.tab (srca.tab tba b1) b2
      obtain ⟨pa, va, cs, ns, st, ad, f, hr2, hpa, vs, vad, pm, nsn, nne, n8, low, pat, cne, c28, val, st18, mln, txt, l4096⟩ := plc
      refine ⟨r, _, rfl, SqT.of hr2, rfl, _, _, rfl, _, _, rfl, rfl, ?_⟩
      rw [← mln] at txt
      have ok4 : ∀ c ∈ ns, f c ≠ [] ∧ (f c).length ≤ 4096 ∧ ∀ n ∈ f c, 0 ≤ n ∧ n ≤ 999999 := fun c hc => ⟨(val c hc).1, by have := (val c hc).2.1; omega, (val c hc).2.2⟩
      have avA : AvD (fun _ => False) Hb cs (.ref pa) (plcD st ns ad f) true := by
        have e := avp_vals (cs := cs) hpa vs pm n8 ok4
        rw [decide_eq_true st18, decide_eq_true l4096, decide_eq_true txt] at e
        exact e
      obtain ⟨G, spot⟩ := plc_spot vs nsn pm (fun c hc => (val c hc).1) txt l4096
      clear srca tba b1 src1 b2 hr2 avA ok4
      refine ⟨fun mm σ H' => ∃ (pl : V) (o2 o3 o4 o7 o8 o9 : Option V), σ = [some (.ref a), some (.ref d), o2, o3, o4, some (.str (tx cs)), some pl, o7, o8, o9] ∧ Nxt H' d c t2 ∧ LamX.Tabs [(T.pdLaw, lamQ)] H' ∧ ((pl = .non ∧ mm = 0) ∨ ∃ (pp aa : Addr) (ns' : List Nat) (s' : Nat) (ad' : Nat → Addr) (g' : Nat → List Nat), pl = .ref pp ∧ H' pp = some (.tup [.int s', .ref aa]) ∧ ns'.Perm (met cs) ∧ Spot H' aa (met cs).length s' cs ns' ad' g' ∧ s' ≤ 1000000000000000000 ∧ mm = (cs.flatMap g').length + 1), ⟨_, .ref pa, _, _, _, _, _, _, rfl, srcb, tbb, .inr ⟨pa, va, ns, st, ad, G, rfl, hpa, pm, spot, st18, rfl⟩⟩, ?_⟩
      rintro mm σ Hh ⟨pl, o2', o3', o4', o7', o8', o9', rfl, srch, tbh, hpl⟩
      refine ⟨_, rfl, rfl, !decide (pl = .non), rfl, ite2 (fun e => ?_) (fun _ => ?_)⟩
      · refine ⟨fun σ' H' => ∃ mm', mm' < mm ∧ ∃ (pl : V) (o2 o3 o4 o7 o8 o9 : Option V), σ' = [some (.ref a), some (.ref d), o2, o3, o4, some (.str (tx cs)), some pl, o7, o8, o9] ∧ Nxt H' d c t2 ∧ LamX.Tabs [(T.pdLaw, lamQ)] H' ∧ ((pl = .non ∧ mm' = 0) ∨ ∃ (pp aa : Addr) (ns' : List Nat) (s' : Nat) (ad' : Nat → Addr) (g' : Nat → List Nat), pl = .ref pp ∧ H' pp = some (.tup [.int s', .ref aa]) ∧ ns'.Perm (met cs) ∧ Spot H' aa (met cs).length s' cs ns' ad' g' ∧ s' ≤ 1000000000000000000 ∧ mm' = (cs.flatMap g').length + 1), fun σ' H' ⟨m', h, i⟩ => ⟨m', h, i⟩, ?_⟩
        rcases hpl with ⟨rfl, _⟩ | ⟨pp, aa, ns', s', ad', g', rfl, hpp, pm', spot', s18, rfl⟩
        · rw [decide_eq_true rfl] at e
          cases e
        obtain ⟨dav, av'⟩ := spot_av hpp pm' spot' s18 pat
        refine ⟨_, rfl, _, rfl, s', cs, pp, aa, ns', ad', g', (fun _ => False), rfl, pat, cne, hpp, spot', ⟨dav, av'⟩, ?_⟩
        intro Hi r3 l3 p3 a3 v3 rest3 s3 ad3 g3 si nr3 nl3 hr3 hl3 sts3 sub3 hp3 h03 h13
        refine ⟨_, rfl, _, rfl, _, rfl, s', cs, pp, aa, r3, l3, p3, a3, ns', ad', g', v3, rest3, s3, ad3, g3, rfl, pat, cne, s18, si _ _ hpp, pm', spot'.same si, hr3, hl3, sts3, sub3, hp3, h03, h13, fun Hj sj => ⟨true, rfl, iteF ?_⟩⟩
        have sij := si.trans sj
        have hr4 := sj _ _ hr3
        refine ⟨_, rfl, r3, _, 1, .str (tx rest3), rfl, rfl, SqT.of hr4, rfl, _, rfl, rfl, decide (rest3 = cs), congrArg V.bl (decide_eq_decide.mpr ⟨fun z => tx_inj (V.str.inj z), fun z => by rw [z]⟩), ite2 (fun e2 => ?_) (fun _ => ?_)⟩
        · have e3 := of_decide_eq_true e2
          subst e3
          obtain ⟨sp3, less, le3⟩ := h13 cne
          exact ⟨_, rfl, r3, _, 2, .ref p3, rfl, rfl, SqT.of hr4, rfl, (rest3.flatMap g3).length + 1, by omega, .ref p3, _, _, _, _, _, _, rfl, srch.same sij, Tabs.same tbh sij, .inr ⟨p3, a3, met rest3, s3, ad3, g3, rfl, sj _ _ hp3, .refl _, sp3.same sj, by omega, rfl⟩⟩
        · exact ⟨0, by omega, .non, _, _, _, _, _, _, rfl, srch.same sij, Tabs.same tbh sij, .inl ⟨rfl, rfl⟩⟩
      have srcp := srch
      have tbp := tbh
      clear srch tbh hpl srcb tbb hpa spot vs
      -- the edge
      refine ⟨_, rfl, d, c, t2, rfl, srcp, by omega, fun Hc r2 t3 b3 src3 eg => ?_⟩
      have tb3 := srcp.tab tbp b3
      obtain ⟨p1, p2, s1, m, h, s2, m2, h2, e1, e2, e3, e4, e5, e6, e7, e8, e9, e10, e11, e12⟩ := eg
      refine ⟨r2, _, rfl, SqT.of e1, rfl, _, _, rfl, _, _, rfl, _, _, rfl, rfl, ?_⟩
      obtain ⟨va1, ad1, f1, g1, g2, g3, g4, g5, g6⟩ := edge_all e2 e3 e4 (by omega) (by omega)
      rw [decide_eq_true e6, decide_eq_true e5] at g5
      have q7 : qOf (met [97, 98]).length = 7 := by decide
      obtain ⟨G1, spot1⟩ := plc_spot (cs := [97, 98]) g2 (by decide) (by decide) g3 (by rw [q7, g4, avs_len]) (by rw [g4, avs_len]; exact e5)
      refine ⟨_, rfl, _, rfl, _, rfl, _, rfl, s1, [97, 98], p1, va1, [97, 98], ad1, G1, fun _ => False, rfl, pat_ab, by decide, g1, spot1, ⟨_, g5⟩, ?_⟩
      intro Hd r3 l3 p3 a3 v3 rest3 s3 ad3 g3' sd nr3 nl3 hr3 hl3 sts3 sub3 hp3 h03 h13
      refine ⟨s1, [97, 98], p1, va1, r3, l3, p3, a3, [97, 98], ad1, G1, v3, rest3, s3, ad3, g3', rfl, pat_ab, by decide, e6, sd _ _ g1, by decide, spot1.same sd, hr3, hl3, sts3, sub3, hp3, h03, h13, fun He se => ⟨true, rfl, iteF ?_⟩⟩
      have sde := sd.trans se
      obtain ⟨va2, ad2, f2, k1, k2, k3, k4, k5, sw⟩ := edge_all (e7.same sde) e8 e9 e10 e11
      have z : (decide (s2 ≤ 1000000000000000000) && decide (m2 + h2 ≤ 4096)) = false := by
        rcases e12 with e12 | e12
        · rw [decide_eq_false (by omega)]
          rfl
        · rw [decide_eq_false (show ¬ m2 + h2 ≤ 4096 by omega), Bool.and_false]
      rw [z] at k5
      have tbe := Tabs.same tb3 sde
      obtain ⟨w1, w2, w3⟩ := id sw
      refine ⟨tbe, fun fn G1 nf ex1 tg1 la => ⟨fn, _, rfl, la, .inr ⟨(fun _ => False), .ref p2, _, k5.1.tabs ex1, sw, fun E Q1 out => ?_, fun H10 p10 s10 hp10 => ?_⟩⟩⟩
      · obtain ⟨va3, ad3, f3, j1, j2, j3, j4, j5, _⟩ := edge_all ((e7.same sde).tabs ex1) e8 e9 e10 e11
        rw [z] at j5
        exact ⟨_, rfl, _, rfl, .inr ⟨[97, 98], .ref p2, (fun _ => False), rfl, pat_ab, by decide, ⟨_, j5⟩, out⟩⟩
      · have exC := ex1.trans (extN_same s10)
        refine ⟨_, rfl, (fun _ => False), .ref p2, _, rfl, k5.1.tabs exC, w1, w2, w3, by show 3 ≤ sizeLine; decide, fun p11 np11 => eqFl_self ((same_new np11) _ _ hp10) upd_same rfl ?_⟩
        exact q _
end
end Mo

namespace Mo
open PySem PySem.Spec PyProof.Rows L2
theorem txt_mk {K : PySem.W.Frag} {h : Heap} {mg : Str → Option Value} {fa : Addr} (X : K.In h) (G : h.Ns mainGlobals mg) (hfa : mg "law" = some (.ref fa))
    {cInvalidPattern : Addr} (eInvalidPattern : PySem.W.nsIn K mainGlobals "InvalidPattern" = some (some (.ref cInvalidPattern)))
    {cInvalidText : Addr} (eInvalidText : PySem.W.nsIn K mainGlobals "InvalidText" = some (some (.ref cInvalidText)))
    {cInvalidPlace : Addr} (eInvalidPlace : PySem.W.nsIn K mainGlobals "InvalidPlace" = some (some (.ref cInvalidPlace)))
    {nmInvalidPattern qInvalidPattern : Str} {NInvalidPattern : Addr} {bsInvalidPattern : List Value} {snInvalidPattern : List Str} {subInvalidPattern : List Value} {abInvalidPattern : Bool} {colInvalidPattern : Option Bool} {ddInvalidPattern : Option Addr} {u0InvalidPattern u1InvalidPattern u2InvalidPattern u3InvalidPattern u5InvalidPattern : Option Value}
    (xLInvalidPattern : K.lookup cInvalidPattern = some (excClassObj nmInvalidPattern qInvalidPattern cInvalidPattern NInvalidPattern bsInvalidPattern [.type "ValueError", .type "Exception", .type "BaseException", .type "object"] true snInvalidPattern subInvalidPattern abInvalidPattern colInvalidPattern ddInvalidPattern u0InvalidPattern u1InvalidPattern u2InvalidPattern u3InvalidPattern u5InvalidPattern "ValueError.__new__"))
    (saInvalidPattern : PySem.W.findIn K (.ref cInvalidPattern) "__setattr__" = some (some (.builtin "object.__setattr__")))
    (gaInvalidPattern : PySem.W.findIn K (.ref cInvalidPattern) "__getattribute__" = some (some (.builtin "BaseException.__getattribute__")))
    (ggInvalidPattern : PySem.W.findIn K (.ref cInvalidPattern) "__getattr__" = some none)
    (nbInvalidPattern : PySem.W.findIn K (.ref cInvalidPattern) "value" = some none)
    (exInvalidPattern : PySem.W.subIn K (.ref cInvalidPattern) (.type "BaseException") = some true)
    (tyInvalidPattern : PySem.W.typeIn K (.ref cInvalidPattern) = some (.type "type"))
    (hdInvalidPattern : PySem.W.hasDictIn K cInvalidPattern = true)
    (kCInvalidPattern : PySem.W.keepIn K (.ref cInvalidPattern) = true)
    (sCInvalidPattern : PySem.W.subIn K (.ref cInvalidPattern) (.ref cInvalidPattern) = some true)
    (caInvalidPattern : PySem.W.findIn K (.ref cInvalidPattern) "__class__" = some (some (.builtin "object.__class__")))
    (cnInvalidPattern : PySem.W.specialIn K (.builtin "object.__class__") "__get__" = some (some (.builtin "getset_descriptor.__get__")))
    (ctInvalidPattern : PySem.W.takesIn K (.builtin "object.__class__") = some true)
    (cmInvalidPattern : PySem.W.mroIn K cInvalidPattern (.type "object") = some true)
    {iInvalidPattern : Addr} (iCInvalidPattern : PySem.W.findIn K (.ref cInvalidPattern) "__init__" = some (some (.ref iInvalidPattern))) (tIInvalidPattern : PySem.W.typeIn K (.ref iInvalidPattern) = some (.type "function"))
    {iodInvalidPattern ianInvalidPattern : Option Addr} {islInvalidPattern : Array (Option Value)} {iocInvalidPattern ikVInvalidPattern idcInvalidPattern ipmInvalidPattern icdInvalidPattern ictInvalidPattern : Value} (iLInvalidPattern : K.lookup iInvalidPattern = some ⟨iocInvalidPattern, iodInvalidPattern, .func (PySem.W.fnOf "__init__" "InvalidPattern.__init__" (defArgs sInitInvalidPattern) (defBody sInitInvalidPattern) (defScope sInitInvalidPattern) .none ikVInvalidPattern idcInvalidPattern ipmInvalidPattern ianInvalidPattern icdInvalidPattern ictInvalidPattern), islInvalidPattern⟩) (iDInvalidPattern : PySem.W.codeIn K icdInvalidPattern "InvalidPattern.__init__" = true) (iKInvalidPattern : PySem.W.keepIn K (.ref iInvalidPattern) = true)
    {nmInvalidPlace qInvalidPlace : Str} {NInvalidPlace : Addr} {bsInvalidPlace : List Value} {snInvalidPlace : List Str} {subInvalidPlace : List Value} {abInvalidPlace : Bool} {colInvalidPlace : Option Bool} {ddInvalidPlace : Option Addr} {u0InvalidPlace u1InvalidPlace u2InvalidPlace u3InvalidPlace u5InvalidPlace : Option Value}
    (xLInvalidPlace : K.lookup cInvalidPlace = some (excClassObj nmInvalidPlace qInvalidPlace cInvalidPlace NInvalidPlace bsInvalidPlace [.type "ValueError", .type "Exception", .type "BaseException", .type "object"] true snInvalidPlace subInvalidPlace abInvalidPlace colInvalidPlace ddInvalidPlace u0InvalidPlace u1InvalidPlace u2InvalidPlace u3InvalidPlace u5InvalidPlace "ValueError.__new__"))
    (saInvalidPlace : PySem.W.findIn K (.ref cInvalidPlace) "__setattr__" = some (some (.builtin "object.__setattr__")))
    (gaInvalidPlace : PySem.W.findIn K (.ref cInvalidPlace) "__getattribute__" = some (some (.builtin "BaseException.__getattribute__")))
    (ggInvalidPlace : PySem.W.findIn K (.ref cInvalidPlace) "__getattr__" = some none)
    (nbInvalidPlace : PySem.W.findIn K (.ref cInvalidPlace) "value" = some none)
    (exInvalidPlace : PySem.W.subIn K (.ref cInvalidPlace) (.type "BaseException") = some true)
    (tyInvalidPlace : PySem.W.typeIn K (.ref cInvalidPlace) = some (.type "type"))
    (hdInvalidPlace : PySem.W.hasDictIn K cInvalidPlace = true)
    (kCInvalidPlace : PySem.W.keepIn K (.ref cInvalidPlace) = true)
    (sCInvalidPlace : PySem.W.subIn K (.ref cInvalidPlace) (.ref cInvalidPlace) = some true)
    (caInvalidPlace : PySem.W.findIn K (.ref cInvalidPlace) "__class__" = some (some (.builtin "object.__class__")))
    (cnInvalidPlace : PySem.W.specialIn K (.builtin "object.__class__") "__get__" = some (some (.builtin "getset_descriptor.__get__")))
    (ctInvalidPlace : PySem.W.takesIn K (.builtin "object.__class__") = some true)
    (cmInvalidPlace : PySem.W.mroIn K cInvalidPlace (.type "object") = some true)
    {iInvalidPlace : Addr} (iCInvalidPlace : PySem.W.findIn K (.ref cInvalidPlace) "__init__" = some (some (.ref iInvalidPlace))) (tIInvalidPlace : PySem.W.typeIn K (.ref iInvalidPlace) = some (.type "function"))
    {iodInvalidPlace ianInvalidPlace : Option Addr} {islInvalidPlace : Array (Option Value)} {iocInvalidPlace ikVInvalidPlace idcInvalidPlace ipmInvalidPlace icdInvalidPlace ictInvalidPlace : Value} (iLInvalidPlace : K.lookup iInvalidPlace = some ⟨iocInvalidPlace, iodInvalidPlace, .func (PySem.W.fnOf "__init__" "InvalidPlace.__init__" (defArgs sInitInvalidPlace) (defBody sInitInvalidPlace) (defScope sInitInvalidPlace) .none ikVInvalidPlace idcInvalidPlace ipmInvalidPlace ianInvalidPlace icdInvalidPlace ictInvalidPlace), islInvalidPlace⟩) (iDInvalidPlace : PySem.W.codeIn K icdInvalidPlace "InvalidPlace.__init__" = true) (iKInvalidPlace : PySem.W.keepIn K (.ref iInvalidPlace) = true)
    (suInvalidPlaceInvalidPattern : PySem.W.subIn K (.ref cInvalidPlace) (.ref cInvalidPattern) = some false)
    (suInvalidPatternInvalidText : PySem.W.subIn K (.ref cInvalidPattern) (.ref cInvalidText) = some false)
    (icInvalidText : PySem.W.isClsIn K cInvalidText = true)
    (itInvalidText : PySem.W.typeIn K (.ref cInvalidText) = some (.type "type"))
    (suInvalidPatternInvalidPlace : PySem.W.subIn K (.ref cInvalidPattern) (.ref cInvalidPlace) = some false)
    (icInvalidPlace : PySem.W.isClsIn K cInvalidPlace = true)
    (itInvalidPlace : PySem.W.typeIn K (.ref cInvalidPlace) = some (.type "type"))
    (suInvalidPatternValueError : PySem.W.subIn K (.ref cInvalidPattern) (.type "ValueError") = some true)
    (suInvalidPlaceValueError : PySem.W.subIn K (.ref cInvalidPlace) (.type "ValueError") = some true)
    (suInvalidPlaceInvalidText : PySem.W.subIn K (.ref cInvalidPlace) (.ref cInvalidText) = some false)
    (icInvalidPattern : PySem.W.isClsIn K cInvalidPattern = true)
    (itInvalidPattern : PySem.W.typeIn K (.ref cInvalidPattern) = some (.type "type"))
    {od0 an0 : Option Addr} {sl0 : Array (Option Value)} {oc0 kV0 dc0 pm0 cd0 ct0 : Value} {f0 : Addr}
    (a0 : PySem.W.nsIn K mainGlobals "is_pattern" = some (some (.ref f0))) (l0 : K.lookup f0 = some ⟨oc0, od0, .func (PySem.W.fnOf "is_pattern" "is_pattern" (defArgs sIsPattern) (defBody sIsPattern) (defScope sIsPattern) .none kV0 dc0 pm0 an0 cd0 ct0), sl0⟩) (c0 : PySem.W.codeIn K cd0 "is_pattern" = true) (k0 : PySem.W.keepIn K (.ref f0) = true)
    {od1 an1 : Option Addr} {sl1 : Array (Option Value)} {oc1 kV1 dc1 pm1 cd1 ct1 : Value} {f1 : Addr}
    (a1 : PySem.W.nsIn K mainGlobals "is_plain_integer" = some (some (.ref f1))) (l1 : K.lookup f1 = some ⟨oc1, od1, .func (PySem.W.fnOf "is_plain_integer" "is_plain_integer" (defArgs sIsPlainInteger) (defBody sIsPlainInteger) (defScope sIsPlainInteger) .none kV1 dc1 pm1 an1 cd1 ct1), sl1⟩) (c1 : PySem.W.codeIn K cd1 "is_plain_integer" = true) (k1 : PySem.W.keepIn K (.ref f1) = true)
    {od2 an2 : Option Addr} {sl2 : Array (Option Value)} {oc2 kV2 dc2 pm2 cd2 ct2 : Value} {f2 : Addr}
    (a2 : PySem.W.nsIn K mainGlobals "is_letter" = some (some (.ref f2))) (l2 : K.lookup f2 = some ⟨oc2, od2, .func (PySem.W.fnOf "is_letter" "is_letter" (defArgs sIsLetter) (defBody sIsLetter) (defScope sIsLetter) .none kV2 dc2 pm2 an2 cd2 ct2), sl2⟩) (c2 : PySem.W.codeIn K cd2 "is_letter" = true) (k2 : PySem.W.keepIn K (.ref f2) = true)
    {od3 an3 : Option Addr} {sl3 : Array (Option Value)} {oc3 kV3 dc3 pm3 cd3 ct3 : Value} {f3 : Addr}
    (a3 : PySem.W.nsIn K mainGlobals "is_text" = some (some (.ref f3))) (l3 : K.lookup f3 = some ⟨oc3, od3, .func (PySem.W.fnOf "is_text" "is_text" (defArgs sIsText) (defBody sIsText) (defScope sIsText) .none kV3 dc3 pm3 an3 cd3 ct3), sl3⟩) (c3 : PySem.W.codeIn K cd3 "is_text" = true) (k3 : PySem.W.keepIn K (.ref f3) = true)
    {od4 an4 : Option Addr} {sl4 : Array (Option Value)} {oc4 kV4 dc4 pm4 cd4 ct4 : Value} {f4 : Addr}
    (a4 : PySem.W.nsIn K mainGlobals "is_variable_set" = some (some (.ref f4))) (l4 : K.lookup f4 = some ⟨oc4, od4, .func (PySem.W.fnOf "is_variable_set" "is_variable_set" (defArgs sIsVariableSet) (defBody sIsVariableSet) (defScope sIsVariableSet) .none kV4 dc4 pm4 an4 cd4 ct4), sl4⟩) (c4 : PySem.W.codeIn K cd4 "is_variable_set" = true) (k4 : PySem.W.keepIn K (.ref f4) = true)
    {od5 an5 : Option Addr} {sl5 : Array (Option Value)} {oc5 kV5 dc5 pm5 cd5 ct5 : Value} {f5 : Addr}
    (a5 : PySem.W.nsIn K mainGlobals "are_values" = some (some (.ref f5))) (l5 : K.lookup f5 = some ⟨oc5, od5, .func (PySem.W.fnOf "are_values" "are_values" (defArgs sAreValues) (defBody sAreValues) (defScope sAreValues) .none kV5 dc5 pm5 an5 cd5 ct5), sl5⟩) (c5 : PySem.W.codeIn K cd5 "are_values" = true) (k5 : PySem.W.keepIn K (.ref f5) = true)
    {od6 an6 : Option Addr} {sl6 : Array (Option Value)} {oc6 kV6 dc6 pm6 cd6 ct6 : Value} {f6 : Addr}
    (a6 : PySem.W.nsIn K mainGlobals "check_pattern" = some (some (.ref f6))) (l6 : K.lookup f6 = some ⟨oc6, od6, .func (PySem.W.fnOf "check_pattern" "check_pattern" (defArgs sCheckPattern) (defBody sCheckPattern) (defScope sCheckPattern) .none kV6 dc6 pm6 an6 cd6 ct6), sl6⟩) (c6 : PySem.W.codeIn K cd6 "check_pattern" = true) (k6 : PySem.W.keepIn K (.ref f6) = true)
    {od7 an7 : Option Addr} {sl7 : Array (Option Value)} {oc7 kV7 dc7 pm7 cd7 ct7 : Value} {f7 : Addr}
    (a7 : PySem.W.nsIn K mainGlobals "check_filled_pattern" = some (some (.ref f7))) (l7 : K.lookup f7 = some ⟨oc7, od7, .func (PySem.W.fnOf "check_filled_pattern" "check_filled_pattern" (defArgs sCheckFilledPattern) (defBody sCheckFilledPattern) (defScope sCheckFilledPattern) .none kV7 dc7 pm7 an7 cd7 ct7), sl7⟩) (c7 : PySem.W.codeIn K cd7 "check_filled_pattern" = true) (k7 : PySem.W.keepIn K (.ref f7) = true)
    {od8 an8 : Option Addr} {sl8 : Array (Option Value)} {oc8 kV8 dc8 pm8 cd8 ct8 : Value} {f8 : Addr}
    (a8 : PySem.W.nsIn K mainGlobals "check_variable_set" = some (some (.ref f8))) (l8 : K.lookup f8 = some ⟨oc8, od8, .func (PySem.W.fnOf "check_variable_set" "check_variable_set" (defArgs sCheckVariableSet) (defBody sCheckVariableSet) (defScope sCheckVariableSet) .none kV8 dc8 pm8 an8 cd8 ct8), sl8⟩) (c8 : PySem.W.codeIn K cd8 "check_variable_set" = true) (k8 : PySem.W.keepIn K (.ref f8) = true)
    {od9 an9 : Option Addr} {sl9 : Array (Option Value)} {oc9 kV9 dc9 pm9 cd9 ct9 : Value} {f9 : Addr}
    (a9 : PySem.W.nsIn K mainGlobals "check_count" = some (some (.ref f9))) (l9 : K.lookup f9 = some ⟨oc9, od9, .func (PySem.W.fnOf "check_count" "check_count" (defArgs sCheckCount) (defBody sCheckCount) (defScope sCheckCount) .none kV9 dc9 pm9 an9 cd9 ct9), sl9⟩) (c9 : PySem.W.codeIn K cd9 "check_count" = true) (k9 : PySem.W.keepIn K (.ref f9) = true)
    {od10 an10 : Option Addr} {sl10 : Array (Option Value)} {oc10 kV10 dc10 pm10 cd10 ct10 : Value} {f10 : Addr}
    (a10 : PySem.W.nsIn K mainGlobals "variables" = some (some (.ref f10))) (l10 : K.lookup f10 = some ⟨oc10, od10, .func (PySem.W.fnOf "variables" "variables" (defArgs sVariables) (defBody sVariables) (defScope sVariables) .none kV10 dc10 pm10 an10 cd10 ct10), sl10⟩) (c10 : PySem.W.codeIn K cd10 "variables" = true) (k10 : PySem.W.keepIn K (.ref f10) = true)
    {od11 an11 : Option Addr} {sl11 : Array (Option Value)} {oc11 kV11 dc11 pm11 cd11 ct11 : Value} {f11 : Addr}
    (a11 : PySem.W.nsIn K mainGlobals "delete" = some (some (.ref f11))) (l11 : K.lookup f11 = some ⟨oc11, od11, .func (PySem.W.fnOf "delete" "delete" (defArgs sDelete) (defBody sDelete) (defScope sDelete) .none kV11 dc11 pm11 an11 cd11 ct11), sl11⟩) (c11 : PySem.W.codeIn K cd11 "delete" = true) (k11 : PySem.W.keepIn K (.ref f11) = true)
    {od12 an12 : Option Addr} {sl12 : Array (Option Value)} {oc12 kV12 dc12 pm12 cd12 ct12 : Value} {f12 : Addr}
    (a12 : PySem.W.nsIn K mainGlobals "substitute" = some (some (.ref f12))) (l12 : K.lookup f12 = some ⟨oc12, od12, .func (PySem.W.fnOf "substitute" "substitute" (defArgs sSubstitute) (defBody sSubstitute) (defScope sSubstitute) .none kV12 dc12 pm12 an12 cd12 ct12), sl12⟩) (c12 : PySem.W.codeIn K cd12 "substitute" = true) (k12 : PySem.W.keepIn K (.ref f12) = true)
    {od13 an13 : Option Addr} {sl13 : Array (Option Value)} {oc13 kV13 dc13 pm13 cd13 ct13 : Value} {f13 : Addr}
    (a13 : PySem.W.nsIn K mainGlobals "is_prime" = some (some (.ref f13))) (l13 : K.lookup f13 = some ⟨oc13, od13, .func (PySem.W.fnOf "is_prime" "is_prime" (defArgs sIsPrime) (defBody sIsPrime) (defScope sIsPrime) .none kV13 dc13 pm13 an13 cd13 ct13), sl13⟩) (c13 : PySem.W.codeIn K cd13 "is_prime" = true) (k13 : PySem.W.keepIn K (.ref f13) = true)
    {od14 an14 : Option Addr} {sl14 : Array (Option Value)} {oc14 kV14 dc14 pm14 cd14 ct14 : Value} {f14 : Addr}
    (a14 : PySem.W.nsIn K mainGlobals "modulus" = some (some (.ref f14))) (l14 : K.lookup f14 = some ⟨oc14, od14, .func (PySem.W.fnOf "modulus" "modulus" (defArgs sModulus) (defBody sModulus) (defScope sModulus) .none kV14 dc14 pm14 an14 cd14 ct14), sl14⟩) (c14 : PySem.W.codeIn K cd14 "modulus" = true) (k14 : PySem.W.keepIn K (.ref f14) = true)
    {od15 an15 : Option Addr} {sl15 : Array (Option Value)} {oc15 kV15 dc15 pm15 cd15 ct15 : Value} {f15 : Addr}
    (a15 : PySem.W.nsIn K mainGlobals "letter_within" = some (some (.ref f15))) (l15 : K.lookup f15 = some ⟨oc15, od15, .func (PySem.W.fnOf "letter_within" "letter_within" (defArgs sLetterWithin) (defBody sLetterWithin) (defScope sLetterWithin) .none kV15 dc15 pm15 an15 cd15 ct15), sl15⟩) (c15 : PySem.W.codeIn K cd15 "letter_within" = true) (k15 : PySem.W.keepIn K (.ref f15) = true)
    {od16 an16 : Option Addr} {sl16 : Array (Option Value)} {oc16 kV16 dc16 pm16 cd16 ct16 : Value} {f16 : Addr}
    (a16 : PySem.W.nsIn K mainGlobals "stretch" = some (some (.ref f16))) (l16 : K.lookup f16 = some ⟨oc16, od16, .func (PySem.W.fnOf "stretch" "stretch" (defArgs sStretch) (defBody sStretch) (defScope sStretch) .none kV16 dc16 pm16 an16 cd16 ct16), sl16⟩) (c16 : PySem.W.codeIn K cd16 "stretch" = true) (k16 : PySem.W.keepIn K (.ref f16) = true)
    {od17 an17 : Option Addr} {sl17 : Array (Option Value)} {oc17 dc17 pm17 cd17 ct17 : Value} {f17 kD17 : Addr} {kT17 : Tok}
    (a17 : PySem.W.nsIn K mainGlobals "avoiding_text" = some (some (.ref f17))) (l17 : K.lookup f17 = some ⟨oc17, od17, .func (PySem.W.fnOf "avoiding_text" "avoiding_text" (defArgs sAvoidingText) (defBody sAvoidingText) (defScope sAvoidingText) .none (.ref kD17) dc17 pm17 an17 cd17 ct17), sl17⟩) (c17 : PySem.W.codeIn K cd17 "avoiding_text" = true) (k17 : PySem.W.keepIn K (.ref f17) = true) (w17 : PySem.W.nsIn K kD17 "start" = some (some (.int 0 kT17)))
    {od18 an18 : Option Addr} {sl18 : Array (Option Value)} {oc18 kV18 dc18 pm18 cd18 ct18 : Value} {f18 : Addr}
    (a18 : PySem.W.nsIn K mainGlobals "letter_of" = some (some (.ref f18))) (l18 : K.lookup f18 = some ⟨oc18, od18, .func (PySem.W.fnOf "letter_of" "letter_of" (defArgs sLetterOf) (defBody sLetterOf) (defScope sLetterOf) .none kV18 dc18 pm18 an18 cd18 ct18), sl18⟩) (c18 : PySem.W.codeIn K cd18 "letter_of" = true) (k18 : PySem.W.keepIn K (.ref f18) = true)
    {od19 an19 : Option Addr} {sl19 : Array (Option Value)} {oc19 kV19 dc19 pm19 cd19 ct19 : Value} {f19 : Addr}
    (a19 : PySem.W.nsIn K mainGlobals "is_avoiding_place" = some (some (.ref f19))) (l19 : K.lookup f19 = some ⟨oc19, od19, .func (PySem.W.fnOf "is_avoiding_place" "is_avoiding_place" (defArgs sIsAvoidingPlace) (defBody sIsAvoidingPlace) (defScope sIsAvoidingPlace) .none kV19 dc19 pm19 an19 cd19 ct19), sl19⟩) (c19 : PySem.W.codeIn K cd19 "is_avoiding_place" = true) (k19 : PySem.W.keepIn K (.ref f19) = true)
    {od20 an20 : Option Addr} {sl20 : Array (Option Value)} {oc20 kV20 dc20 pm20 cd20 ct20 : Value} {f20 : Addr}
    (a20 : PySem.W.nsIn K mainGlobals "check_avoiding_place" = some (some (.ref f20))) (l20 : K.lookup f20 = some ⟨oc20, od20, .func (PySem.W.fnOf "check_avoiding_place" "check_avoiding_place" (defArgs sCheckAvoidingPlace) (defBody sCheckAvoidingPlace) (defScope sCheckAvoidingPlace) .none kV20 dc20 pm20 an20 cd20 ct20), sl20⟩) (c20 : PySem.W.codeIn K cd20 "check_avoiding_place" = true) (k20 : PySem.W.keepIn K (.ref f20) = true)
    {od21 an21 : Option Addr} {sl21 : Array (Option Value)} {oc21 kV21 dc21 pm21 cd21 ct21 : Value} {f21 : Addr}
    (a21 : PySem.W.nsIn K mainGlobals "descend" = some (some (.ref f21))) (l21 : K.lookup f21 = some ⟨oc21, od21, .func (PySem.W.fnOf "descend" "descend" (defArgs sDescend) (defBody sDescend) (defScope sDescend) .none kV21 dc21 pm21 an21 cd21 ct21), sl21⟩) (c21 : PySem.W.codeIn K cd21 "descend" = true) (k21 : PySem.W.keepIn K (.ref f21) = true)
    {od22 an22 : Option Addr} {sl22 : Array (Option Value)} {oc22 kV22 dc22 pm22 cd22 ct22 : Value} {f22 : Addr}
    (a22 : PySem.W.nsIn K mainGlobals "descend_once" = some (some (.ref f22))) (l22 : K.lookup f22 = some ⟨oc22, od22, .func (PySem.W.fnOf "descend_once" "descend_once" (defArgs sDescendOnce) (defBody sDescendOnce) (defScope sDescendOnce) .none kV22 dc22 pm22 an22 cd22 ct22), sl22⟩) (c22 : PySem.W.codeIn K cd22 "descend_once" = true) (k22 : PySem.W.keepIn K (.ref f22) = true)
    {od23 an23 : Option Addr} {sl23 : Array (Option Value)} {oc23 kV23 dc23 pm23 cd23 ct23 : Value} {f23 : Addr}
    (a23 : PySem.W.nsIn K mainGlobals "value_starts" = some (some (.ref f23))) (l23 : K.lookup f23 = some ⟨oc23, od23, .func (PySem.W.fnOf "value_starts" "value_starts" (defArgs sValueStarts) (defBody sValueStarts) (defScope sValueStarts) .none kV23 dc23 pm23 an23 cd23 ct23), sl23⟩) (c23 : PySem.W.codeIn K cd23 "value_starts" = true) (k23 : PySem.W.keepIn K (.ref f23) = true)
    {od24 an24 : Option Addr} {sl24 : Array (Option Value)} {oc24 kV24 dc24 pm24 cd24 ct24 : Value} {f24 : Addr}
    (a24 : PySem.W.nsIn K mainGlobals "uncut_index" = some (some (.ref f24))) (l24 : K.lookup f24 = some ⟨oc24, od24, .func (PySem.W.fnOf "uncut_index" "uncut_index" (defArgs sUncutIndex) (defBody sUncutIndex) (defScope sUncutIndex) .none kV24 dc24 pm24 an24 cd24 ct24), sl24⟩) (c24 : PySem.W.codeIn K cd24 "uncut_index" = true) (k24 : PySem.W.keepIn K (.ref f24) = true)
    {od25 an25 : Option Addr} {sl25 : Array (Option Value)} {oc25 kV25 dc25 pm25 cd25 ct25 : Value} {f25 : Addr}
    (a25 : PySem.W.nsIn K mainGlobals "parents" = some (some (.ref f25))) (l25 : K.lookup f25 = some ⟨oc25, od25, .func (PySem.W.fnOf "parents" "parents" (defArgs sParents) (defBody sParents) (defScope sParents) .none kV25 dc25 pm25 an25 cd25 ct25), sl25⟩) (c25 : PySem.W.codeIn K cd25 "parents" = true) (k25 : PySem.W.keepIn K (.ref f25) = true)
    {od26 an26 : Option Addr} {sl26 : Array (Option Value)} {oc26 kV26 dc26 pm26 cd26 ct26 : Value} {f26 : Addr}
    (a26 : PySem.W.nsIn K mainGlobals "free_steps" = some (some (.ref f26))) (l26 : K.lookup f26 = some ⟨oc26, od26, .func (PySem.W.fnOf "free_steps" "free_steps" (defArgs sFreeSteps) (defBody sFreeSteps) (defScope sFreeSteps) .none kV26 dc26 pm26 an26 cd26 ct26), sl26⟩) (c26 : PySem.W.codeIn K cd26 "free_steps" = true) (k26 : PySem.W.keepIn K (.ref f26) = true)
    {od27 an27 : Option Addr} {sl27 : Array (Option Value)} {oc27 kV27 dc27 pm27 cd27 ct27 : Value} {f27 : Addr}
    (a27 : PySem.W.nsIn K mainGlobals "_law_pen" = some (some (.ref f27))) (l27 : K.lookup f27 = some ⟨oc27, od27, .func (PySem.W.fnOf "_law_pen" "_law_pen" (defArgs sLPen) (defBody sLPen) (defScope sLPen) .none kV27 dc27 pm27 an27 cd27 ct27), sl27⟩) (c27 : PySem.W.codeIn K cd27 "_law_pen" = true) (k27 : PySem.W.keepIn K (.ref f27) = true)
    {od28 an28 : Option Addr} {sl28 : Array (Option Value)} {oc28 kV28 dc28 pm28 cd28 ct28 : Value} {f28 : Addr}
    (a28 : PySem.W.nsIn K mainGlobals "_law_draw" = some (some (.ref f28))) (l28 : K.lookup f28 = some ⟨oc28, od28, .func (PySem.W.fnOf "_law_draw" "_law_draw" (defArgs sLDraw) (defBody sLDraw) (defScope sLDraw) .none kV28 dc28 pm28 an28 cd28 ct28), sl28⟩) (c28 : PySem.W.codeIn K cd28 "_law_draw" = true) (k28 : PySem.W.keepIn K (.ref f28) = true)
    {od29 an29 : Option Addr} {sl29 : Array (Option Value)} {oc29 kV29 dc29 pm29 cd29 ct29 : Value} {f29 : Addr}
    (a29 : PySem.W.nsIn K mainGlobals "_law_pick" = some (some (.ref f29))) (l29 : K.lookup f29 = some ⟨oc29, od29, .func (PySem.W.fnOf "_law_pick" "_law_pick" (defArgs sLPick) (defBody sLPick) (defScope sLPick) .none kV29 dc29 pm29 an29 cd29 ct29), sl29⟩) (c29 : PySem.W.codeIn K cd29 "_law_pick" = true) (k29 : PySem.W.keepIn K (.ref f29) = true)
    {od30 an30 : Option Addr} {sl30 : Array (Option Value)} {oc30 kV30 dc30 pm30 cd30 ct30 : Value} {f30 : Addr}
    (a30 : PySem.W.nsIn K mainGlobals "_law_shuffled" = some (some (.ref f30))) (l30 : K.lookup f30 = some ⟨oc30, od30, .func (PySem.W.fnOf "_law_shuffled" "_law_shuffled" (defArgs sLShuffled) (defBody sLShuffled) (defScope sLShuffled) .none kV30 dc30 pm30 an30 cd30 ct30), sl30⟩) (c30 : PySem.W.codeIn K cd30 "_law_shuffled" = true) (k30 : PySem.W.keepIn K (.ref f30) = true)
    {od31 an31 : Option Addr} {sl31 : Array (Option Value)} {oc31 kV31 dc31 pm31 cd31 ct31 : Value} {f31 : Addr}
    (a31 : PySem.W.nsIn K mainGlobals "_law_far" = some (some (.ref f31))) (l31 : K.lookup f31 = some ⟨oc31, od31, .func (PySem.W.fnOf "_law_far" "_law_far" (defArgs sLFar) (defBody sLFar) (defScope sLFar) .none kV31 dc31 pm31 an31 cd31 ct31), sl31⟩) (c31 : PySem.W.codeIn K cd31 "_law_far" = true) (k31 : PySem.W.keepIn K (.ref f31) = true)
    {od32 an32 : Option Addr} {sl32 : Array (Option Value)} {oc32 kV32 dc32 pm32 cd32 ct32 : Value} {f32 : Addr}
    (a32 : PySem.W.nsIn K mainGlobals "_law_q" = some (some (.ref f32))) (l32 : K.lookup f32 = some ⟨oc32, od32, .func (PySem.W.fnOf "_law_q" "_law_q" (defArgs sLQ) (defBody sLQ) (defScope sLQ) .none kV32 dc32 pm32 an32 cd32 ct32), sl32⟩) (c32 : PySem.W.codeIn K cd32 "_law_q" = true) (k32 : PySem.W.keepIn K (.ref f32) = true)
    {od33 an33 : Option Addr} {sl33 : Array (Option Value)} {oc33 kV33 dc33 pm33 cd33 ct33 : Value} {f33 : Addr}
    (a33 : PySem.W.nsIn K mainGlobals "_law_block" = some (some (.ref f33))) (l33 : K.lookup f33 = some ⟨oc33, od33, .func (PySem.W.fnOf "_law_block" "_law_block" (defArgs sLBlock) (defBody sLBlock) (defScope sLBlock) .none kV33 dc33 pm33 an33 cd33 ct33), sl33⟩) (c33 : PySem.W.codeIn K cd33 "_law_block" = true) (k33 : PySem.W.keepIn K (.ref f33) = true)
    {od34 an34 : Option Addr} {sl34 : Array (Option Value)} {oc34 kV34 dc34 pm34 cd34 ct34 : Value} {f34 : Addr}
    (a34 : PySem.W.nsIn K mainGlobals "_law_letter" = some (some (.ref f34))) (l34 : K.lookup f34 = some ⟨oc34, od34, .func (PySem.W.fnOf "_law_letter" "_law_letter" (defArgs sLLetter) (defBody sLLetter) (defScope sLLetter) .none kV34 dc34 pm34 an34 cd34 ct34), sl34⟩) (c34 : PySem.W.codeIn K cd34 "_law_letter" = true) (k34 : PySem.W.keepIn K (.ref f34) = true)
    {od35 an35 : Option Addr} {sl35 : Array (Option Value)} {oc35 kV35 dc35 pm35 cd35 ct35 : Value} {f35 : Addr}
    (a35 : PySem.W.nsIn K mainGlobals "_law_text" = some (some (.ref f35))) (l35 : K.lookup f35 = some ⟨oc35, od35, .func (PySem.W.fnOf "_law_text" "_law_text" (defArgs sLText) (defBody sLText) (defScope sLText) .none kV35 dc35 pm35 an35 cd35 ct35), sl35⟩) (c35 : PySem.W.codeIn K cd35 "_law_text" = true) (k35 : PySem.W.keepIn K (.ref f35) = true)
    {od36 an36 : Option Addr} {sl36 : Array (Option Value)} {oc36 kV36 dc36 pm36 cd36 ct36 : Value} {f36 : Addr}
    (a36 : PySem.W.nsIn K mainGlobals "_law_placed" = some (some (.ref f36))) (l36 : K.lookup f36 = some ⟨oc36, od36, .func (PySem.W.fnOf "_law_placed" "_law_placed" (defArgs sLPlaced) (defBody sLPlaced) (defScope sLPlaced) .none kV36 dc36 pm36 an36 cd36 ct36), sl36⟩) (c36 : PySem.W.codeIn K cd36 "_law_placed" = true) (k36 : PySem.W.keepIn K (.ref f36) = true)
    {od37 an37 : Option Addr} {sl37 : Array (Option Value)} {oc37 kV37 dc37 pm37 cd37 ct37 : Value} {f37 : Addr}
    (a37 : PySem.W.nsIn K mainGlobals "_law_is_number" = some (some (.ref f37))) (l37 : K.lookup f37 = some ⟨oc37, od37, .func (PySem.W.fnOf "_law_is_number" "_law_is_number" (defArgs sLIsNumber) (defBody sLIsNumber) (defScope sLIsNumber) .none kV37 dc37 pm37 an37 cd37 ct37), sl37⟩) (c37 : PySem.W.codeIn K cd37 "_law_is_number" = true) (k37 : PySem.W.keepIn K (.ref f37) = true)
    {od38 an38 : Option Addr} {sl38 : Array (Option Value)} {oc38 kV38 dc38 pm38 cd38 ct38 : Value} {f38 : Addr}
    (a38 : PySem.W.nsIn K mainGlobals "_law_filled" = some (some (.ref f38))) (l38 : K.lookup f38 = some ⟨oc38, od38, .func (PySem.W.fnOf "_law_filled" "_law_filled" (defArgs sLFilled) (defBody sLFilled) (defScope sLFilled) .none kV38 dc38 pm38 an38 cd38 ct38), sl38⟩) (c38 : PySem.W.codeIn K cd38 "_law_filled" = true) (k38 : PySem.W.keepIn K (.ref f38) = true)
    {od39 an39 : Option Addr} {sl39 : Array (Option Value)} {oc39 kV39 dc39 pm39 cd39 ct39 : Value} {f39 : Addr}
    (a39 : PySem.W.nsIn K mainGlobals "_law_components" = some (some (.ref f39))) (l39 : K.lookup f39 = some ⟨oc39, od39, .func (PySem.W.fnOf "_law_components" "_law_components" (defArgs sLComponents) (defBody sLComponents) (defScope sLComponents) .none kV39 dc39 pm39 an39 cd39 ct39), sl39⟩) (c39 : PySem.W.codeIn K cd39 "_law_components" = true) (k39 : PySem.W.keepIn K (.ref f39) = true)
    {od40 an40 : Option Addr} {sl40 : Array (Option Value)} {oc40 kV40 dc40 pm40 cd40 ct40 : Value} {f40 : Addr}
    (a40 : PySem.W.nsIn K mainGlobals "_law_is_free" = some (some (.ref f40))) (l40 : K.lookup f40 = some ⟨oc40, od40, .func (PySem.W.fnOf "_law_is_free" "_law_is_free" (defArgs sLIsFree) (defBody sLIsFree) (defScope sLIsFree) .none kV40 dc40 pm40 an40 cd40 ct40), sl40⟩) (c40 : PySem.W.codeIn K cd40 "_law_is_free" = true) (k40 : PySem.W.keepIn K (.ref f40) = true)
    {od41 an41 : Option Addr} {sl41 : Array (Option Value)} {oc41 kV41 dc41 pm41 cd41 ct41 : Value} {f41 : Addr}
    (a41 : PySem.W.nsIn K mainGlobals "_law_without" = some (some (.ref f41))) (l41 : K.lookup f41 = some ⟨oc41, od41, .func (PySem.W.fnOf "_law_without" "_law_without" (defArgs sLWithout) (defBody sLWithout) (defScope sLWithout) .none kV41 dc41 pm41 an41 cd41 ct41), sl41⟩) (c41 : PySem.W.codeIn K cd41 "_law_without" = true) (k41 : PySem.W.keepIn K (.ref f41) = true)
    {od42 an42 : Option Addr} {sl42 : Array (Option Value)} {oc42 kV42 dc42 pm42 cd42 ct42 : Value} {f42 : Addr}
    (a42 : PySem.W.nsIn K mainGlobals "_law_behind_steps" = some (some (.ref f42))) (l42 : K.lookup f42 = some ⟨oc42, od42, .func (PySem.W.fnOf "_law_behind_steps" "_law_behind_steps" (defArgs sLBehindSteps) (defBody sLBehindSteps) (defScope sLBehindSteps) .none kV42 dc42 pm42 an42 cd42 ct42), sl42⟩) (c42 : PySem.W.codeIn K cd42 "_law_behind_steps" = true) (k42 : PySem.W.keepIn K (.ref f42) = true)
    {od43 an43 : Option Addr} {sl43 : Array (Option Value)} {oc43 kV43 dc43 pm43 cd43 ct43 : Value} {f43 : Addr}
    (a43 : PySem.W.nsIn K mainGlobals "_law_first_order" = some (some (.ref f43))) (l43 : K.lookup f43 = some ⟨oc43, od43, .func (PySem.W.fnOf "_law_first_order" "_law_first_order" (defArgs sLFirstOrder) (defBody sLFirstOrder) (defScope sLFirstOrder) .none kV43 dc43 pm43 an43 cd43 ct43), sl43⟩) (c43 : PySem.W.codeIn K cd43 "_law_first_order" = true) (k43 : PySem.W.keepIn K (.ref f43) = true)
    {od44 an44 : Option Addr} {sl44 : Array (Option Value)} {oc44 kV44 dc44 pm44 cd44 ct44 : Value} {f44 : Addr}
    (a44 : PySem.W.nsIn K mainGlobals "_law_told" = some (some (.ref f44))) (l44 : K.lookup f44 = some ⟨oc44, od44, .func (PySem.W.fnOf "_law_told" "_law_told" (defArgs sLTold) (defBody sLTold) (defScope sLTold) .none kV44 dc44 pm44 an44 cd44 ct44), sl44⟩) (c44 : PySem.W.codeIn K cd44 "_law_told" = true) (k44 : PySem.W.keepIn K (.ref f44) = true)
    {od45 an45 : Option Addr} {sl45 : Array (Option Value)} {oc45 kV45 dc45 pm45 cd45 ct45 : Value} {f45 : Addr}
    (a45 : PySem.W.nsIn K mainGlobals "_law_descent_right" = some (some (.ref f45))) (l45 : K.lookup f45 = some ⟨oc45, od45, .func (PySem.W.fnOf "_law_descent_right" "_law_descent_right" (defArgs sLDescentRight) (defBody sLDescentRight) (defScope sLDescentRight) .none kV45 dc45 pm45 an45 cd45 ct45), sl45⟩) (c45 : PySem.W.codeIn K cd45 "_law_descent_right" = true) (k45 : PySem.W.keepIn K (.ref f45) = true)
    {od46 an46 : Option Addr} {sl46 : Array (Option Value)} {oc46 kV46 dc46 pm46 cd46 ct46 : Value} {f46 : Addr}
    (a46 : PySem.W.nsIn K mainGlobals "_law_repeated" = some (some (.ref f46))) (l46 : K.lookup f46 = some ⟨oc46, od46, .func (PySem.W.fnOf "_law_repeated" "_law_repeated" (defArgs sLRepeated) (defBody sLRepeated) (defScope sLRepeated) .none kV46 dc46 pm46 an46 cd46 ct46), sl46⟩) (c46 : PySem.W.codeIn K cd46 "_law_repeated" = true) (k46 : PySem.W.keepIn K (.ref f46) = true)
    {od47 an47 : Option Addr} {sl47 : Array (Option Value)} {oc47 kV47 dc47 pm47 cd47 ct47 : Value} {f47 : Addr}
    (a47 : PySem.W.nsIn K mainGlobals "_law_edge" = some (some (.ref f47))) (l47 : K.lookup f47 = some ⟨oc47, od47, .func (PySem.W.fnOf "_law_edge" "_law_edge" (defArgs sLEdge) (defBody sLEdge) (defScope sLEdge) .none kV47 dc47 pm47 an47 cd47 ct47), sl47⟩) (c47 : PySem.W.codeIn K cd47 "_law_edge" = true) (k47 : PySem.W.keepIn K (.ref f47) = true)
    {cdLaw pdLaw : Addr}
    {od48 an48 : Option Addr} {sl48 : Array (Option Value)} {oc48 kV48 dc48 pm48 ct48 : Value} {f48 : Addr}
    (a48 : PySem.W.nsIn K mainGlobals "law" = some (some (.ref f48))) (l48 : K.lookup f48 = some ⟨oc48, od48, .func (PySem.W.fnOf "law" "law" (defArgs sLaw) (defBody sLaw) (defScope sLaw) .none kV48 dc48 pm48 an48 (.ref cdLaw) ct48), sl48⟩) (c48 : PySem.W.codeIn K (.ref cdLaw) "law" = true) (k48 : PySem.W.keepIn K (.ref f48) = true)
    {ecLaw : Value} {dcLaw : Option Addr} {vcLaw : Array Value} {scLaw : Array (Option Value)} (lcLaw : K.lookup cdLaw = some ⟨ecLaw, dcLaw, .fields vcLaw, scLaw⟩) (lpLaw : vcLaw[11]? = some (.ref pdLaw)) (hdLaw : ∀ K' : PySem.W.Frag, K'.lookup cdLaw = some ⟨ecLaw, dcLaw, .fields vcLaw, scLaw⟩ → PySem.W.codeHdIn K' cdLaw pdLaw = true) (npLaw : K.lookup pdLaw = none)
    {t_VARIABLES : Tok} (z_VARIABLES : PySem.W.nsIn K mainGlobals "VARIABLES" = some (some (.str "abcdefghijklmnopqrstuvwxyz" t_VARIABLES)))
    {t_LONGEST_PATTERN : Tok} (z_LONGEST_PATTERN : PySem.W.nsIn K mainGlobals "LONGEST_PATTERN" = some (some (.int 40 t_LONGEST_PATTERN)))
    {t_MOST_VARIABLES : Tok} (z_MOST_VARIABLES : PySem.W.nsIn K mainGlobals "MOST_VARIABLES" = some (some (.int 8 t_MOST_VARIABLES)))
    {t_LONGEST_TEXT : Tok} (z_LONGEST_TEXT : PySem.W.nsIn K mainGlobals "LONGEST_TEXT" = some (some (.int 4096 t_LONGEST_TEXT)))
    {t_GREATEST_LETTER : Tok} (z_GREATEST_LETTER : PySem.W.nsIn K mainGlobals "GREATEST_LETTER" = some (some (.int 999999 t_GREATEST_LETTER)))
    {t_GREATEST_START : Tok} (z_GREATEST_START : PySem.W.nsIn K mainGlobals "GREATEST_START" = some (some (.int 1000000000000000000 t_GREATEST_START)))
    (z_all : PySem.W.nsIn K mainGlobals "all" = some none)
    (z_len : PySem.W.nsIn K mainGlobals "len" = some none)
    (z_set : PySem.W.nsIn K mainGlobals "set" = some none)
    (z_isinstance : PySem.W.nsIn K mainGlobals "isinstance" = some none)
    (z_str : PySem.W.nsIn K mainGlobals "str" = some none)
    (z_bool : PySem.W.nsIn K mainGlobals "bool" = some none)
    (z_int : PySem.W.nsIn K mainGlobals "int" = some none)
    (z_tuple : PySem.W.nsIn K mainGlobals "tuple" = some none)
    (z_dict : PySem.W.nsIn K mainGlobals "dict" = some none)
    (z_enumerate : PySem.W.nsIn K mainGlobals "enumerate" = some none)
    (z_sum : PySem.W.nsIn K mainGlobals "sum" = some none)
    (z_range : PySem.W.nsIn K mainGlobals "range" = some none)
    (z_sorted : PySem.W.nsIn K mainGlobals "sorted" = some none)
    (z_list : PySem.W.nsIn K mainGlobals "list" = some none)
    (z_abs : PySem.W.nsIn K mainGlobals "abs" = some none)
    (z_ValueError : PySem.W.nsIn K mainGlobals "ValueError" = some none)
    (z_repr : PySem.W.nsIn K mainGlobals "repr" = some none)
    (z_min : PySem.W.nsIn K mainGlobals "min" = some none) :
    ∃ T : Txt K mg, T.aLaw = fa ∧ ∀ (s : Shared) (v : Value), BindsTo s T.dLaw ⟨[v], []⟩ [("_law_script", v)] := by
  have e := hfa.symm.trans (PySem.W.mg_of X G a48)
  cases e
  have F0 := fun_mk (st := sIsPattern) l0 c0 k0
  have F1 := fun_mk (st := sIsPlainInteger) l1 c1 k1
  have F2 := fun_mk (st := sIsLetter) l2 c2 k2
  have F3 := fun_mk (st := sIsText) l3 c3 k3
  have F4 := fun_mk (st := sIsVariableSet) l4 c4 k4
  have F5 := fun_mk (st := sAreValues) l5 c5 k5
  have F6 := fun_mk (st := sCheckPattern) l6 c6 k6
  have F7 := fun_mk (st := sCheckFilledPattern) l7 c7 k7
  have F8 := fun_mk (st := sCheckVariableSet) l8 c8 k8
  have F9 := fun_mk (st := sCheckCount) l9 c9 k9
  have F10 := fun_mk (st := sVariables) l10 c10 k10
  have F11 := fun_mk (st := sDelete) l11 c11 k11
  have F12 := fun_mk (st := sSubstitute) l12 c12 k12
  have F13 := fun_mk (st := sIsPrime) l13 c13 k13
  have F14 := fun_mk (st := sModulus) l14 c14 k14
  have F15 := fun_mk (st := sLetterWithin) l15 c15 k15
  have F16 := fun_mk (st := sStretch) l16 c16 k16
  have F17 := fun_mk (st := sAvoidingText) l17 c17 k17
  have Y17 : FunD K "avoiding_text" "avoiding_text" (defArgs sAvoidingText) (defBody sAvoidingText) (defScope sAvoidingText) [] [("start", .int 0)] f17 _ := ⟨⟨_, _, _, _, _, _, _, _, _, _, rfl, l17, c17, .inl ⟨rfl, rfl⟩, .inr ⟨kD17, rfl, fun q hq => by cases List.mem_singleton.mp hq; exact ⟨_, w17, ⟨_, rfl⟩⟩⟩⟩, k17⟩
  obtain ⟨ys17, vs17, zs17⟩ := Y17.binds0 (ps := ["count", "length", "start"]) 2 (fun z => nomatch z) rfl (fun D doc pm an cdv ct us ks hl hk => match us, hl, ks, hk with | [_, _], _, [_], _ => ⟨_, _, _, _, _, _, rfl, rfl, rfl⟩)
  have F18 := fun_mk (st := sLetterOf) l18 c18 k18
  have F19 := fun_mk (st := sIsAvoidingPlace) l19 c19 k19
  have F20 := fun_mk (st := sCheckAvoidingPlace) l20 c20 k20
  have F21 := fun_mk (st := sDescend) l21 c21 k21
  have F22 := fun_mk (st := sDescendOnce) l22 c22 k22
  have F23 := fun_mk (st := sValueStarts) l23 c23 k23
  have F24 := fun_mk (st := sUncutIndex) l24 c24 k24
  have F25 := fun_mk (st := sParents) l25 c25 k25
  have F26 := fun_mk (st := sFreeSteps) l26 c26 k26
  have F27 := fun_mk (st := sLPen) l27 c27 k27
  have F28 := fun_mk (st := sLDraw) l28 c28 k28
  have F29 := fun_mk (st := sLPick) l29 c29 k29
  have F30 := fun_mk (st := sLShuffled) l30 c30 k30
  have F31 := fun_mk (st := sLFar) l31 c31 k31
  have F32 := fun_mk (st := sLQ) l32 c32 k32
  have F33 := fun_mk (st := sLBlock) l33 c33 k33
  have F34 := fun_mk (st := sLLetter) l34 c34 k34
  have F35 := fun_mk (st := sLText) l35 c35 k35
  have F36 := fun_mk (st := sLPlaced) l36 c36 k36
  have F37 := fun_mk (st := sLIsNumber) l37 c37 k37
  have F38 := fun_mk (st := sLFilled) l38 c38 k38
  have F39 := fun_mk (st := sLComponents) l39 c39 k39
  have F40 := fun_mk (st := sLIsFree) l40 c40 k40
  have F41 := fun_mk (st := sLWithout) l41 c41 k41
  have F42 := fun_mk (st := sLBehindSteps) l42 c42 k42
  have F43 := fun_mk (st := sLFirstOrder) l43 c43 k43
  have F44 := fun_mk (st := sLTold) l44 c44 k44
  have F45 := fun_mk (st := sLDescentRight) l45 c45 k45
  have F46 := fun_mk (st := sLRepeated) l46 c46 k46
  have F47 := fun_mk (st := sLEdge) l47 c47 k47
  have F48 := fun_mk (st := sLaw) l48 c48 k48
  have FIInvalidPattern := fun_mk (st := sInitInvalidPattern) iLInvalidPattern iDInvalidPattern iKInvalidPattern
  have FIInvalidPlace := fun_mk (st := sInitInvalidPlace) iLInvalidPlace iDInvalidPlace iKInvalidPlace
  exact ⟨⟨_, PySem.W.mg_of X G eInvalidPattern, _, PySem.W.mg_of X G eInvalidText, _, PySem.W.mg_of X G eInvalidPlace, _, _, FIInvalidPattern, FIInvalidPattern.binds (ps := ["self", "value"]) fun _ _ _ _ _ _ us hl => match us, hl with | [_, _], _ => rfl, ⟨⟨⟨_, _, _, _, _, _, _, _, _, _, _, _, _, _, _, xLInvalidPattern, by decide +kernel⟩, saInvalidPattern, exInvalidPattern, tyInvalidPattern, kCInvalidPattern⟩, ⟨gaInvalidPattern, ggInvalidPattern, exInvalidPattern, hdInvalidPattern⟩, ⟨gaInvalidPattern, ggInvalidPattern, exInvalidPattern, hdInvalidPattern, caInvalidPattern, cnInvalidPattern, ctInvalidPattern, cmInvalidPattern⟩, nbInvalidPattern, PySem.W.exm_ref exInvalidPattern hdInvalidPattern tyInvalidPattern sCInvalidPattern, iCInvalidPattern, tIInvalidPattern⟩, _, _, FIInvalidPlace, FIInvalidPlace.binds (ps := ["self", "value"]) fun _ _ _ _ _ _ us hl => match us, hl with | [_, _], _ => rfl, ⟨⟨⟨_, _, _, _, _, _, _, _, _, _, _, _, _, _, _, xLInvalidPlace, by decide +kernel⟩, saInvalidPlace, exInvalidPlace, tyInvalidPlace, kCInvalidPlace⟩, ⟨gaInvalidPlace, ggInvalidPlace, exInvalidPlace, hdInvalidPlace⟩, ⟨gaInvalidPlace, ggInvalidPlace, exInvalidPlace, hdInvalidPlace, caInvalidPlace, cnInvalidPlace, ctInvalidPlace, cmInvalidPlace⟩, nbInvalidPlace, PySem.W.exm_ref exInvalidPlace hdInvalidPlace tyInvalidPlace sCInvalidPlace, iCInvalidPlace, tIInvalidPlace⟩, PySem.W.exm_ref exInvalidPattern hdInvalidPattern tyInvalidPattern suInvalidPlaceInvalidPattern, (kitAny_cons (kit1_ref suInvalidPatternInvalidPlace sCInvalidPattern icInvalidPlace itInvalidPlace) (fun _ => (kitAny_cons (kit1_ref suInvalidPatternInvalidText sCInvalidPattern icInvalidText itInvalidText) (fun _ => kitAny_nil) (fun z => nomatch z))) (fun z => nomatch z)), kit1_self, kit1_self, kit1_type suInvalidPatternValueError (by decide +kernel), kit1_type suInvalidPlaceValueError (by decide +kernel), kit1_ref suInvalidPlaceInvalidText sCInvalidPlace icInvalidText itInvalidText, kit1_ref suInvalidPatternInvalidPlace sCInvalidPattern icInvalidPlace itInvalidPlace, kit1_ref suInvalidPlaceInvalidPattern sCInvalidPlace icInvalidPattern itInvalidPattern, _, _, F0, F0.binds (ps := ["value"]) fun _ _ _ _ _ _ us hl => match us, hl with | [_], _ => rfl, PySem.W.mg_of X G a0, _, _, F1, F1.binds (ps := ["value"]) fun _ _ _ _ _ _ us hl => match us, hl with | [_], _ => rfl, PySem.W.mg_of X G a1, _, _, F2, F2.binds (ps := ["value"]) fun _ _ _ _ _ _ us hl => match us, hl with | [_], _ => rfl, PySem.W.mg_of X G a2, _, _, F3, F3.binds (ps := ["value"]) fun _ _ _ _ _ _ us hl => match us, hl with | [_], _ => rfl, PySem.W.mg_of X G a3, _, _, F4, F4.binds (ps := ["value"]) fun _ _ _ _ _ _ us hl => match us, hl with | [_], _ => rfl, PySem.W.mg_of X G a4, _, _, F5, F5.binds (ps := ["pattern", "value"]) fun _ _ _ _ _ _ us hl => match us, hl with | [_, _], _ => rfl, PySem.W.mg_of X G a5, _, _, F6, F6.binds (ps := ["value"]) fun _ _ _ _ _ _ us hl => match us, hl with | [_], _ => rfl, PySem.W.mg_of X G a6, _, _, F7, F7.binds (ps := ["value"]) fun _ _ _ _ _ _ us hl => match us, hl with | [_], _ => rfl, PySem.W.mg_of X G a7, _, _, F8, F8.binds (ps := ["value"]) fun _ _ _ _ _ _ us hl => match us, hl with | [_], _ => rfl, PySem.W.mg_of X G a8, _, _, F9, F9.binds (ps := ["value", "least", "most"]) fun _ _ _ _ _ _ us hl => match us, hl with | [_, _, _], _ => rfl, PySem.W.mg_of X G a9, _, _, F10, F10.binds (ps := ["pattern"]) fun _ _ _ _ _ _ us hl => match us, hl with | [_], _ => rfl, PySem.W.mg_of X G a10, _, _, F11, F11.binds (ps := ["pattern", "letters"]) fun _ _ _ _ _ _ us hl => match us, hl with | [_, _], _ => rfl, PySem.W.mg_of X G a11, _, _, F12, F12.binds (ps := ["pattern", "values"]) fun _ _ _ _ _ _ us hl => match us, hl with | [_, _], _ => rfl, PySem.W.mg_of X G a12, _, _, F13, F13.binds (ps := ["number"]) fun _ _ _ _ _ _ us hl => match us, hl with | [_], _ => rfl, PySem.W.mg_of X G a13, _, _, F14, F14.binds (ps := ["count"]) fun _ _ _ _ _ _ us hl => match us, hl with | [_], _ => rfl, PySem.W.mg_of X G a14, _, _, F15, F15.binds (ps := ["size", "letter", "index"]) fun _ _ _ _ _ _ us hl => match us, hl with | [_, _, _], _ => rfl, PySem.W.mg_of X G a15, _, _, F16, F16.binds (ps := ["size", "start", "length"]) fun _ _ _ _ _ _ us hl => match us, hl with | [_, _, _], _ => rfl, PySem.W.mg_of X G a16, _, _, F17, ⟨fun s us ws _ l1 l2 => match us, ws, l1, l2 with | [_, _], [_], _, _ => .of_eq rfl, fun r1 r2 => Mo.vals_app r1 r2⟩, ys17, vs17, zs17, PySem.W.mg_of X G a17, _, _, F18, F18.binds (ps := ["count", "index", "first", "second"]) fun _ _ _ _ _ _ us hl => match us, hl with | [_, _, _, _], _ => rfl, PySem.W.mg_of X G a18, _, _, F19, F19.binds (ps := ["pattern", "value"]) fun _ _ _ _ _ _ us hl => match us, hl with | [_, _], _ => rfl, PySem.W.mg_of X G a19, _, _, F20, F20.binds (ps := ["pattern", "place"]) fun _ _ _ _ _ _ us hl => match us, hl with | [_, _], _ => rfl, PySem.W.mg_of X G a20, _, _, F21, F21.binds (ps := ["pattern", "place"]) fun _ _ _ _ _ _ us hl => match us, hl with | [_, _], _ => rfl, PySem.W.mg_of X G a21, _, _, F22, F22.binds (ps := ["count", "pattern", "place"]) fun _ _ _ _ _ _ us hl => match us, hl with | [_, _, _], _ => rfl, PySem.W.mg_of X G a22, _, _, F23, F23.binds (ps := ["pattern", "start", "values"]) fun _ _ _ _ _ _ us hl => match us, hl with | [_, _, _], _ => rfl, PySem.W.mg_of X G a23, _, _, F24, F24.binds (ps := ["size", "starts", "values"]) fun _ _ _ _ _ _ us hl => match us, hl with | [_, _, _], _ => rfl, PySem.W.mg_of X G a24, _, _, F25, F25.binds (ps := ["count", "mark", "start", "text"]) fun _ _ _ _ _ _ us hl => match us, hl with | [_, _, _, _], _ => rfl, PySem.W.mg_of X G a25, _, _, F26, F26.binds (ps := ["names", "size", "mark", "starts"]) fun _ _ _ _ _ _ us hl => match us, hl with | [_, _, _, _], _ => rfl, PySem.W.mg_of X G a26, _, _, F27, F27.binds (ps := ["_law_script"]) fun _ _ _ _ _ _ us hl => match us, hl with | [_], _ => rfl, PySem.W.mg_of X G a27, _, _, F28, F28.binds (ps := ["_law_pen_here", "_law_many"]) fun _ _ _ _ _ _ us hl => match us, hl with | [_, _], _ => rfl, PySem.W.mg_of X G a28, _, _, F29, F29.binds (ps := ["_law_pen_here", "_law_choices"]) fun _ _ _ _ _ _ us hl => match us, hl with | [_, _], _ => rfl, PySem.W.mg_of X G a29, _, _, F30, F30.binds (ps := ["_law_pen_here", "_law_values"]) fun _ _ _ _ _ _ us hl => match us, hl with | [_, _], _ => rfl, PySem.W.mg_of X G a30, _, _, F31, F31.binds (ps := ["_law_pen_here", "_law_pieces"]) fun _ _ _ _ _ _ us hl => match us, hl with | [_, _], _ => rfl, PySem.W.mg_of X G a31, _, _, F32, F32.binds (ps := ["_law_count"]) fun _ _ _ _ _ _ us hl => match us, hl with | [_], _ => rfl, PySem.W.mg_of X G a32, _, _, F33, F33.binds (ps := ["_law_q_here", "_law_letter_here"]) fun _ _ _ _ _ _ us hl => match us, hl with | [_, _], _ => rfl, PySem.W.mg_of X G a33, _, _, F34, F34.binds (ps := ["_law_q_here", "_law_index"]) fun _ _ _ _ _ _ us hl => match us, hl with | [_, _], _ => rfl, PySem.W.mg_of X G a34, _, _, F35, F35.binds (ps := ["_law_q_here", "_law_start", "_law_length"]) fun _ _ _ _ _ _ us hl => match us, hl with | [_, _, _], _ => rfl, PySem.W.mg_of X G a35, _, _, F36, F36.binds (ps := ["_law_pen_here", "_law_count"]) fun _ _ _ _ _ _ us hl => match us, hl with | [_, _], _ => rfl, PySem.W.mg_of X G a36, _, _, F37, F37.binds (ps := ["_law_value", "_law_low", "_law_high"]) fun _ _ _ _ _ _ us hl => match us, hl with | [_, _, _], _ => rfl, PySem.W.mg_of X G a37, _, _, F38, F38.binds (ps := ["_law_pattern", "_law_values"]) fun _ _ _ _ _ _ us hl => match us, hl with | [_, _], _ => rfl, PySem.W.mg_of X G a38, _, _, F39, F39.binds (ps := ["_law_pattern"]) fun _ _ _ _ _ _ us hl => match us, hl with | [_], _ => rfl, PySem.W.mg_of X G a39, _, _, F40, F40.binds (ps := ["_law_pattern", "_law_letters"]) fun _ _ _ _ _ _ us hl => match us, hl with | [_, _], _ => rfl, PySem.W.mg_of X G a40, _, _, F41, F41.binds (ps := ["_law_pattern", "_law_letters"]) fun _ _ _ _ _ _ us hl => match us, hl with | [_, _], _ => rfl, PySem.W.mg_of X G a41, _, _, F42, F42.binds (ps := ["_law_pattern", "_law_steps"]) fun _ _ _ _ _ _ us hl => match us, hl with | [_, _], _ => rfl, PySem.W.mg_of X G a42, _, _, F43, F43.binds (ps := ["_law_pattern"]) fun _ _ _ _ _ _ us hl => match us, hl with | [_], _ => rfl, PySem.W.mg_of X G a43, _, _, F44, F44.binds (ps := ["_law_call"]) fun _ _ _ _ _ _ us hl => match us, hl with | [_], _ => rfl, PySem.W.mg_of X G a44, _, _, F45, F45.binds (ps := ["_law_pattern", "_law_place", "_law_told_here"]) fun _ _ _ _ _ _ us hl => match us, hl with | [_, _, _], _ => rfl, PySem.W.mg_of X G a45, _, _, F46, F46.binds (ps := ["_law_pen_here", "_law_count"]) fun _ _ _ _ _ _ us hl => match us, hl with | [_, _], _ => rfl, PySem.W.mg_of X G a46, _, _, F47, F47.binds (ps := ["_law_pen_here"]) fun _ _ _ _ _ _ us hl => match us, hl with | [_], _ => rfl, PySem.W.mg_of X G a47, _, _, F48, F48.binds (ps := ["_law_script"]) fun _ _ _ _ _ _ us hl => match us, hl with | [_], _ => rfl, PySem.W.mg_of X G a48, _, _, rfl, hdLaw K lcLaw, npLaw, _, PySem.W.mg_of X G z_VARIABLES, _, PySem.W.mg_of X G z_LONGEST_PATTERN, _, PySem.W.mg_of X G z_MOST_VARIABLES, _, PySem.W.mg_of X G z_LONGEST_TEXT, _, PySem.W.mg_of X G z_GREATEST_LETTER, _, PySem.W.mg_of X G z_GREATEST_START, PySem.W.mg_none_of X G z_all, PySem.W.mg_none_of X G z_len, PySem.W.mg_none_of X G z_set, PySem.W.mg_none_of X G z_isinstance, PySem.W.mg_none_of X G z_str, PySem.W.mg_none_of X G z_bool, PySem.W.mg_none_of X G z_int, PySem.W.mg_none_of X G z_tuple, PySem.W.mg_none_of X G z_dict, PySem.W.mg_none_of X G z_enumerate, PySem.W.mg_none_of X G z_sum, PySem.W.mg_none_of X G z_range, PySem.W.mg_none_of X G z_sorted, PySem.W.mg_none_of X G z_list, PySem.W.mg_none_of X G z_abs, PySem.W.mg_none_of X G z_ValueError, PySem.W.mg_none_of X G z_repr, PySem.W.mg_none_of X G z_min⟩, rfl, fun s v => .of_eq rfl⟩
theorem all_mk {l : PySem.W.OpenLaw} {q : Program} {w : World} {K : PySem.W.Frag} {mg : Str → Option Value} {fa : Addr} {h : Heap} (hT : ∃ T : Txt K mg, T.aLaw = fa ∧ ∀ (s : Shared) (v : Value), BindsTo s T.dLaw ⟨[v], []⟩ [("_law_script", v)]) (em : Empties q K mg h) (rLaw : ((recsOf q).any fun e => e.name == "law") = true) :
    LawT l w K CX0 39 63 "_law_script" mg fa h := by
  obtain ⟨T, rfl, hb⟩ := hT
  have tLaw : h.get? T.pdLaw = some tab0 := by
    obtain ⟨oc, od, kV, doc, pm, an, cdv, ct, osl, e, lk, hcd⟩ := T.fLaw.ex
    exact em _ _ _ _ _ _ rLaw T.gLaw lk rfl (by first | exact T.kdLaw | (rw [← e]; exact T.kdLaw)) T.hdLaw
  refine ⟨T.dLaw, [(T.cdLaw, T.pdLaw)], spLaw K T.pdLaw, ?_, ?_, ?_, hb, ?_, ?_⟩
  · intro p hp
    simp only [List.mem_cons, List.not_mem_nil, or_false] at hp
    rcases hp with rfl
    · exact tLaw
  · intro p hp
    simp only [List.mem_cons, List.not_mem_nil, or_false] at hp
    rcases hp with rfl
    · exact T.npLaw
  · intro p hp
    simp only [List.mem_cons, List.not_mem_nil, or_false] at hp
    rcases hp with rfl
    · exact T.hdLaw
  · intro H a ns hl hH hS
    exact ⟨a, ns, rfl, hS, hl, hH (T.cdLaw, T.pdLaw) (by simp), fun _ => rfl⟩
  · intro base _ _ TB hbm
    exact ok_law (k := 0) T (TB (T.cdLaw, T.pdLaw) (by simp)) hbm
end Mo
open PySem PySem.W PyProof.Rows
set_option maxHeartbeats 0 in
theorem PySem.Challenge.cw_mustoccur_k53_descents_step_by_step_holds : PySem.Challenge.rw_mustoccur_k53_descents_step_by_step.Holds := by
  w_on; o_law; k_head; (case hw => w_witness2)
  k_fill
  refine Mo.walkT (l := PySem.Challenge.rw_mustoccur_k53_descents_step_by_step) (n := 63) (k := 39) (x := "_law_script") (CX := fun _ => L2.CX0) rfl (by decide) rfl ⟨rfl, by decide, by decide⟩ (fun w h Y => PySem.W.km_in_of Y) (by decide +kernel) ?F (fun _ _ _ _ _ h => h)
  case F =>
    intro w mg fa h KX G hmg em
    refine Mo.all_mk ?_ em (by decide +kernel)
    refine' Mo.txt_mk KX G hmg ?eInvalidPattern ?eInvalidText ?eInvalidPlace ?xLInvalidPattern ?saInvalidPattern ?gaInvalidPattern ?ggInvalidPattern ?nbInvalidPattern ?exInvalidPattern ?tyInvalidPattern ?hdInvalidPattern ?kCInvalidPattern ?sCInvalidPattern ?caInvalidPattern ?cnInvalidPattern ?ctInvalidPattern ?cmInvalidPattern ?iCInvalidPattern ?tIInvalidPattern ?iLInvalidPattern ?iDInvalidPattern ?iKInvalidPattern ?xLInvalidPlace ?saInvalidPlace ?gaInvalidPlace ?ggInvalidPlace ?nbInvalidPlace ?exInvalidPlace ?tyInvalidPlace ?hdInvalidPlace ?kCInvalidPlace ?sCInvalidPlace ?caInvalidPlace ?cnInvalidPlace ?ctInvalidPlace ?cmInvalidPlace ?iCInvalidPlace ?tIInvalidPlace ?iLInvalidPlace ?iDInvalidPlace ?iKInvalidPlace ?suInvalidPlaceInvalidPattern ?suInvalidPatternInvalidText ?icInvalidText ?itInvalidText ?suInvalidPatternInvalidPlace ?icInvalidPlace ?itInvalidPlace ?suInvalidPatternValueError ?suInvalidPlaceValueError ?suInvalidPlaceInvalidText ?icInvalidPattern ?itInvalidPattern ?a0 ?l0 ?c0 ?k0 ?a1 ?l1 ?c1 ?k1 ?a2 ?l2 ?c2 ?k2 ?a3 ?l3 ?c3 ?k3 ?a4 ?l4 ?c4 ?k4 ?a5 ?l5 ?c5 ?k5 ?a6 ?l6 ?c6 ?k6 ?a7 ?l7 ?c7 ?k7 ?a8 ?l8 ?c8 ?k8 ?a9 ?l9 ?c9 ?k9 ?a10 ?l10 ?c10 ?k10 ?a11 ?l11 ?c11 ?k11 ?a12 ?l12 ?c12 ?k12 ?a13 ?l13 ?c13 ?k13 ?a14 ?l14 ?c14 ?k14 ?a15 ?l15 ?c15 ?k15 ?a16 ?l16 ?c16 ?k16 ?a17 ?l17 ?c17 ?k17 ?w17 ?a18 ?l18 ?c18 ?k18 ?a19 ?l19 ?c19 ?k19 ?a20 ?l20 ?c20 ?k20 ?a21 ?l21 ?c21 ?k21 ?a22 ?l22 ?c22 ?k22 ?a23 ?l23 ?c23 ?k23 ?a24 ?l24 ?c24 ?k24 ?a25 ?l25 ?c25 ?k25 ?a26 ?l26 ?c26 ?k26 ?a27 ?l27 ?c27 ?k27 ?a28 ?l28 ?c28 ?k28 ?a29 ?l29 ?c29 ?k29 ?a30 ?l30 ?c30 ?k30 ?a31 ?l31 ?c31 ?k31 ?a32 ?l32 ?c32 ?k32 ?a33 ?l33 ?c33 ?k33 ?a34 ?l34 ?c34 ?k34 ?a35 ?l35 ?c35 ?k35 ?a36 ?l36 ?c36 ?k36 ?a37 ?l37 ?c37 ?k37 ?a38 ?l38 ?c38 ?k38 ?a39 ?l39 ?c39 ?k39 ?a40 ?l40 ?c40 ?k40 ?a41 ?l41 ?c41 ?k41 ?a42 ?l42 ?c42 ?k42 ?a43 ?l43 ?c43 ?k43 ?a44 ?l44 ?c44 ?k44 ?a45 ?l45 ?c45 ?k45 ?a46 ?l46 ?c46 ?k46 ?a47 ?l47 ?c47 ?k47 ?a48 ?l48 ?c48 ?k48 ?lcLaw ?lpLaw ?hdLaw ?npLaw ?z_VARIABLES ?z_LONGEST_PATTERN ?z_MOST_VARIABLES ?z_LONGEST_TEXT ?z_GREATEST_LETTER ?z_GREATEST_START ?z_all ?z_len ?z_set ?z_isinstance ?z_str ?z_bool ?z_int ?z_tuple ?z_dict ?z_enumerate ?z_sum ?z_range ?z_sorted ?z_list ?z_abs ?z_ValueError ?z_repr ?z_min
    (case eInvalidPattern => k_is); (case eInvalidText => k_is); (case eInvalidPlace => k_is); (case xLInvalidPattern => k_is); (case saInvalidPattern => k_is); (case gaInvalidPattern => k_is); (case ggInvalidPattern => k_is); (case nbInvalidPattern => k_is); (case exInvalidPattern => k_is); (case tyInvalidPattern => k_is); (case hdInvalidPattern => k_is); (case kCInvalidPattern => k_is); (case sCInvalidPattern => k_is); (case caInvalidPattern => k_is); (case cnInvalidPattern => k_is); (case ctInvalidPattern => k_is); (case cmInvalidPattern => k_is); (case iCInvalidPattern => k_is); (case tIInvalidPattern => k_is); (case iLInvalidPattern => k_is); (case iDInvalidPattern => k_is); (case iKInvalidPattern => k_is); (case xLInvalidPlace => k_is); (case saInvalidPlace => k_is); (case gaInvalidPlace => k_is); (case ggInvalidPlace => k_is); (case nbInvalidPlace => k_is); (case exInvalidPlace => k_is); (case tyInvalidPlace => k_is); (case hdInvalidPlace => k_is); (case kCInvalidPlace => k_is); (case sCInvalidPlace => k_is); (case caInvalidPlace => k_is); (case cnInvalidPlace => k_is); (case ctInvalidPlace => k_is); (case cmInvalidPlace => k_is); (case iCInvalidPlace => k_is); (case tIInvalidPlace => k_is); (case iLInvalidPlace => k_is); (case iDInvalidPlace => k_is); (case iKInvalidPlace => k_is); (case suInvalidPlaceInvalidPattern => k_is); (case suInvalidPatternInvalidText => k_is); (case icInvalidText => k_is); (case itInvalidText => k_is); (case suInvalidPatternInvalidPlace => k_is); (case icInvalidPlace => k_is); (case itInvalidPlace => k_is); (case suInvalidPatternValueError => k_is); (case suInvalidPlaceValueError => k_is); (case suInvalidPlaceInvalidText => k_is); (case icInvalidPattern => k_is); (case itInvalidPattern => k_is); (case a0 => k_is); (case l0 => k_is); (case c0 => k_is); (case k0 => k_is); (case a1 => k_is); (case l1 => k_is); (case c1 => k_is); (case k1 => k_is); (case a2 => k_is); (case l2 => k_is); (case c2 => k_is); (case k2 => k_is); (case a3 => k_is); (case l3 => k_is); (case c3 => k_is); (case k3 => k_is); (case a4 => k_is); (case l4 => k_is); (case c4 => k_is); (case k4 => k_is); (case a5 => k_is); (case l5 => k_is); (case c5 => k_is); (case k5 => k_is); (case a6 => k_is); (case l6 => k_is); (case c6 => k_is); (case k6 => k_is); (case a7 => k_is); (case l7 => k_is); (case c7 => k_is); (case k7 => k_is); (case a8 => k_is); (case l8 => k_is); (case c8 => k_is); (case k8 => k_is); (case a9 => k_is); (case l9 => k_is); (case c9 => k_is); (case k9 => k_is); (case a10 => k_is); (case l10 => k_is); (case c10 => k_is); (case k10 => k_is); (case a11 => k_is); (case l11 => k_is); (case c11 => k_is); (case k11 => k_is); (case a12 => k_is); (case l12 => k_is); (case c12 => k_is); (case k12 => k_is); (case a13 => k_is); (case l13 => k_is); (case c13 => k_is); (case k13 => k_is); (case a14 => k_is); (case l14 => k_is); (case c14 => k_is); (case k14 => k_is); (case a15 => k_is); (case l15 => k_is); (case c15 => k_is); (case k15 => k_is); (case a16 => k_is); (case l16 => k_is); (case c16 => k_is); (case k16 => k_is); (case a17 => k_is); (case l17 => k_is); (case c17 => k_is); (case k17 => k_is); (case w17 => k_is); (case a18 => k_is); (case l18 => k_is); (case c18 => k_is); (case k18 => k_is); (case a19 => k_is); (case l19 => k_is); (case c19 => k_is); (case k19 => k_is); (case a20 => k_is); (case l20 => k_is); (case c20 => k_is); (case k20 => k_is); (case a21 => k_is); (case l21 => k_is); (case c21 => k_is); (case k21 => k_is); (case a22 => k_is); (case l22 => k_is); (case c22 => k_is); (case k22 => k_is); (case a23 => k_is); (case l23 => k_is); (case c23 => k_is); (case k23 => k_is); (case a24 => k_is); (case l24 => k_is); (case c24 => k_is); (case k24 => k_is); (case a25 => k_is); (case l25 => k_is); (case c25 => k_is); (case k25 => k_is); (case a26 => k_is); (case l26 => k_is); (case c26 => k_is); (case k26 => k_is); (case a27 => k_is); (case l27 => k_is); (case c27 => k_is); (case k27 => k_is); (case a28 => k_is); (case l28 => k_is); (case c28 => k_is); (case k28 => k_is); (case a29 => k_is); (case l29 => k_is); (case c29 => k_is); (case k29 => k_is); (case a30 => k_is); (case l30 => k_is); (case c30 => k_is); (case k30 => k_is); (case a31 => k_is); (case l31 => k_is); (case c31 => k_is); (case k31 => k_is); (case a32 => k_is); (case l32 => k_is); (case c32 => k_is); (case k32 => k_is); (case a33 => k_is); (case l33 => k_is); (case c33 => k_is); (case k33 => k_is); (case a34 => k_is); (case l34 => k_is); (case c34 => k_is); (case k34 => k_is); (case a35 => k_is); (case l35 => k_is); (case c35 => k_is); (case k35 => k_is); (case a36 => k_is); (case l36 => k_is); (case c36 => k_is); (case k36 => k_is); (case a37 => k_is); (case l37 => k_is); (case c37 => k_is); (case k37 => k_is); (case a38 => k_is); (case l38 => k_is); (case c38 => k_is); (case k38 => k_is); (case a39 => k_is); (case l39 => k_is); (case c39 => k_is); (case k39 => k_is); (case a40 => k_is); (case l40 => k_is); (case c40 => k_is); (case k40 => k_is); (case a41 => k_is); (case l41 => k_is); (case c41 => k_is); (case k41 => k_is); (case a42 => k_is); (case l42 => k_is); (case c42 => k_is); (case k42 => k_is); (case a43 => k_is); (case l43 => k_is); (case c43 => k_is); (case k43 => k_is); (case a44 => k_is); (case l44 => k_is); (case c44 => k_is); (case k44 => k_is); (case a45 => k_is); (case l45 => k_is); (case c45 => k_is); (case k45 => k_is); (case a46 => k_is); (case l46 => k_is); (case c46 => k_is); (case k46 => k_is); (case a47 => k_is); (case l47 => k_is); (case c47 => k_is); (case k47 => k_is); (case a48 => k_is); (case l48 => k_is); (case c48 => k_is); (case k48 => k_is); (case lcLaw => k_is); (case lpLaw => rfl); (case hdLaw => (intro K' h; unfold PySem.W.codeHdIn; rw [h]; rfl)); (case npLaw => rfl); (case z_VARIABLES => k_is); (case z_LONGEST_PATTERN => k_is); (case z_MOST_VARIABLES => k_is); (case z_LONGEST_TEXT => k_is); (case z_GREATEST_LETTER => k_is); (case z_GREATEST_START => k_is); (case z_all => k_is); (case z_len => k_is); (case z_set => k_is); (case z_isinstance => k_is); (case z_str => k_is); (case z_bool => k_is); (case z_int => k_is); (case z_tuple => k_is); (case z_dict => k_is); (case z_enumerate => k_is); (case z_sum => k_is); (case z_range => k_is); (case z_sorted => k_is); (case z_list => k_is); (case z_abs => k_is); (case z_ValueError => k_is); (case z_repr => k_is); (case z_min => k_is)
