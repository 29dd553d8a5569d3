import PyProof.Rows.All
import Wide.All
import OpenK.AllK
import Wide.FinOn
import HandS.Base
import HandS.Call
import HandS.List
import HandS.Comp
import HandS.Ends
import HandS.Dict
import HandS.Iter
import HandS.Text
import HandS.Words
import HandS.WordsList
import PyProof.ReprRoads
import HandS.EndBits
import HandS.IsInst
import HandS.StrMore
import HandS.TupAny
import HandS.Conv
import PyProof.ReprLen
import PyProof.StrLawsRepr
import HandS.Exc
import HandS.ExcInit
import HandS.ExcField
import HandS.ExcIs
import HandS.MakeKwOnly
import HandS.More
import HandS.TupMul
import PyProof.StrLaws
import KE.LtData
import PyProof.Rows.StrMul
import HandS.Style
import HandS.Zip
import HandS.Replace
import KE.KDictKeyed
import HandS.DictComp
import HandS.TupLen
import HandS.SlotsOwn
import HandS.Property
import KE.KDictCopyH
import PyProof.InstNe
import KE.SortKeyHeap
import HandS.SortKw
import PyProof.Rows.TupTab
import PyProof.Rows.TupDisplay
import KE.DatumOrd
import HandS.SetKeys
import HandS.Strs
import PyProof.TupleOfSeq
import HandS.Defaults
import HandS.Rev
import HandS.Codes
import HandS.Star
import PySem.Challenge.RW_leadsever_k07_answers_that_differ
set_option Elab.async false
set_option linter.all false
set_option maxRecDepth 100000
set_option maxHeartbeats 8000000
/-! Own rules, for any of the laws of this package. -/
namespace Ld
open PySem L2 PyProof.Rows
/-! ### heaps: all stands but the well -/
/-- all that is tracked stays, but what is at wa -/
def Sb (wa : Addr) (H H' : Hp) : Prop := ∀ b o, b ≠ wa → H b = some o → H' b = some o
theorem Sb.refl (wa : Addr) (H : Hp) : Sb wa H H := fun _ _ _ e => e
theorem Sb.trans {wa : Addr} {H1 H2 H3 : Hp} (a : Sb wa H1 H2) (b : Sb wa H2 H3) : Sb wa H1 H3 := fun c o n e => b c o n (a c o n e)
theorem Sb.of {wa : Addr} {H H' : Hp} (s : Same H H') : Sb wa H H' := fun b o _ e => s b o e
theorem Sb.put (wa : Addr) (H : Hp) (o : HO) : Sb wa H (upd H wa o) := fun b u n e => by
  rw [upd_ne n]
  exact e
theorem Same.new {H : Hp} {p : Addr} {o : HO} (h : H p = none) : Same H (upd H p o) := fun b u e => by
  rw [upd_ne (ne_of_none e h)]
  exact e
/-- the well: its two numbers -/
def wellKv (d m : Int) : List (Key × V) := [(Sum.inr "digits", .int d), (Sum.inr "mixed", .int m)]
def Well (H : Hp) (wa : Addr) : Prop := ∃ d m : Int, H wa = some (.dK (wellKv d m)) ∧ 0 ≤ d ∧ 0 ≤ m ∧ m < 2 ^ 40
theorem Well.same {H H' : Hp} {wa : Addr} (W : Well H wa) (s : Same H H') : Well H' wa := by
  obtain ⟨d, m, h, r⟩ := W
  exact ⟨d, m, s _ _ h, r⟩
/-- what the well is not -/
def NotWell : HO → Prop
  | .dK kvs => kvs.length ≠ 2
  | _ => True
theorem Well.ne {H : Hp} {wa b : Addr} {o : HO} (W : Well H wa) (e : H b = some o) (n : NotWell o) : b ≠ wa := by
  obtain ⟨d, m, h, _⟩ := W
  intro z
  subst z
  rw [h] at e
  cases e
  exact n rfl
theorem Well.lst {H : Hp} {wa b : Addr} {xs : List V} (W : Well H wa) (e : H b = some (.lst xs)) : b ≠ wa := W.ne e trivial
section
variable {K : PySem.W.Frag} {H H' : Hp} {wa a : Addr} {xs : List V}
theorem rd_keep {u : HO} (W : Well H wa) (s : Sb wa H H') (n : NotWell u) (h : Rd H a u) : Rd H' a u := by
  rcases h with h | ⟨o, h⟩
  · exact .inl (s a _ (W.ne h n) h)
  · exact .inr ⟨o, s a _ (W.ne h trivial) h⟩
theorem seqL (W : Well H wa) (s : Sb wa H H') (h : SqL K H a xs) : SqL K H' a xs := by
  rcases h with h | h
  · exact .inl (rd_keep W s trivial h)
  · exact .inr h
theorem seqT (W : Well H wa) (s : Sb wa H H') (h : SqT K H a xs) : SqT K H' a xs := by
  rcases h with h | h
  · exact .inl (rd_keep W s trivial h)
  · exact .inr h
theorem same_T (s : Same H H') (h : SqT K H a xs) : SqT K H' a xs := by
  rcases h with (h | ⟨o, h⟩) | h
  · exact .inl (.inl (s _ _ h))
  · exact .inl (.inr ⟨o, s _ _ h⟩)
  · exact .inr h
end
/-! ### data that stays -/
section
variable {K : PySem.W.Frag} {H H' : Hp}
mutual
theorem dp_mono (hL : ∀ a xs, SqL K H a xs → SqL K H' a xs) (hT : ∀ a xs, SqT K H a xs → SqT K H' a xs) : ∀ (d : PyData) (v : V), Dp K H v d → Dp K H' v d
  | .none, _, h => by cases h; exact .non
  | .bool _, _, h => by cases h; exact .bl _
  | .int _, _, h => by cases h; exact .int _
  | .str _, _, h => by cases h; exact .str _
  | .list ds, _, h => by
    cases h with
    | lst a b => exact .lst (hL _ _ a) (dpAll_mono hL hT ds _ b)
  | .tuple ds, _, h => by
    cases h with
    | tup a b => exact .tup (hT _ _ a) (dpAll_mono hL hT ds _ b)
  | .dict _, _, h => by cases h
theorem dpAll_mono (hL : ∀ a xs, SqL K H a xs → SqL K H' a xs) (hT : ∀ a xs, SqT K H a xs → SqT K H' a xs) : ∀ (ds : List PyData) (vs : List V), DpAll K H vs ds → DpAll K H' vs ds
  | [], _, h => by cases h; exact .nil
  | d :: ds, _, h => by
    cases h with
    | cons a b => exact .cons (dp_mono hL hT d _ a) (dpAll_mono hL hT ds _ b)
end
theorem dp_same {v : V} {d : PyData} (s : Same H H') (h : Dp K H v d) : Dp K H' v d := dp_mono (fun _ _ q => s.seq q) (fun _ _ q => same_T s q) d v h
theorem dp_sb {wa : Addr} {v : V} {d : PyData} (W : Well H wa) (s : Sb wa H H') (h : Dp K H v d) : Dp K H' v d := dp_mono (fun _ _ q => seqL W s q) (fun _ _ q => seqT W s q) d v h
theorem dp_strs : ∀ ws : List Str, DpAll K H (ws.map V.str) (ws.map PyData.str)
  | [] => .nil
  | w :: ws => .cons (.str w) (dp_strs ws)
theorem dp_bools : ∀ ws : List Bool, DpAll K H (ws.map V.bl) (ws.map PyData.bool)
  | [] => .nil
  | w :: ws => .cons (.bl w) (dp_bools ws)
theorem dp_append : ∀ {vs ws : List V} {ds es : List PyData}, DpAll K H vs ds → DpAll K H ws es → DpAll K H (vs ++ ws) (ds ++ es)
  | [], _, _, _, .nil, h => h
  | _ :: _, _, _, _, .cons a b, h => .cons a (dp_append b h)
end
/-! ### numbers of any size that a script may give -/
section
variable {X : Cx}
def CMulB (i j : Int) : Prop := Builtin.Int.intBits i + Builtin.Int.intBits j ≤ 2 ^ 27
def CPowB (i j : Int) : Prop := 0 ≤ j ∧ (Builtin.Int.intBits i : Int) * j ≤ 2 ^ 27
theorem mulB_ok {i j : Int} (h : CMulB i j) : IntMulOk i j := by
  intro z
  have z2 := (Bool.and_eq_true_iff.mp z).2
  have z3 := of_decide_eq_true (show decide (((Builtin.Int.intBits i + Builtin.Int.intBits j : Nat) : Int) > bitsLine) = true from z2)
  have e : bitsLine = 2 ^ 27 := rfl
  rw [e] at z3
  have h' : Builtin.Int.intBits i + Builtin.Int.intBits j ≤ 2 ^ 27 := h
  omega
theorem op_mulB : OpR X (binaryOp .Mult) (rI CMulB fun i j => .int (i * j)) := opI fun i j t u s Q E hc q => mul_int q (mulB_ok hc)
theorem op_powB : OpR X (binaryOp .Pow) (rI CPowB fun i j => .int (i ^ j.toNat)) := opI fun i j t u s Q E hc q => pow_int hc.1 hc.2 q
theorem bits_of {i : Int} {n : Nat} (h : i.natAbs < 2 ^ n) : Builtin.Int.intBits i ≤ n := by
  unfold Builtin.Int.intBits
  split
  · exact Nat.zero_le _
  · rename_i hz
    have hz : ¬ i = 0 := fun e => hz (by rw [e]; rfl)
    have h0 : i.natAbs ≠ 0 := fun e => hz (Int.natAbs_eq_zero.mp e)
    have := (Nat.log2_lt h0).mpr h
    omega
theorem of_bits {i : Int} {n : Nat} (h : Builtin.Int.intBits i ≤ n) : i.natAbs < 2 ^ n := by
  unfold Builtin.Int.intBits at h
  by_cases hz : i = 0
  · subst hz
    exact Nat.two_pow_pos n
  · rw [if_neg (by simpa using hz)] at h
    exact (Nat.log2_lt (fun e => hz (Int.natAbs_eq_zero.mp e))).mp (by omega)
end
end Ld
/-! Defs that need to know that no repr runs around them. -/
namespace Ld
open PySem L2 PyProof.Rows
/-- the promise of a def, wherever no repr runs around -/
structure FnG (P : Program) (w : World) (K : PySem.W.Frag) (mg : Str → Option Value) (base : Heap) (k : Nat) (f : Addr) (fd : FuncData) (ps : List Str) (sp : Sp) : Prop where
  long : ∀ vs H Q E, sp vs H Q E → vs.length = ps.length
  goes : ∀ (A : Around) (outer : List Env) (s : Shared) (H : Hp) (args : Args) (us : List Value) (vs : List V) (Q : VK) (E : XK), A.guards = some [] → Room k A → Env0 P w K mg base A outer s H →
    BindsTo s fd args (ps.zip us) → Vals vs us → sp vs H Q E → codeAny (model P w) A (.call (.ref f) args) (CR CX0 outer P w H s Q E) s
section
variable {P : Program} {w : World} {K : PySem.W.Frag} {mg : Str → Option Value} {base : Heap} {k : Nat} {f : Addr} {fd : FuncData} {ps : List Str} {sp : Sp}
theorem FnG.of (F : FnOk P w K mg base CX0 k f fd ps sp) : FnG P w K mg base k f fd ps sp := ⟨F.len, fun A outer s H args us vs Q E _ => F.run A outer s H args us vs Q E⟩
/-- what a body leaves is what the call leaves -/
theorem ends_of {X : Cx} {pins : List (Addr × Obj)} {s' : Shared} {Q : VK} (hx : X.ex = []) {σ' : L2.St} {H' : Hp} {v : V} {u : Value} (J : Inv X pins σ' H' s') (r : RelV v u) (q : Q v H') :
    CE X.outer X.prog X.w X.H_0 X.s_0 Q u s' := by
  have b := J.base
  rw [hx] at b
  exact ⟨v, H', J.os, J.bare, b, J.hok, r, q⟩
/-- a def of the text by its body -/
theorem Fun.okG {x qual : Str} {st : Stmt} {N : List Str} (F : Fun K x qual st f fd) (S : FnScope N ps (defScope st)) (long : ∀ vs H Q E, sp vs H Q E → vs.length = ps.length)
    (body : ∀ (cdv : Value) (A : Around) (outer : List Env) (s : Shared) (H : Hp) (vs : List V) (Q : VK) (E : XK), A.guards = some [] → Room k (A.deeper (envOfC qual (defScope st) s.heap.objs.size f cdv)) → sp vs H Q E →
      ∃ t, PSs (cxOf CX0 P w K mg base N qual (defScope st) f cdv A outer s H E).nox (defBody st) t ∧ t { nx := fun _ H' => Q .non H', rt := Q } (start N vs) H) : FnG P w K mg base (k + 1) f fd ps sp := by
  obtain ⟨oc, od, kV, doc, pm, an, cdv, ct, osl, rfl, lk, hcd⟩ := F.ex
  refine ⟨long, fun A outer s H args us vs Q E hg hr e0 hb r hsp => ?_⟩
  have up : ∀ b o, base.get? b = some o → s.heap.get? b = some o := fun b o e => (e0.bs b o e).1
  have KX : K.In s.heap := e0.mod.kin.keeps up
  have kinds : ∀ y ∈ ps.zip us, (defScope st).names.lookup y.1 = some .local ∨ ((defScope st).names.lookup y.1 = some .cell ∧ ((cellsFrom (s.heap.objs.size + 1) (defScope st).names []).lookup y.1).isSome = true) := by
    rintro ⟨n, v⟩ hy
    rcases S.par n (List.of_mem_zip hy).1 with q | q
    · exact Or.inl q
    · exact Or.inr ⟨q, PySem.W.cellsFrom_some _ _ _ (Or.inl q)⟩
  refine codeAny_call_function hr.depth (KX _ _ lk) rfl S.co S.gen rfl (PySem.W.codeRec_of KX hcd) (hb _ _ _ _ ?_)
  refine wpAny_newFunctionEnv_cells S.kind kinds fun env he s1 x => ?_
  subst he
  refine ⟨(e0.mod.nolimit.keeps up).keeps x.toInCall.keep, codeAny_func ?_⟩
  obtain ⟨t, ht, hq⟩ := body cdv A outer s H vs Q E hg (hr.deeper _) hsp
  refine wpAny_mono (ht.nox.run [] s1 (start N vs) H _ (inv_start S hr.hd e0 (long _ _ _ _ hsp) r x) hq) (fun fl s' hs => ?_) fun e s' hs => hs
  cases fl with
  | ret u =>
    obtain ⟨v, σ', H', J, r, q⟩ := hs
    exact ends_of rfl J r q
  | next =>
    obtain ⟨σ', H', J, q⟩ := hs
    exact ends_of (v := .non) rfl J rfl q
  | brk =>
    obtain ⟨_, _, _, q⟩ := hs
    exact q.elim
  | cont =>
    obtain ⟨_, _, _, q⟩ := hs
    exact q.elim
end
section
variable {X : Cx} {k : Nat} {f : Addr} {fd : FuncData} {ps : List Str} {sp : Sp} {x : Str} {p pos : Pos} {e : Expr} {es : List Expr} {t : TA}
/-- f(e, ..) of such a def -/
theorem pe_callG (F : FnG X.prog X.w X.K X.mg X.base k f fd ps sp) (hG : X.A.guards = some []) (hr : Room k X.A) (hg : Gl X x) (hm : X.mg x = some (.ref f)) (hk : PySem.W.keepIn X.K (.ref f) = true) (hb : Binds X.K fd ps [])
    (ha : PA X (e :: es) t) (hdb : (x == ("__debug__" : Str)) = false := by decide) (he : starEach (e :: es) X.env = (false, eval e X.env) :: starEach es X.env := by rfl)
    (hpl : (backTo pos (starEach es X.env)).any (·.1) = false := by rfl) : PE X (.Call (.Name x p) (e :: es) [] pos) (tCall sp [] E0 t) := by
  refine ⟨fun pins s σ H Q I h => wpAny_Call_Name_kw (ld_glob I hg hm ?_ hdb)⟩
  refine PySem.W.callWith_K (h₀ := X.base) I.ok.mod.kin hk (thn (ha.run pos pins s σ H _ I h) fun us s1 ⟨vs, H1, I1, r, q⟩ => ⟨I1.kIn, ?_⟩) he hpl
  have q : sp (vs ++ []) H1 Q E0 := q
  rw [List.append_nil] at q
  have hl : us.length = ps.length := by
    rw [← r.length]
    exact F.long _ _ _ _ q
  have hb1 := hb s1 us I1.kIn (by rw [List.append_nil]; exact hl)
  rw [List.append_nil] at hb1
  refine wpAny_call (codeAny_mono (F.goes X.A X.stack s1 H1 ⟨us, []⟩ us vs Q E0 hG hr I1.env0 hb1 r q) fun z s2 hq => ?_)
  match z, hq with
  | .ok (.ret u), hq => exact I1.after hq
  | .ok .next, hq => exact False.elim hq
  | .ok .brk, hq => exact False.elim hq
  | .ok .cont, hq => exact False.elim hq
  | .error e, hq => exact False.elim hq
/-- repr of data -/
def Rds (K : PySem.W.Frag) (P : Program) (w : World) (H : Hp) (v : V) (d : PyData) : Prop := ∀ h : Heap, HOk P w H h → K.In h → ∀ u, RelV v u → ∃ as, Reads h u d as ∧ (d.hasDict = true → ¬ sysModules ∈ as)
def Small (d : PyData) : Prop := d.showable = true ∧ d.depth ≤ 40 ∧ d.shown.length ≤ sizeLine
theorem call_repr (hG : X.A.guards = some []) (hu : X.A.units + 64 < cLine) : CallR X (.builtin "repr") (fun xs H Q => ∃ v d, xs = [v] ∧ Rds X.K X.prog X.w H v d ∧ Small d ∧ Q (.str d.shown) H) := by
  intro pins s σ H xs us Q I r h
  obtain ⟨v, d, rfl, hR, ⟨h1, h2, h3⟩, q⟩ := h
  obtain ⟨u, rfl, ru⟩ := vals1 r
  obtain ⟨as, rd, hs⟩ := hR s.heap I.hok I.kIn u ru
  have fin : ∀ h' t tk, (∀ b o, s.heap.get? b = some o → h'.get? b = some o) → EP X pins σ Q (.str d.shown t) { s with heap := h', toks := tk } := fun h' t tk kp =>
    ⟨.str d.shown, H, I.kept kp, ⟨t, rfl⟩, q⟩
  cases v with
  | ref a =>
    cases ru
    exact repr_of_reads' rd h1 hs hG (by omega) (fun _ _ e => e) fin h3
  | non =>
    cases ru
    cases rd
    simp only [PyData.shown] at fin
    exact P.repr_of_none (fin s.heap _ _ fun _ _ e => e)
  | bl b =>
    cases ru
    cases rd
    simp only [PyData.shown] at fin
    exact P.repr_of_bool (fin s.heap _ _ fun _ _ e => e)
  | int i =>
    obtain ⟨t, rfl⟩ := ru
    cases rd
    simp only [PyData.shown] at fin
    exact P.repr_of_int (by simpa [PyData.showable] using h1) (fin s.heap _ _ fun _ _ e => e)
  | str x =>
    obtain ⟨t, rfl⟩ := ru
    cases rd
    simp only [PyData.shown] at fin h3
    exact P.repr_of_str (fin s.heap _ _ fun _ _ e => e) h3
  | byt b =>
    obtain ⟨t, rfl⟩ := ru
    cases rd
  | flt b =>
    obtain ⟨t, rfl⟩ := ru
    cases rd
  | ty n =>
    cases ru
    cases rd
end
end Ld
/-! The end of a law whose defs are of the kind FnG; the script's bits are told. -/
namespace Ld
open PySem L2 PyProof.Rows
section
variable {P : Program} {w : World} {K : PySem.W.Frag} {mg mb : Str → Option Value} {k : Nat} {fa a : Addr} {fd : FuncData} {x : Str} {sp : Sp} {s : Shared} {vs : List Value} {ns : List Int}
/-- what stands behind the law's call -/
def Behind (s : Shared) (r : Result) (s' : Shared) : Prop := r = .ok (.ret (.bool true)) ∧ OldK s.heap s'.heap ∧ s'.os = s.os ∧ AllBare s'.gens
/-- with nothing tracked but (perhaps) the script, locked -/
structure Quiet (P : Program) (w : World) (K : PySem.W.Frag) (a : Addr) (H : Hp) (s : Shared) : Prop where
  ok : HOk P w H s.heap
  one : ∀ b o, H b = some o → b = a ∧ K.lookup a = none ∧ ∃ ob xs, o = .frz ob (.lst xs) ∧ ∃ its n, ob.data = .seq its n
theorem law_goes {H : Hp} (KX : K.In s.heap) (hns : s.heap.Ns mainGlobals mg) (hb : s.heap.Ns builtinsNs mb) (hbb : ∀ x : Str, x ≠ "__name__" → mb x = bootBuiltins x) (hlim : s.heap.NoLimit) (hg : s.gens = #[])
    (q : Quiet P w K a H s) (hr : Room k callerA) (F : ∀ base : Heap, K.In base → base.Ns mainGlobals mg → FnG P w K mg base k fa fd [x] sp) (hbind : ∀ (s : Shared) (u : Value), BindsTo s fd ⟨[u], []⟩ [(x, u)])
    (hsp : sp [.ref a] H (fun v _ => v = .bl true) E0) : codeAny (model P w) callerA (.call (.ref fa) ⟨[.ref a], []⟩) (Behind s) s := by
  have free : ∀ {b : Addr} {o : Obj}, s.heap.get? b = some o → (∀ its n, o.data ≠ .seq its n) → H b = none := fun {b o} e d => by
    cases z : H b with
    | none => rfl
    | some u =>
      obtain ⟨rfl, _, ob, xs, rfl, its, n, hd⟩ := q.one b u z
      obtain ⟨e2, _⟩ := q.ok b _ z
      rw [e] at e2
      cases e2
      exact absurd hd (d its n)
  have nsb : ∀ {b : Addr} {m : Str → Option Value}, s.heap.Ns b m → (hidT s.heap H).Ns b m := fun {b m} ⟨o, es, ep, e, d, r⟩ =>
    ⟨o, es, ep, hidT_get e (free e fun its n z => by rw [d] at z; cases z), d, r⟩
  have Kb : K.In (hidT s.heap H) := fun b o e => hidT_get (KX b o e) (by
    cases z : H b with
    | none => rfl
    | some u =>
      obtain ⟨rfl, hk, _⟩ := q.one b u z
      rw [hk] at e
      cases e)
  have md : Mod K mg (hidT s.heap H) := ⟨Kb, nsb hns, ⟨mb, nsb hb, hbb⟩, let ⟨mc, h1, h2⟩ := hlim; ⟨mc, nsb h1, h2⟩⟩
  have none_in : ∀ b : Addr, ¬ b ∈ ([] : List Addr) := fun b z => nomatch z
  have e0 : Env0 P w K mg (hidT s.heap H) callerA [] s H := ⟨rfl, md, fun b o e => of_hidT e, Nat.le_of_eq (hidT_size _ _), trivial, fun b hb => absurd hb (none_in b), q.ok, .of_eq hg⟩
  refine codeAny_mono ((F _ Kb (nsb hns)).goes callerA [] s H ⟨[.ref a], []⟩ [.ref a] [.ref a] _ E0 rfl hr e0 (hbind s (.ref a)) (.cons rfl .nil) hsp) fun r s' h => ?_
  match r, h with
  | .error e, h => exact False.elim h
  | .ok .next, h => exact False.elim h
  | .ok .brk, h => exact False.elim h
  | .ok .cont, h => exact False.elim h
  | .ok (.ret u), h =>
    obtain ⟨v, H', os, bare, un, ok', rv, (rfl : v = .bl true)⟩ := h
    cases (show u = Value.bool true from rv)
    refine ⟨rfl, OldK.of_keep fun b o e => ?_, os, bare⟩
    cases z : H b with
    | none => exact un.keep b o e z (none_in b) (none_in b)
    | some u =>
      obtain ⟨_, _, ob, xs, rfl, _⟩ := q.one b u z
      obtain ⟨e1, _⟩ := q.ok b _ z
      obtain ⟨e2, _⟩ := ok' b _ (un.frzs b ob _ z)
      rw [e] at e1
      cases e1
      exact e2
theorem ints_vals : ∀ {vs : List Value} {ns : List Int}, IntsAre vs ns → Vals (ns.map V.int) vs
  | _, _, .nil => .nil
  | _, _, .cons n t h => .cons ⟨t, rfl⟩ (ints_vals h)
theorem law_goes_any (KX : K.In s.heap) (hns : s.heap.Ns mainGlobals mg) (hb : s.heap.Ns builtinsNs mb) (hbb : ∀ x : Str, x ≠ "__name__" → mb x = bootBuiltins x) (hlim : s.heap.NoLimit) (hg : s.gens = #[])
    (ha : s.heap.get? a = some { cls := .type "list", data := .seq vs.toArray }) (hi : IntsAre vs ns) (hl : ns.length ≤ sizeLine) (hr : Room k callerA)
    (F : ∀ base : Heap, K.In base → base.Ns mainGlobals mg → FnG P w K mg base k fa fd [x] sp) (hbind : ∀ (s : Shared) (u : Value), BindsTo s fd ⟨[u], []⟩ [(x, u)])
    (hsp : ∀ H : Hp, SqL K H a (ns.map V.int) → sp [.ref a] H (fun v _ => v = .bl true) E0) : codeAny (model P w) callerA (.call (.ref fa) ⟨[.ref a], []⟩) (Behind s) s := by
  have rv := ints_vals hi
  cases hk : K.lookup a with
  | some o =>
    have e := KX a o hk
    rw [ha] at e
    cases e
    have sq : SqL K (fun _ => none) a (ns.map V.int) := .inr ⟨_, vs.toArray, _, hk, rfl, rfl, rfl, by rw [List.size_toArray, hi.length]; exact hl, by simpa using rv⟩
    refine law_goes KX hns hb hbb hlim hg ⟨fun b u z => ?_, fun b u z => ?_⟩ hr F hbind (hsp _ sq)
    · exact absurd (show (none : Option HO) = some u from z) (by simp)
    · exact absurd (show (none : Option HO) = some u from z) (by simp)
  | none =>
    have get : ∀ b u, (fun b => if b = a then some (HO.frz { cls := .type "list", data := .seq vs.toArray } (.lst (ns.map V.int))) else none : Hp) b = some u → b = a ∧ u = .frz { cls := .type "list", data := .seq vs.toArray } (.lst (ns.map V.int)) := fun b u z => by
      have z : (if b = a then some (HO.frz { cls := .type "list", data := .seq vs.toArray } (.lst (ns.map V.int))) else none) = some u := z
      by_cases h : b = a
      · rw [if_pos h] at z
        exact ⟨h, (Option.some.inj z).symm⟩
      · rw [if_neg h] at z
        cases z
    refine law_goes (H := fun b => if b = a then some (.frz { cls := .type "list", data := .seq vs.toArray } (.lst (ns.map V.int))) else none) KX hns hb hbb hlim hg ⟨fun b u z => ?_, fun b u z => ?_⟩ hr F hbind (hsp _ (.inl (.inr ⟨_, if_pos rfl⟩)))
    · obtain ⟨rfl, rfl⟩ := get b u z
      exact ⟨ha, by rw [List.length_map]; exact hl, vs, _, rv, ha⟩
    · obtain ⟨rfl, rfl⟩ := get b u z
      exact ⟨rfl, hk, _, _, rfl, _, _, rfl⟩
end
/-- what k_head leaves open -/
theorem walk_G {l : PySem.W.OpenLaw} {n k : Nat} {q : Program} {loose : List Str} {XP : (Str → Option Value) → Heap → Prop} {YP : World → Heap → Prop} {d : DefRec} {K : Params → PySem.W.Frag} {sp : World → Sp} {x : Str}
    (hn : l.most = some n) (hn2 : n ≤ sizeLine) (hdf : d.params.defaults = []) (hr : Room k callerA) (hY : ∀ (w : World) (h : Heap), YP w h → (K w.params).In h)
    (F : ∀ (w : World) (mg : Str → Option Value) (fa : Addr) (h : Heap), (K w.params).In h → h.Ns mainGlobals mg → mg d.name = some (.ref fa) → ∃ fd : FuncData, (∀ (s : Shared) (u : Value), BindsTo s fd ⟨[u], []⟩ [(x, u)]) ∧
      ∀ base : Heap, (K w.params).In base → base.Ns mainGlobals mg → FnG l.prog w (K w.params) mg base k fa fd [x] (sp w))
    (hsp : ∀ (w : World) (H : Hp) (a : Addr) (ns : List Int), ns.length ≤ n → (∀ z ∈ ns, Builtin.Int.intBits z ≤ 1048576) → SqL (K w.params) H a (ns.map V.int) → sp w [.ref a] H (fun v _ => v = .bl true) E0) :
    PySem.W.WalkO q loose XP YP l.row.toRowW d [] (fun f vs => PySem.call f vs) := by
  refine Att.attach_callB hn hdf fun w s₀ s₁ mg mb fa o pm cd doc a vs ns G Y ho hd hcd hmg hobj hints hlen hbits hg => ?_
  have KX := hY w _ Y
  obtain ⟨fd, hb, hF⟩ := F w mg fa _ KX G.T.g hmg
  exact law_goes_any KX G.T.g G.T.b G.T.builtins G.T.nolimit hg hobj hints (Nat.le_trans hlen hn2) hr hF hb fun H hS => hsp w H a ns hlen hbits hS
end Ld
/-! Things that a law draws: data, with a small dict at most. -/
namespace Ld
open PySem L2 PyProof.Rows
/-- data without a dict, or a dict of at most one text -/
inductive Lf (K : PySem.W.Frag) (H : Hp) : V → PyData → Prop
  | dat {v : V} {d : PyData} : Dp K H v d → Lf K H v d
  | dct0 {a : Addr} : H a = some (.dK []) → Lf K H (.ref a) (.dict [])
  | dct1 {a : Addr} {x y : Str} : H a = some (.dK [(Sum.inr x, .str y)]) → Lf K H (.ref a) (.dict [(.str x, .str y)])
/-- such a one, or a tuple of words with such a one among them -/
inductive Th (K : PySem.W.Frag) (H : Hp) : V → PyData → Prop
  | lf {v : V} {d : PyData} : Lf K H v d → Th K H v d
  | tup {a : Addr} {ws us : List Str} {v : V} {d : PyData} : SqT K H a (ws.map V.str ++ v :: us.map V.str) → Lf K H v d → Th K H (.ref a) (.tuple (ws.map PyData.str ++ d :: us.map PyData.str))
section
variable {K : PySem.W.Frag} {H H' : Hp} {v : V} {d : PyData} {wa : Addr}
theorem Lf.same (s : Same H H') (h : Lf K H v d) : Lf K H' v d := by
  cases h with
  | dat h => exact .dat (dp_same s h)
  | dct0 h => exact .dct0 (s _ _ h)
  | dct1 h => exact .dct1 (s _ _ h)
theorem Th.same (s : Same H H') (h : Th K H v d) : Th K H' v d := by
  cases h with
  | lf h => exact .lf (h.same s)
  | tup a h => exact .tup (same_T s a) (h.same s)
theorem Lf.sb (W : Well H wa) (s : Sb wa H H') (h : Lf K H v d) : Lf K H' v d := by
  cases h with
  | dat h => exact .dat (dp_sb W s h)
  | dct0 h => exact .dct0 (s _ _ (W.ne h (by show (0 : Nat) ≠ 2; decide)) h)
  | dct1 h => exact .dct1 (s _ _ (W.ne h (by show (1 : Nat) ≠ 2; decide)) h)
theorem Th.sb (W : Well H wa) (s : Sb wa H H') (h : Th K H v d) : Th K H' v d := by
  cases h with
  | lf h => exact .lf (h.sb W s)
  | tup a h => exact .tup (seqT W s a) (h.sb W s)
end
/-! ### what repr needs of it -/
mutual
theorem dp_nodict {K : PySem.W.Frag} {H : Hp} : ∀ (d : PyData) (v : V), Dp K H v d → d.hasDict = false
  | .none, _, _ => rfl
  | .bool _, _, _ => rfl
  | .int _, _, _ => rfl
  | .str _, _, _ => rfl
  | .list ds, _, h => by
    cases h with
    | lst a b => simpa [PyData.hasDict] using dpAll_nodict ds _ b
  | .tuple ds, _, h => by
    cases h with
    | tup a b => simpa [PyData.hasDict] using dpAll_nodict ds _ b
  | .dict _, _, h => by cases h
theorem dpAll_nodict {K : PySem.W.Frag} {H : Hp} : ∀ (ds : List PyData) (vs : List V), DpAll K H vs ds → PyData.hasDictAll ds = false
  | [], _, _ => rfl
  | d :: ds, _, h => by
    cases h with
    | cons a b => simp [PyData.hasDictAll, dp_nodict d _ a, dpAll_nodict ds _ b]
end
section
variable {K : PySem.W.Frag} {P : Program} {w : World} {H : Hp} {h : Heap}
mutual
theorem dp_reads (ok : HOk P w H h) (kin : K.In h) : ∀ (d : PyData) (v : V) (u : Value), Dp K H v d → RelV v u → ∃ as, Reads h u d as
  | .none, _, _, z, r => by cases z; cases r; exact ⟨_, .none⟩
  | .bool b, _, _, z, r => by cases z; cases r; exact ⟨_, .bool b⟩
  | .int i, _, _, z, r => by cases z; obtain ⟨t, rfl⟩ := r; exact ⟨_, .int i t⟩
  | .str x, _, _, z, r => by cases z; obtain ⟨t, rfl⟩ := r; exact ⟨_, .str x t⟩
  | .list ds, _, _, z, r => by
    cases z with
    | lst hs ha =>
      cases r
      rcases hs with hs | ⟨o, its, n, hk, hc, hd, hs, hz, rv⟩
      · obtain ⟨z, its, n, rv, e⟩ := hs.ok ok
        obtain ⟨as, hr⟩ := dpAll_reads ok kin ds _ its ha rv
        exact ⟨_, .list e rfl rfl hr⟩
      · obtain ⟨as, hr⟩ := dpAll_reads ok kin ds _ its.toList ha rv
        exact ⟨_, .list (kin _ o hk) hc hs hr⟩
  | .tuple ds, _, _, z, r => by
    cases z with
    | tup hs ha =>
      cases r
      rcases hs with hs | ⟨o, its, n, hk, hc, hs, hz, rv⟩
      · obtain ⟨z, its, rv, o, e, c, n, dt⟩ := hs.ok ok
        obtain ⟨as, hr⟩ := dpAll_reads ok kin ds _ its ha rv
        exact ⟨_, .tuple e c dt hr⟩
      · obtain ⟨as, hr⟩ := dpAll_reads ok kin ds _ its.toList ha rv
        exact ⟨_, .tuple (kin _ o hk) hc hs hr⟩
  | .dict _, _, _, z, _ => by cases z
theorem dpAll_reads (ok : HOk P w H h) (kin : K.In h) : ∀ (ds : List PyData) (vs : List V) (us : List Value), DpAll K H vs ds → Vals vs us → ∃ as, ReadsAll h us ds as
  | [], _, _, z, r => by cases z; cases r; exact ⟨_, .nil⟩
  | d :: ds, _, _, z, r => by
    cases z with
    | cons h1 h2 =>
      cases r with
      | cons r1 r2 =>
        obtain ⟨as, q1⟩ := dp_reads ok kin d _ _ h1 r1
        obtain ⟨bs, q2⟩ := dpAll_reads ok kin ds _ _ h2 r2
        exact ⟨_, .cons q1 q2⟩
end
theorem reads_strs : ∀ (ws : List Str) (us : List Value), Vals (ws.map V.str) us → ReadsAll h us (ws.map PyData.str) []
  | [], _, r => by cases r; exact .nil
  | w :: ws, _, r => by
    cases r with
    | cons r1 r2 =>
      obtain ⟨t, rfl⟩ := r1
      exact .cons (as := []) (bs := []) (.str w t) (reads_strs ws _ r2)
theorem readsAll_append : ∀ {us vs : List Value} {ds es : List PyData} {as bs : List Addr}, ReadsAll h us ds as → ReadsAll h vs es bs → ReadsAll h (us ++ vs) (ds ++ es) (as ++ bs)
  | _, _, _, _, _, _, .nil, r => r
  | _, _, _, _, _, bs, .cons (as := as) (bs := cs) a b, r => by
    rw [List.append_assoc]
    exact .cons a (readsAll_append b r)
theorem Lf.rds {v : V} {d : PyData} (z : Lf K H v d) : Rds K P w H v d := fun h ok kin u r => by
  cases z with
  | dat z =>
    obtain ⟨as, q⟩ := dp_reads ok kin d v u z r
    exact ⟨as, q, fun e => by rw [dp_nodict d v z] at e; cases e⟩
  | @dct0 a z =>
    cases r
    obtain ⟨_, hm, vs, kv, o, es, ep, e1, e2, e3, _, e4, _⟩ := dk_of ok z
    cases kv
    have e5 : es.toList = [] := by
      cases hh : es.toList with
      | nil => rfl
      | cons x y => rw [hh] at e4; cases e4
    refine ⟨_, .dict (kvs := []) (as := []) (bs := []) e1 e2.1 e3 (by rw [e5]; exact .nil) (by rw [e5]; exact .nil), fun _ hin => ?_⟩
    rcases List.mem_cons.mp hin with q | q
    · rw [← q] at hm
      exact absurd hm (by decide)
    · cases q
  | @dct1 a x y z =>
    cases r
    obtain ⟨_, hm, vs, kv, o, es, ep, e1, e2, e3, _, e4, _⟩ := dk_of ok z
    cases kv with
    | @cons _ kv1 _ _ q kv2 =>
      cases kv2
      obtain ⟨q1, q2⟩ := q
      obtain ⟨k1, v1⟩ := kv1
      cases q1
      obtain ⟨t, (rfl : v1 = _)⟩ := q2
      cases hh : es.toList with
      | nil => rw [hh] at e4; cases e4
      | cons x1 x2 =>
        rw [hh] at e4
        cases e4 with
        | cons g1 g2 g3 =>
          cases g3
          have g4 : ∃ t', x1.key = .str x t' := by
            rcases keyIs_shape (show keyIs (.inr x) x1.key = true from g1) with ⟨i, t', z1, _⟩ | ⟨y', t', z1, z2⟩
            · cases z1
            · cases z1
              exact ⟨t', z2⟩
          obtain ⟨t', g4⟩ := g4
          refine ⟨_, .dict (kvs := [(.str x, .str y)]) (as := []) (bs := []) e1 e2.1 e3 ?_ ?_, fun _ hin => ?_⟩
          · rw [hh]
            show ReadsAll h [x1.key] [PyData.str x] []
            rw [g4]
            exact .cons (as := []) (bs := []) (.str x t') .nil
          · rw [hh]
            show ReadsAll h [x1.val] [PyData.str y] []
            rw [g2]
            exact .cons (as := []) (bs := []) (.str y t) .nil
          · rcases List.mem_cons.mp hin with q | q
            · rw [← q] at hm
              exact absurd hm (by decide)
            · cases q
theorem reads_cut (ws us : List Str) {v : V} {l : List Value} (r : Vals (ws.map V.str ++ v :: us.map V.str) l) : ∃ l1 u l2, l = l1 ++ u :: l2 ∧ Vals (ws.map V.str) l1 ∧ RelV v u ∧ Vals (us.map V.str) l2 := by
  induction ws generalizing l with
  | nil =>
    cases r with
    | cons r1 r2 => exact ⟨[], _, _, rfl, .nil, r1, r2⟩
  | cons w ws ih =>
    cases r with
    | cons r1 r2 =>
      obtain ⟨l1, u, l2, e, a, b, c⟩ := ih r2
      exact ⟨_ :: l1, u, l2, by rw [e]; rfl, .cons r1 a, b, c⟩
theorem hasDict_strs : ∀ ws : List Str, PyData.hasDictAll (ws.map PyData.str) = false
  | [] => rfl
  | w :: ws => by simp [PyData.hasDictAll, PyData.hasDict, hasDict_strs ws]
theorem hasDict_append : ∀ ds es : List PyData, PyData.hasDictAll (ds ++ es) = (PyData.hasDictAll ds || PyData.hasDictAll es)
  | [], es => by simp [PyData.hasDictAll]
  | d :: ds, es => by
    rw [List.cons_append]
    simp only [PyData.hasDictAll, hasDict_append ds es, Bool.or_assoc]
theorem Th.rds {v : V} {d : PyData} (z : Th K H v d) : Rds K P w H v d := fun h ok kin u r => by
  cases z with
  | lf z => exact z.rds h ok kin u r
  | @tup a ws us v d ha hv =>
    cases r
    have core : ∀ l, Vals (ws.map V.str ++ v :: us.map V.str) l → ∃ as, ReadsAll h l (ws.map PyData.str ++ d :: us.map PyData.str) as ∧ (d.hasDict = true → ¬ sysModules ∈ as) := fun l rl => by
      obtain ⟨l1, u, l2, rfl, r1, r2, r3⟩ := reads_cut ws us rl
      obtain ⟨as, q1, q2⟩ := hv.rds (P := P) (w := w) h ok kin u r2
      refine ⟨[] ++ (as ++ []), readsAll_append (reads_strs ws l1 r1) (.cons q1 (reads_strs us l2 r3)), ?_⟩
      simpa using q2
    have hd : (PyData.tuple (ws.map PyData.str ++ d :: us.map PyData.str)).hasDict = d.hasDict := by
      show PyData.hasDictAll (ws.map PyData.str ++ d :: us.map PyData.str) = _
      rw [hasDict_append, hasDict_strs]
      simp [PyData.hasDictAll, hasDict_strs]
    rcases ha with hs | ⟨o, its, n, hk, hc, hs, hz, rv⟩
    · obtain ⟨z, its, rv, o, e, c, n, dt⟩ := hs.ok ok
      obtain ⟨as, q1, q2⟩ := core its rv
      exact ⟨as, .tuple e c dt q1, by rw [hd]; exact q2⟩
    · obtain ⟨as, q1, q2⟩ := core its.toList rv
      exact ⟨as, .tuple (kin _ o hk) hc hs q1, by rw [hd]; exact q2⟩
end
/-! ### its kind -/
def kindOf : PyData → String
  | .none => "NoneType"
  | .bool _ => "bool"
  | .int _ => "int"
  | .str _ => "str"
  | .list _ => "list"
  | .tuple _ => "tuple"
  | .dict _ => "dict"
section
variable {K : PySem.W.Frag} {H : Hp} {v : V} {d : PyData}
theorem Dp.ty (z : Dp K H v d) : TyX K H v (.type (kindOf d)) := by
  cases z with
  | non => exact .base .non
  | bl b => exact .base (.bl b)
  | int i => exact .base (.int i)
  | str x => exact .base (.str x)
  | lst hs _ =>
    rcases hs with (hs | ⟨o, hs⟩) | ⟨o, its, n, hk, hc, _⟩
    · exact .base (.lst hs)
    · exact .base (.frz hs)
    · exact .kList hk hc
  | tup hs _ =>
    rcases hs with (hs | ⟨o, hs⟩) | ⟨o, its, n, hk, hc, _⟩
    · exact .base (.tup hs)
    · exact .fTuple hs
    · exact .kTuple hk hc
theorem Lf.ty (z : Lf K H v d) : TyX K H v (.type (kindOf d)) := by
  cases z with
  | dat z => exact Dp.ty z
  | dct0 z => exact .base (.dK z)
  | dct1 z => exact .base (.dK z)
theorem Th.ty (z : Th K H v d) : TyX K H v (.type (kindOf d)) := by
  cases z with
  | lf z => exact z.ty
  | tup hs _ =>
    rcases hs with (hs | ⟨o, hs⟩) | ⟨o, its, n, hk, hc, _⟩
    · exact .base (.tup hs)
    · exact .fTuple hs
    · exact .kTuple hk hc
def isStrD : PyData → Bool
  | .str _ => true
  | _ => false
def isTupD : PyData → Bool
  | .tuple _ => true
  | _ => false
def isIntD : PyData → Bool
  | .int _ => true
  | .bool _ => true
  | _ => false
def isBoolD : PyData → Bool
  | .bool _ => true
  | _ => false
theorem kit_str (d : PyData) : PySem.W.kitOne K (.type (kindOf d)) (.type "str") = some (isStrD d) := by
  cases d <;> (simp only [kindOf, isStrD, isTupD, isIntD, isBoolD]; exact kit_ty (by decide +kernel))
theorem kit_tuple (d : PyData) : PySem.W.kitOne K (.type (kindOf d)) (.type "tuple") = some (isTupD d) := by
  cases d <;> (simp only [kindOf, isStrD, isTupD, isIntD, isBoolD]; exact kit_ty (by decide +kernel))
theorem kit_int (d : PyData) : PySem.W.kitOne K (.type (kindOf d)) (.type "int") = some (isIntD d) := by
  cases d <;> (simp only [kindOf, isStrD, isTupD, isIntD, isBoolD]; exact kit_ty (by decide +kernel))
theorem kit_bool (d : PyData) : PySem.W.kitOne K (.type (kindOf d)) (.type "bool") = some (isBoolD d) := by
  cases d <;> (simp only [kindOf, isStrD, isTupD, isIntD, isBoolD]; exact kit_ty (by decide +kernel))
/-- the items of a tuple, each with its data -/
def Its (K : PySem.W.Frag) (H : Hp) (xs : List V) (ds : List PyData) : Prop := xs.length = ds.length ∧ ∀ (i : Nat) (x : V), xs[i]? = some x → ∃ d, ds[i]? = some d ∧ Lf K H x d
theorem its_of : ∀ {xs : List V} {ds : List PyData}, DpAll K H xs ds → Its K H xs ds
  | _, _, .nil => ⟨rfl, fun i x e => by simp at e⟩
  | _, _, .cons a b => by
    obtain ⟨h1, h2⟩ := its_of b
    refine ⟨by simp [h1], fun i x e => ?_⟩
    cases i with
    | zero =>
      simp at e
      subst e
      exact ⟨_, rfl, .dat a⟩
    | succ i =>
      obtain ⟨d, q1, q2⟩ := h2 i x (by simpa using e)
      exact ⟨d, by simpa using q1, q2⟩
theorem Th.its {ds : List PyData} (z : Th K H v (.tuple ds)) : ∃ a xs, v = .ref a ∧ SqT K H a xs ∧ Its K H xs ds := by
  cases z with
  | lf z =>
    cases z with
    | dat z =>
      cases z with
      | tup hs ha => exact ⟨_, _, rfl, hs, its_of ha⟩
  | @tup a ws us v d ha hv =>
    refine ⟨_, _, rfl, ha, by simp, fun i x e => ?_⟩
    by_cases h1 : i < ws.length
    · rw [List.getElem?_append_left (by simpa using h1), List.getElem?_map] at e
      cases g : ws[i]? with
      | none => rw [g] at e; cases e
      | some y =>
        rw [g] at e
        cases e
        exact ⟨.str y, by rw [List.getElem?_append_left (by simpa using h1), List.getElem?_map, g]; rfl, .dat (.str y)⟩
    · rw [List.getElem?_append_right (by simpa using h1), List.length_map] at e
      cases h2 : i - ws.length with
      | zero =>
        rw [h2] at e
        cases e
        exact ⟨d, by rw [List.getElem?_append_right (by simpa using h1), List.length_map, h2]; rfl, hv⟩
      | succ j =>
        rw [h2] at e
        have e : (us.map V.str)[j]? = some x := by simpa using e
        rw [List.getElem?_map] at e
        cases g : us[j]? with
        | none => rw [g] at e; cases e
        | some y =>
          rw [g] at e
          cases e
          refine ⟨.str y, ?_, .dat (.str y)⟩
          rw [List.getElem?_append_right (by simpa using h1), List.length_map, h2]
          show (us.map PyData.str)[j]? = some (PyData.str y)
          rw [List.getElem?_map, g]
          rfl
end
end Ld
/-! Words, letter by letter. -/
namespace Ld
open PySem L2 PyProof.Rows
def low (c : Nat) : Bool := decide (97 ≤ c) && decide (c ≤ 122)
def lows (z : Str) : Bool := z.cps.toList.all low
def wordS (z : Str) : Bool := decide (1 ≤ z.length) && decide (z.length ≤ 12) && lows z
theorem sign_facts : ∀ c : Fin 128, (Unicode.isAlpha c.val && !(Unicode.isUpper c.val || Unicode.isTitle c.val)) = low c.val ∧ (low c.val = true → Unicode.isLower c.val = true) := by decide +kernel
theorem sign_fact {c : Nat} (h : c < 128) : (Unicode.isAlpha c && !(Unicode.isUpper c || Unicode.isTitle c)) = low c ∧ (low c = true → Unicode.isLower c = true) := sign_facts ⟨c, h⟩
theorem low_lt {c : Nat} (h : low c = true) : c < 128 := by
  simp only [low, Bool.and_eq_true, decide_eq_true_eq] at h
  omega
theorem arr_all (z : Str) (p : Nat → Bool) : z.cps.all p = z.cps.toList.all p := by simp
theorem arr_any (z : Str) (p : Nat → Bool) : z.cps.any p = z.cps.toList.any p := by simp
theorem lows_eq {z : Str} (h : 1 ≤ z.length) : (Txt.isascii z && (Txt.isalpha z && Txt.islower z)) = lows z := by
  unfold Txt.isascii Txt.isalpha Txt.islower lows
  rw [arr_all, arr_all, arr_any, arr_any]
  have hl : (decide (z.length > 0)) = true := decide_eq_true h
  have hl2 : z.cps.toList.length = z.length := by simp [Str.length]
  rw [hl, Bool.true_and]
  generalize z.cps.toList = l at hl2
  rw [Bool.eq_iff_iff]
  simp only [Bool.and_eq_true, List.all_eq_true, List.any_eq_true, Bool.not_eq_true', decide_eq_true_eq]
  constructor
  · rintro ⟨h1, h2, _, h4⟩ c hc
    have f := (sign_fact (h1 c hc)).1
    rw [← f, Bool.and_eq_true]
    refine ⟨h2 c hc, ?_⟩
    have h5 := List.any_eq_false.mp h4 c hc
    simpa using h5
  · intro hh
    have f : ∀ c ∈ l, c < 128 ∧ Unicode.isAlpha c = true ∧ (Unicode.isUpper c || Unicode.isTitle c) = false ∧ Unicode.isLower c = true := fun c hc => by
      have h0 := hh c hc
      have h1 := low_lt h0
      obtain ⟨f1, f2⟩ := sign_fact h1
      rw [h0, Bool.and_eq_true] at f1
      exact ⟨h1, f1.1, by simpa using f1.2, f2 h0⟩
    refine ⟨fun c hc => (f c hc).1, fun c hc => (f c hc).2.1, ?_, List.any_eq_false.mpr fun c hc => by rw [(f c hc).2.2.1]; simp⟩
    cases l with
    | nil =>
      simp at hl2
      omega
    | cons c r => exact ⟨c, List.mem_cons_self, (f c List.mem_cons_self).2.2.2⟩
theorem one_lt (a b : Nat) : decide (([a] : List Nat) < [b]) = decide (a < b) := by
  by_cases h : a < b
  · rw [decide_eq_true h, decide_eq_true]
    exact List.Lex.rel h
  · rw [decide_eq_false h, decide_eq_false]
    intro z
    cases z with
    | rel q => exact h q
    | cons q => cases q
/-- what the data says -/
def numD (hi : Int) : PyData → Bool
  | .int i => decide (0 ≤ i) && decide (i ≤ hi)
  | _ => false
def wordD : PyData → Bool
  | .str z => wordS z
  | _ => false
def addrD : PyData → Bool
  | .tuple ds => ds.all wordD
  | _ => false
/-- a short text of plain signs -/
def Asc (z : Str) : Prop := z.length ≤ 100 ∧ ∀ c ∈ z.cps.toList, c < 128
def FitS (d : PyData) : Prop := ∀ z, d = .str z → Asc z
def Fits (d : PyData) : Prop := FitS d ∧ ∀ ds, d = .tuple ds → ds.length ≤ 10000 ∧ ∀ e ∈ ds, FitS e
theorem Asc.size {z : Str} (h : Asc z) : z.length ≤ sizeLine := Nat.le_trans h.1 (by decide)
theorem FitS.of {d : PyData} (h : ∀ z, d ≠ .str z) : FitS d := fun z e => absurd e (h z)
end Ld
/-! Short rules. -/
namespace Ld
open PySem L2 PyProof.Rows
section
variable {X : Cx}
theorem PE.conv {e : Expr} {t t' : TE} (h : PE X e t') (c : ∀ σ H Q, t σ H Q → t' σ H Q) : PE X e t := ⟨fun pins s σ H Q I z => h.run pins s σ H Q I (c σ H Q z)⟩
theorem PT.conv {e : Expr} {t t' : TT} (h : PT X e t') (c : ∀ σ H Q, t σ H Q → t' σ H Q) : PT X e t := ⟨fun pins s σ H Q I z => h.run pins s σ H Q I (c σ H Q z)⟩
theorem OpR.conv {f : Value → Value → Sem Value} {r r' : R2} (h : OpR X f r') (c : ∀ x y H Q, r x y H Q → r' x y H Q) : OpR X f r := fun pins s σ H x y v u Q I rx ry z => h pins s σ H x y v u Q I rx ry (c x y H Q z)
theorem CallR.conv {f : Value} {r r' : List V → Hp → VK → Prop} (h : CallR X f r') (c : ∀ xs H Q, r xs H Q → r' xs H Q) : CallR X f r := fun pins s σ H xs us Q I r z => h pins s σ H xs us Q I r (c xs H Q z)
/-- isinstance(a, T) -/
def rIsa (K : PySem.W.Frag) (T : String) (x : V) (H : Hp) (Q : VK) : Prop := ∃ t b, TyX K H x t ∧ PySem.W.kitOne K t (.type T) = some b ∧ Q (.bl b) H
theorem call_isa (T : String) : CallR X (.builtin "isinstance") (fun xs H Q => ∃ x, xs = [x, .ty T] ∧ rIsa X.K T x H Q) := CallR.conv call_isi fun xs H Q ⟨x, e, t, b, h1, h2, q⟩ => ⟨x, .ty T, t, .type T, b, e, .ty T, h1, h2, q⟩
/-- t[lo:hi], whatever object it is -/
def rSlW (K : PySem.W.Frag) : V → Option Int → Option Int → Hp → VK → Prop := fun x lo hi H Q => ∃ a xs, x = .ref a ∧ SqT K H a xs ∧ ∀ r H', Same H H' → SqT K H' r (cutV xs lo hi) → Q (.ref r) H'
theorem cut_whole {xs : List V} {lo hi : Option Int} (h : HT.sIx xs.length 0 lo = 0 ∧ HT.sIx xs.length xs.length hi = xs.length) : cutV xs lo hi = xs := by
  unfold cutV
  rw [h.1, h.2, List.drop_zero, Nat.sub_zero, List.take_length]
theorem sl_tupW : SlR X (rSlW X.K) := by
  intro pins s σ H x v vl vu lo hi sl Q I rx hs pl pu h
  obtain ⟨a, xs, rfl, hx, q⟩ := h
  exact sl_tupA pins s σ H _ v vl vu lo hi sl Q I rx hs pl pu ⟨a, xs, rfl, hx, fun hw => q a H (Same.refl H) (by rw [cut_whole hw]; exact hx), fun _ p hp => q p _ (Same.new hp) (.of upd_same)⟩
/-- t + u, whatever object it is -/
def rCatW (K : PySem.W.Frag) : R2 := fun x y H Q => ∃ a b xs ys, x = .ref a ∧ y = .ref b ∧ SqT K H a xs ∧ SqT K H b ys ∧ xs.length + ys.length ≤ sizeLine ∧ ∀ r H', Same H H' → SqT K H' r (xs ++ ys) → Q (.ref r) H'
theorem op_catW : OpR X (binaryOp .Add) (rCatW X.K) := OpR.conv op_catA fun x y H Q ⟨a, b, xs, ys, e1, e2, h1, h2, hz, q⟩ => by
  refine ⟨a, b, xs, ys, e1, e2, h1, h2, hz, fun e => ?_, fun _ e => ?_, fun _ _ p hp => q p _ (Same.new hp) (.of upd_same)⟩
  · subst e
    exact q b H (Same.refl H) h2
  · subst e
    exact q a H (Same.refl H) (by rw [List.append_nil]; exact h1)
/-- a tuple displayed, a list displayed: what is said of them -/
theorem bootN : bootBuiltins "isinstance" = some (.builtin "isinstance") := by decide +kernel
end
end Ld
namespace Ld
open PySem L2 PyProof.Rows
/-- f(..) of a def without default values that lets nothing out -/
structure Df (P : Program) (w : World) (K : PySem.W.Frag) (mg : Str → Option Value) (base : Heap) (k : Nat) (x : Str) (ps : List Str) (sp : Sp) : Prop where
  ex : ∃ f fd, mg x = some (.ref f) ∧ PySem.W.keepIn K (.ref f) = true ∧ Binds K fd ps [] ∧ FnOk P w K mg base CX0 k f fd ps sp
structure DfG (P : Program) (w : World) (K : PySem.W.Frag) (mg : Str → Option Value) (base : Heap) (k : Nat) (x : Str) (ps : List Str) (sp : Sp) : Prop where
  ex : ∃ f fd, mg x = some (.ref f) ∧ PySem.W.keepIn K (.ref f) = true ∧ Binds K fd ps [] ∧ FnG P w K mg base k f fd ps sp
def tDf (sp : Sp) (t : TA) : TE := fun σ H Q => t σ H fun vs H1 => sp vs H1 Q E0
section
variable {X : Cx} {k : Nat} {ps : List Str} {sp : Sp} {x : Str} {p pos : Pos} {e : Expr} {es : List Expr} {t : TA}
theorem pe_df {j : Nat} (D : Df X.prog X.w X.K X.mg X.base k x ps sp) (hr : Room j X.A) (ha : PA X (e :: es) t) (hj : k ≤ j := by decide) (hg : Gl X x := by rfl) (hdb : (x == ("__debug__" : Str)) = false := by decide) (he : starEach (e :: es) X.env = (false, eval e X.env) :: starEach es X.env := by rfl)
    (hpl : (backTo pos (starEach es X.env)).any (·.1) = false := by rfl) : PE X (.Call (.Name x p) (e :: es) [] pos) (tDf sp t) := by
  obtain ⟨f, fd, h1, h2, h3, h4⟩ := D.ex
  have z := pe_call (pos := pos) (p := p) h4 (hr.mono hj) hg h1 h2 h3 .nil pass0 ha hdb he hpl
  have e : tCall sp [] E0 t = tDf sp t := by
    funext σ H Q
    unfold tCall tDf
    simp only [List.append_nil]
  rw [e] at z
  exact z
theorem pe_dfG {j : Nat} (D : DfG X.prog X.w X.K X.mg X.base k x ps sp) (hG : X.A.guards = some []) (hr : Room j X.A) (ha : PA X (e :: es) t) (hj : k ≤ j := by decide) (hg : Gl X x := by rfl) (hdb : (x == ("__debug__" : Str)) = false := by decide)
    (he : starEach (e :: es) X.env = (false, eval e X.env) :: starEach es X.env := by rfl) (hpl : (backTo pos (starEach es X.env)).any (·.1) = false := by rfl) : PE X (.Call (.Name x p) (e :: es) [] pos) (tDf sp t) := by
  obtain ⟨f, fd, h1, h2, h3, h4⟩ := D.ex
  have z := pe_callG (pos := pos) (p := p) h4 hG (hr.mono hj) hg h1 h2 h3 ha hdb he hpl
  have e : tCall sp [] E0 t = tDf sp t := by
    funext σ H Q
    unfold tCall tDf
    simp only [List.append_nil]
  rw [e] at z
  exact z
end
section
variable {K : PySem.W.Frag} {H : Hp} {v : V}
theorem Th.int_v {i : Int} (h : Th K H v (.int i)) : v = .int i := by
  cases h with
  | lf h => cases h with
    | dat h => cases h; rfl
theorem Th.str_v {z : Str} (h : Th K H v (.str z)) : v = .str z := by
  cases h with
  | lf h => cases h with
    | dat h => cases h; rfl
end
end Ld
namespace Ld
open PySem L2 PyProof.Rows
/-! ### over the signs of a text -/
theorem lc_str {x : Str} {g : TG} {tt : TT} {te : TE} {vs : List Nat} {σ : L2.St} {H1 : Hp} {D : Addr} {Qd : Hp → Prop} (Pv : Nat → Hp → Prop) (h0 : Pv 0 (upd H1 D (.lst [])))
    (hs : ∀ i c H, x.cps[i]? = some c → Pv i H → g (.str ⟨#[c]⟩) (wipe σ vs) H fun σ2 H2 => wipe σ2 vs = wipe σ vs ∧ tt σ2 H2 fun b H3 =>
      if b = true then te σ2 H3 fun y H4 => ∃ acc, H4 D = some (.lst acc) ∧ acc.length < sizeLine ∧ Pv (i + 1) (upd H4 D (.lst (acc ++ [y]))) else Pv (i + 1) H3) (hd : ∀ H, Pv x.cps.size H → Qd H) :
    ∃ W : Nat → Nat → Hp → Prop, (∃ m, W 0 m (upd H1 D (.lst []))) ∧ ∀ i m H, W i m H →
      ((L2.Its x).stop i H ∧ Qd H) ∨ ((L2.Its x).go i H ∧ ∃ Nx : Hp → Prop, (∀ H', Nx H' → ∃ m', m' < m ∧ W (i + 1) m' H') ∧ ∀ v H', (L2.Its x).yld i H v H' → g v (wipe σ vs) H' fun σ2 H2 => wipe σ2 vs = wipe σ vs ∧ tt σ2 H2 fun b H3 =>
        if b = true then te σ2 H3 fun y H4 => ∃ acc, H4 D = some (.lst acc) ∧ acc.length < sizeLine ∧ Nx (upd H4 D (.lst (acc ++ [y]))) else Nx H3) := by
  refine ⟨fun i m H => m + i = x.cps.size ∧ Pv i H, ⟨x.cps.size, rfl, h0⟩, fun i m H ⟨e, p⟩ => ?_⟩
  by_cases hlt : i < x.cps.size
  · refine Or.inr ⟨hlt, Pv (i + 1), fun H' p' => ⟨m - 1, by omega, by omega, p'⟩, fun v H' y => ?_⟩
    obtain ⟨rfl, c, hc, rfl⟩ := y
    exact hs i c H' hc p
  · have e2 : i = x.cps.size := by omega
    subst e2
    exact Or.inl ⟨Nat.le_refl _, hd H p⟩
theorem for_str {x : Str} {g : TG} {tb : TS} {D : Ends} {σ : L2.St} {H : Hp} (Pv : Nat → L2.St → Hp → Prop) (h0 : Pv 0 σ H)
    (hs : ∀ i c σ H, x.cps[i]? = some c → Pv i σ H → g (.str ⟨#[c]⟩) σ H fun σ2 H2 => tb { D with nx := Pv (i + 1), ct := Pv (i + 1), bk := D.nx } σ2 H2) (hd : ∀ σ H, Pv x.cps.size σ H → D.nx σ H) :
    ∃ W : Nat → Nat → L2.St → Hp → Prop, (∃ m, W 0 m σ H) ∧ ∀ i m σ H, W i m σ H → ((L2.Its x).stop i H ∧ D.nx σ H) ∨ ((L2.Its x).go i H ∧ ∃ N : L2.St → Hp → Prop, (∀ σ' H', N σ' H' → ∃ m', m' < m ∧ W (i + 1) m' σ' H') ∧
      ∀ v H', (L2.Its x).yld i H v H' → g v σ H' fun σ2 H2 => tb { D with nx := N, ct := N, bk := D.nx } σ2 H2) := by
  refine ⟨fun i m σ H => m + i = x.cps.size ∧ Pv i σ H, ⟨x.cps.size, rfl, h0⟩, fun i m σ H ⟨e, p⟩ => ?_⟩
  by_cases hlt : i < x.cps.size
  · refine Or.inr ⟨hlt, Pv (i + 1), fun σ' H' p' => ⟨m - 1, by omega, by omega, p'⟩, fun v H' y => ?_⟩
    obtain ⟨rfl, c, hc, rfl⟩ := y
    exact hs i c σ H' hc p
  · have e2 : i = x.cps.size := by omega
    subst e2
    exact Or.inl ⟨Nat.le_refl _, hd σ H p⟩
/-! ### a list compared with the empty one -/
theorem eqv_nil_tuple (ds : List PyData) : PyData.eqv (.list ds) (.list []) = ds.isEmpty := by
  cases ds <;> rfl
end Ld
namespace Ld
open PySem L2 PyProof.Rows
/-- a list against an empty one, whatever is in it -/
def rEq0 : R2 := fun x y H Q => ∃ a b xs, x = .ref a ∧ y = .ref b ∧ H a = some (.lst xs) ∧ H b = some (.lst []) ∧ Q (.bl xs.isEmpty) H
theorem op_eq0 {X : Cx} (hu : X.A.units + 64 < cLine) : OpR X (compareOp .Eq) rEq0 := by
  intro pins s σ H x y v u Q I rx ry h
  obtain ⟨a, b, xs, rfl, rfl, ha, hb, q⟩ := h
  cases xs with
  | nil => exact op_eqD hu pins s σ H _ _ v u Q I rx ry ⟨.list [], .list [], .lst (.of ha) .nil, .lst (.of hb) .nil, by decide, by decide, q⟩
  | cons y ys =>
    cases rx
    cases ry
    obtain ⟨_, its, n, r, e1⟩ := (show ObjOk X.prog X.w H s.heap a (.lst (y :: ys)) from I.hok a _ ha)
    obtain ⟨_, its2, n2, r2, e2⟩ := (show ObjOk X.prog X.w H s.heap b (.lst []) from I.hok b _ hb)
    cases r2
    refine SeqAt.eq_list_lengthsAt (items := its.toArray) (items2 := ([] : List Value).toArray) ⟨_, e1, rfl, n, rfl⟩ ⟨_, e2, rfl, n2, rfl⟩ ?_ (by omega) ⟨.bl false, H, I, rfl, q⟩
    have := r.length
    simp at this
    simp
    cases its with
    | nil => simp at this
    | cons a b => simp
end Ld
/-! The well's two numbers, and numbers of a script squared. -/
namespace Ld
open PySem L2 PyProof.Rows
def kd : Key := Sum.inr (Str.ofString "digits")
def km : Key := Sum.inr (Str.ofString "mixed")
theorem keys_ne : ¬ (kd = km) := by decide +kernel
theorem keys_ne' : ¬ (km = kd) := fun e => keys_ne e.symm
theorem wellKv_eq (d m : Int) : wellKv d m = [(kd, V.int d), (km, V.int m)] := rfl
theorem well_dig (d m : Int) : valV (wellKv d m) kd = some (.int d) := by
  rw [wellKv_eq]
  exact valV_pos rfl
theorem well_mix (d m : Int) : valV (wellKv d m) km = some (.int m) := by
  rw [wellKv_eq]
  rw [valV_neg keys_ne]
  exact valV_pos rfl
theorem put_dig (d m x : Int) : putK (wellKv d m) kd (.int x) = wellKv x m := by
  unfold putK
  rw [valV_any, well_dig]
  show (if true = true then _ else _) = _
  rw [if_pos rfl]
  rw [wellKv_eq, wellKv_eq]
  show [if kd = kd then (kd, V.int x) else _, if km = kd then (km, V.int x) else (km, V.int m)] = _
  rw [if_pos rfl, if_neg keys_ne']
theorem put_mix (d m x : Int) : putK (wellKv d m) km (.int x) = wellKv d x := by
  unfold putK
  rw [valV_any, well_mix]
  show (if true = true then _ else _) = _
  rw [if_pos rfl]
  rw [wellKv_eq, wellKv_eq]
  show [if kd = km then (kd, V.int x) else (kd, V.int d), if km = km then (km, V.int x) else _] = _
  rw [if_neg keys_ne, if_pos rfl]
theorem merge_well (d m : Int) : mergeK [] [(kd, V.int d), (km, V.int m)] = wellKv d m := by
  show putK (putK [] kd (V.int d)) km (V.int m) = _
  rw [putK_new (kvs := []) _ rfl, List.nil_append, putK_new _ (by rw [valV_neg keys_ne]; rfl)]
  rfl
theorem sq_wide {m e : Int} {n : Nat} (h : e.natAbs < 2 ^ n) (hm : m.natAbs < 2 ^ 60) (hn : 60 ≤ n) : (m + e * e + 59).natAbs < 2 ^ (2 * n + 2) := by
  have h1 : (e * e).natAbs < 2 ^ (2 * n) := by
    rw [Int.natAbs_mul, Nat.two_mul, Nat.pow_add]
    exact Nat.mul_lt_mul'' h h
  have h2 : 2 ^ 60 ≤ 2 ^ (2 * n) := Nat.pow_le_pow_right (by decide) (by omega)
  have h3 : (2 : Nat) ^ (2 * n + 2) = 4 * 2 ^ (2 * n) := by
    rw [Nat.pow_add]
    omega
  rw [h3]
  generalize (2 : Nat) ^ (2 * n) = z at h1 h2
  generalize e * e = s at h1
  have h4 : (2 : Nat) ^ 60 = 1152921504606846976 := by decide
  omega
theorem mul_small {m c : Int} (h0 : 0 ≤ m) (h1 : m < 2 ^ 40) (c0 : 0 ≤ c) (c1 : c < 2 ^ 17) : (m * c).natAbs < 2 ^ 60 := by
  rw [Int.natAbs_mul]
  have a : m.natAbs < 2 ^ 40 := by omega
  have b : c.natAbs < 2 ^ 17 := by omega
  have := Nat.mul_lt_mul'' a b
  exact Nat.lt_of_lt_of_le this (by decide)
theorem bits_small {m : Int} (h0 : 0 ≤ m) (h1 : m < 2 ^ 40) : Builtin.Int.intBits m ≤ 40 := bits_of (by omega)
theorem list_get {ns : List Int} {i : Nat} {x : V} (h : (ns.map V.int)[i]? = some x) : ∃ z, ns[i]? = some z ∧ x = .int z := by
  rw [List.getElem?_map] at h
  cases e : ns[i]? with
  | none => rw [e] at h; cases h
  | some z =>
    rw [e] at h
    exact ⟨z, rfl, (Option.some.inj h).symm⟩
end Ld
/-! Small things: what is drawn is short. -/
namespace Ld
open PySem L2 PyProof.Rows
def ascB (z : Str) : Bool := decide (z.length ≤ 100) && z.cps.toList.all (fun c => decide (c < 128))
theorem asc_of {z : Str} (h : ascB z = true) : Asc z := by
  simp only [ascB, Bool.and_eq_true, decide_eq_true_eq, List.all_eq_true] at h
  exact h
/-- short enough to stand in something -/
structure Part (d : PyData) : Prop where
  fit : FitS d
  sh : d.showable = true
  dp : d.depth ≤ 20
  len : d.shown.length ≤ 2000
def partB (d : PyData) : Bool := (match d with | .str z => ascB z | _ => true) && d.showable && decide (d.depth ≤ 20) && decide (d.shown.length ≤ 2000)
theorem part_of {d : PyData} (h : partB d = true) : Part d := by
  simp only [partB, Bool.and_eq_true, decide_eq_true_eq] at h
  obtain ⟨⟨⟨h1, h2⟩, h3⟩, h4⟩ := h
  refine ⟨fun z e => ?_, h2, h3, h4⟩
  subst e
  exact asc_of h1
theorem part_str {z : Str} (h : Asc z) : Part (.str z) := by
  refine ⟨fun y e => by cases e; exact h, rfl, by show 0 ≤ 20; decide, ?_⟩
  have := PySem.StrLaws.reprText_len z fun c hc => Nat.lt_of_lt_of_le (h.2 c hc) (by decide)
  show (reprText z).length ≤ 2000
  have := h.1
  omega
theorem Part.small {d : PyData} (h : Part d) : Small d := ⟨h.sh, Nat.le_trans h.dp (by decide), Nat.le_trans h.len (by decide)⟩
theorem shows_all : ∀ {ds : List PyData}, (∀ d ∈ ds, Part d) → PyData.showableAll ds = true
  | [], _ => rfl
  | d :: ds, h => by
    simp only [PyData.showableAll, (h d List.mem_cons_self).sh, shows_all fun x hx => h x (List.mem_cons_of_mem _ hx), Bool.and_self]
theorem depth_all : ∀ {ds : List PyData}, (∀ d ∈ ds, Part d) → PyData.depthAll ds ≤ 20
  | [], _ => by show 0 ≤ 20; decide
  | d :: ds, h => by
    have h1 := (h d List.mem_cons_self).dp
    have h2 := depth_all fun x hx => h x (List.mem_cons_of_mem _ hx)
    simp only [PyData.depthAll]
    omega
theorem len_all : ∀ {ds : List PyData}, (∀ d ∈ ds, Part d) → ((PyData.shownAll ds).map (·.length)).sum ≤ 2000 * ds.length ∧ (PyData.shownAll ds).length = ds.length
  | [], _ => ⟨Nat.le_refl _, rfl⟩
  | d :: ds, h => by
    have h1 := (h d List.mem_cons_self).len
    obtain ⟨h2, h3⟩ := len_all fun x hx => h x (List.mem_cons_of_mem _ hx)
    simp only [PyData.shownAll, List.map_cons, List.sum_cons, List.length_cons]
    omega
theorem small_list {ds : List PyData} (h : ∀ d ∈ ds, Part d) (hn : ds.length ≤ 1000) : Small (.list ds) := by
  obtain ⟨h2, h3⟩ := len_all h
  refine ⟨by simpa only [PyData.showable] using shows_all h, ?_, ?_⟩
  · have := depth_all h
    simp only [PyData.depth]
    omega
  · have := listText_len_le (PyData.shownAll ds)
    simp only [PyData.shown]
    rw [sizeLine_eq]
    omega
theorem small_tuple {ds : List PyData} (h : ∀ d ∈ ds, Part d) (hn : ds.length ≤ 1000) : Small (.tuple ds) := by
  obtain ⟨h2, h3⟩ := len_all h
  refine ⟨by simpa only [PyData.showable] using shows_all h, ?_, ?_⟩
  · have := depth_all h
    simp only [PyData.depth]
    omega
  · have := tupleText_len_le (PyData.shownAll ds)
    simp only [PyData.shown]
    rw [sizeLine_eq]
    omega
theorem fits_list {ds : List PyData} : Fits (.list ds) := ⟨(fun z e => by cases e), (fun ds e => by cases e)⟩
theorem fits_tuple {ds : List PyData} (h : ∀ d ∈ ds, Part d) (hn : ds.length ≤ 1000) : Fits (.tuple ds) := ⟨(fun z e => by cases e), (fun es e => by cases e; exact ⟨Nat.le_trans hn (by decide), fun d hd => (h d hd).fit⟩)⟩
theorem Part.fits {d : PyData} (h : Part d) (n : ∀ ds, d ≠ .tuple ds) : Fits d := ⟨h.fit, fun ds e => absurd e (n ds)⟩
theorem parts_strs {ws : List Str} (h : ∀ w ∈ ws, Asc w) : ∀ d ∈ ws.map PyData.str, Part d := fun d hd => by
  obtain ⟨w, hw, rfl⟩ := List.mem_map.mp hd
  exact part_str (h w hw)
/-- a drawn thing: it stands, it is short -/
def Good (K : PySem.W.Frag) (H : Hp) (v : V) : Prop := ∃ d, Th K H v d ∧ Fits d ∧ Small d
theorem Good.sb {K : PySem.W.Frag} {H H' : Hp} {wa : Addr} {v : V} (W : Well H wa) (s : Sb wa H H') (h : Good K H v) : Good K H' v := by
  obtain ⟨d, h1, h2⟩ := h
  exact ⟨d, h1.sb W s, h2⟩
theorem Good.same {K : PySem.W.Frag} {H H' : Hp} {v : V} (s : Same H H') (h : Good K H v) : Good K H' v := by
  obtain ⟨d, h1, h2⟩ := h
  exact ⟨d, h1.same s, h2⟩
/-- any of the menu -/
def Any (K : PySem.W.Frag) (H : Hp) (v : V) : Prop := ∃ d, Lf K H v d ∧ Part d ∧ Fits d
theorem Any.sb {K : PySem.W.Frag} {H H' : Hp} {wa : Addr} {v : V} (W : Well H wa) (s : Sb wa H H') (h : Any K H v) : Any K H' v := by
  obtain ⟨d, h1, h2⟩ := h
  exact ⟨d, h1.sb W s, h2⟩
theorem Any.same {K : PySem.W.Frag} {H H' : Hp} {v : V} (s : Same H H') (h : Any K H v) : Any K H' v := by
  obtain ⟨d, h1, h2⟩ := h
  exact ⟨d, h1.same s, h2⟩
theorem Any.good {K : PySem.W.Frag} {H : Hp} {v : V} (h : Any K H v) : Good K H v := by
  obtain ⟨d, h1, h2, h3⟩ := h
  exact ⟨d, .lf h1, h3, h2.small⟩
theorem any_int {K : PySem.W.Frag} {H : Hp} (i : Int) (h : partB (.int i) = true) : Any K H (.int i) := ⟨_, .dat (.int i), part_of h, (part_of h).fits (fun _ e => by cases e)⟩
theorem any_str {K : PySem.W.Frag} {H : Hp} (z : Str) (h : ascB z = true) : Any K H (.str z) := ⟨_, .dat (.str z), part_str (asc_of h), (part_str (asc_of h)).fits (fun _ e => by cases e)⟩
theorem any_non {K : PySem.W.Frag} {H : Hp} : Any K H .non := ⟨_, .dat .non, part_of (by decide +kernel), (part_of (by decide +kernel)).fits (fun _ e => by cases e)⟩
theorem any_bl {K : PySem.W.Frag} {H : Hp} (b : Bool) : Any K H (.bl b) := ⟨_, .dat (.bl b), part_of (by cases b <;> decide +kernel), (part_of (d := .bool b) (by cases b <;> decide +kernel)).fits (fun _ e => by cases e)⟩
theorem any_tup {K : PySem.W.Frag} {H : Hp} {a : Addr} {xs : List V} {ds : List PyData} (h : SqT K H a xs) (hd : DpAll K H xs ds) (p : partB (.tuple ds) = true) (q : ds.all partB = true) (hn : ds.length ≤ 1000) : Any K H (.ref a) :=
  ⟨_, .dat (.tup h hd), part_of p, fits_tuple (fun d h => part_of (List.all_eq_true.mp q d h)) hn⟩
theorem any_lst {K : PySem.W.Frag} {H : Hp} {a : Addr} {xs : List V} {ds : List PyData} (h : SqL K H a xs) (hd : DpAll K H xs ds) (p : partB (.list ds) = true) : Any K H (.ref a) := ⟨_, .dat (.lst h hd), part_of p, fits_list⟩
theorem any_dct0 {K : PySem.W.Frag} {H : Hp} {a : Addr} (h : H a = some (.dK [])) : Any K H (.ref a) := ⟨_, .dct0 h, part_of (by decide +kernel), (part_of (d := .dict []) (by decide +kernel)).fits (fun _ e => by cases e)⟩
theorem any_dct1 {K : PySem.W.Frag} {H : Hp} {a : Addr} {x y : Str} (h : H a = some (.dK [(Sum.inr x, .str y)])) (p : partB (.dict [(.str x, .str y)]) = true) : Any K H (.ref a) := ⟨_, .dct1 h, part_of p, (part_of p).fits (fun _ e => by cases e)⟩
end Ld
/-! Data of any depth, with dicts by texts. -/
namespace Ld
open PySem L2 PyProof.Rows
def noWell (kvs : List (Key × V)) : Prop := kvs.map (·.1) ≠ [(Sum.inr (Str.ofString "digits") : Key), Sum.inr (Str.ofString "mixed")]
mutual
inductive Dd (K : PySem.W.Frag) (H : Hp) : V → PyData → Prop
  | non : Dd K H .non .none
  | bl (b : Bool) : Dd K H (.bl b) (.bool b)
  | int (i : Int) : Dd K H (.int i) (.int i)
  | str (x : Str) : Dd K H (.str x) (.str x)
  | lst {a : Addr} {xs : List V} {ds : List PyData} : SqL K H a xs → a ≠ sysModules → DdAll K H xs ds → Dd K H (.ref a) (.list ds)
  | tup {a : Addr} {xs : List V} {ds : List PyData} : SqT K H a xs → DdAll K H xs ds → Dd K H (.ref a) (.tuple ds)
  | dct {a : Addr} {kvs : List (Key × V)} {ds : List (PyData × PyData)} : H a = some (.dK kvs) → noWell kvs → DdKv K H kvs ds → Dd K H (.ref a) (.dict ds)
inductive DdAll (K : PySem.W.Frag) (H : Hp) : List V → List PyData → Prop
  | nil : DdAll K H [] []
  | cons {v : V} {d : PyData} {vs : List V} {ds : List PyData} : Dd K H v d → DdAll K H vs ds → DdAll K H (v :: vs) (d :: ds)
inductive DdKv (K : PySem.W.Frag) (H : Hp) : List (Key × V) → List (PyData × PyData) → Prop
  | nil : DdKv K H [] []
  | cons {x : Str} {v : V} {d : PyData} {vs : List (Key × V)} {ds : List (PyData × PyData)} : Dd K H v d → DdKv K H vs ds → DdKv K H ((Sum.inr x, v) :: vs) ((.str x, d) :: ds)
end
section
variable {K : PySem.W.Frag} {H H' : Hp}
mutual
theorem dd_mono (hL : ∀ a xs, SqL K H a xs → SqL K H' a xs) (hT : ∀ a xs, SqT K H a xs → SqT K H' a xs) (hD : ∀ a kvs, H a = some (.dK kvs) → noWell kvs → H' a = some (.dK kvs)) : ∀ {v : V} {d : PyData}, Dd K H v d → Dd K H' v d
  | _, _, .non => .non
  | _, _, .bl b => .bl b
  | _, _, .int i => .int i
  | _, _, .str x => .str x
  | _, _, .lst a n b => .lst (hL _ _ a) n (ddAll_mono hL hT hD b)
  | _, _, .tup a b => .tup (hT _ _ a) (ddAll_mono hL hT hD b)
  | _, _, .dct a n b => .dct (hD _ _ a n) n (ddKv_mono hL hT hD b)
theorem ddAll_mono (hL : ∀ a xs, SqL K H a xs → SqL K H' a xs) (hT : ∀ a xs, SqT K H a xs → SqT K H' a xs) (hD : ∀ a kvs, H a = some (.dK kvs) → noWell kvs → H' a = some (.dK kvs)) : ∀ {v : List V} {d : List PyData}, DdAll K H v d → DdAll K H' v d
  | _, _, .nil => .nil
  | _, _, .cons a b => .cons (dd_mono hL hT hD a) (ddAll_mono hL hT hD b)
theorem ddKv_mono (hL : ∀ a xs, SqL K H a xs → SqL K H' a xs) (hT : ∀ a xs, SqT K H a xs → SqT K H' a xs) (hD : ∀ a kvs, H a = some (.dK kvs) → noWell kvs → H' a = some (.dK kvs)) : ∀ {v : List (Key × V)} {d : List (PyData × PyData)}, DdKv K H v d → DdKv K H' v d
  | _, _, .nil => .nil
  | _, _, .cons a b => .cons (dd_mono hL hT hD a) (ddKv_mono hL hT hD b)
end
theorem Dd.same {v : V} {d : PyData} (h : Dd K H v d) (s : Same H H') : Dd K H' v d := dd_mono (fun _ _ q => s.seq q) (fun _ _ q => same_T s q) (fun _ _ q _ => s _ _ q) h
theorem Well.neD {wa b : Addr} {kvs : List (Key × V)} (W : Well H wa) (e : H b = some (.dK kvs)) (n : noWell kvs) : b ≠ wa := by
  obtain ⟨d, m, h, _⟩ := W
  intro z
  subst z
  rw [h] at e
  cases e
  exact n rfl
theorem Dd.sb {v : V} {d : PyData} {wa : Addr} (h : Dd K H v d) (W : Well H wa) (s : Sb wa H H') : Dd K H' v d := dd_mono (fun _ _ q => seqL W s q) (fun _ _ q => seqT W s q) (fun _ _ q n => s _ _ (W.neD q n) q) h
theorem Dd.ty {v : V} {d : PyData} (z : Dd K H v d) : TyX K H v (.type (kindOf d)) := by
  cases z with
  | non => exact .base .non
  | bl b => exact .base (.bl b)
  | int i => exact .base (.int i)
  | str x => exact .base (.str x)
  | lst hs _ _ =>
    rcases hs with (hs | ⟨o, hs⟩) | ⟨o, its, n, hk, hc, _⟩
    · exact .base (.lst hs)
    · exact .base (.frz hs)
    · exact .kList hk hc
  | tup hs _ =>
    rcases hs with (hs | ⟨o, hs⟩) | ⟨o, its, n, hk, hc, _⟩
    · exact .base (.tup hs)
    · exact .fTuple hs
    · exact .kTuple hk hc
  | dct z _ _ => exact .base (.dK z)
theorem DdAll.append : ∀ {xs ys : List V} {ds es : List PyData}, DdAll K H xs ds → DdAll K H ys es → DdAll K H (xs ++ ys) (ds ++ es)
  | _, _, _, _, .nil, h => h
  | _, _, _, _, .cons a b, h => .cons a (b.append h)
theorem DdAll.get : ∀ {xs : List V} {ds : List PyData}, DdAll K H xs ds → ∀ (i : Nat) (x : V), xs[i]? = some x → ∃ d, ds[i]? = some d ∧ Dd K H x d
  | _, _, .nil, i, x, e => by simp at e
  | _, _, .cons a b, 0, x, e => by
    simp at e
    subst e
    exact ⟨_, rfl, a⟩
  | _, _, .cons a b, i + 1, x, e => by
    obtain ⟨d, q1, q2⟩ := b.get i x (by simpa using e)
    exact ⟨d, by simpa using q1, q2⟩
theorem DdAll.len : ∀ {xs : List V} {ds : List PyData}, DdAll K H xs ds → xs.length = ds.length
  | _, _, .nil => rfl
  | _, _, .cons a b => by simp [b.len]
end
/-! ### repr of it -/
section
variable {K : PySem.W.Frag} {P : Program} {w : World} {H : Hp} {h : Heap}
def NoSys (as : List Addr) : Prop := ¬ sysModules ∈ as
mutual
theorem dd_reads (ok : HOk P w H h) (kin : K.In h) : ∀ {v : V} {d : PyData} {u : Value}, Dd K H v d → RelV v u → ∃ as, Reads h u d as ∧ NoSys as
  | _, _, _, .non, r => by cases r; exact ⟨_, .none, fun z => nomatch z⟩
  | _, _, _, .bl b, r => by cases r; exact ⟨_, .bool b, fun z => nomatch z⟩
  | _, _, _, .int i, r => by obtain ⟨t, rfl⟩ := r; exact ⟨_, .int i t, fun z => nomatch z⟩
  | _, _, _, .str x, r => by obtain ⟨t, rfl⟩ := r; exact ⟨_, .str x t, fun z => nomatch z⟩
  | _, _, _, .lst hs ns ha, r => by
    cases r
    rcases hs with hs | ⟨o, its, n, hk, hc, hd, hs, hz, rv⟩
    · obtain ⟨z, its, n, rv, e⟩ := hs.ok ok
      obtain ⟨as, hr, hn⟩ := ddAll_reads ok kin ha rv
      refine ⟨_, .list e rfl rfl hr, fun q => ?_⟩
      rcases List.mem_cons.mp q with q | q
      · exact ns q.symm
      · exact hn q
    · obtain ⟨as, hr, hn⟩ := ddAll_reads ok kin ha rv
      refine ⟨_, .list (kin _ o hk) hc hs hr, fun q => ?_⟩
      rcases List.mem_cons.mp q with q | q
      · exact ns q.symm
      · exact hn q
  | _, _, _, .tup hs ha, r => by
    cases r
    rcases hs with hs | ⟨o, its, n, hk, hc, hs, hz, rv⟩
    · obtain ⟨z, its, rv, o, e, c, n, dt⟩ := hs.ok ok
      obtain ⟨as, hr, hn⟩ := ddAll_reads ok kin ha rv
      exact ⟨_, .tuple e c dt hr, hn⟩
    · obtain ⟨as, hr, hn⟩ := ddAll_reads ok kin ha rv
      exact ⟨_, .tuple (kin _ o hk) hc hs hr, hn⟩
  | _, _, _, .dct z n kv, r => by
    cases r
    obtain ⟨_, hm, vs, kvr, o, es, ep, e1, e2, e3, _, e4, _⟩ := dk_of ok z
    obtain ⟨as, bs, h1, h2, n1, n2⟩ := ddKv_reads ok kin kv kvr e4
    refine ⟨_, .dict (as := as) (bs := bs) e1 e2.1 e3 h1 h2, fun hin => ?_⟩
    rcases List.mem_append.mp hin with q | q
    · rcases List.mem_cons.mp q with q | q
      · rw [← q] at hm
        exact absurd hm (by decide)
      · exact n1 q
    · exact n2 q
theorem ddAll_reads (ok : HOk P w H h) (kin : K.In h) : ∀ {vs : List V} {ds : List PyData} {us : List Value}, DdAll K H vs ds → Vals vs us → ∃ as, ReadsAll h us ds as ∧ NoSys as
  | _, _, _, .nil, r => by cases r; exact ⟨_, .nil, fun z => nomatch z⟩
  | _, _, _, .cons a b, r => by
    cases r with
    | cons r1 r2 =>
      obtain ⟨as, q1, n1⟩ := dd_reads ok kin a r1
      obtain ⟨bs, q2, n2⟩ := ddAll_reads ok kin b r2
      exact ⟨_, .cons q1 q2, fun z => (List.mem_append.mp z).elim n1 n2⟩
theorem ddKv_reads (ok : HOk P w H h) (kin : K.In h) : ∀ {kvs : List (Key × V)} {ds : List (PyData × PyData)} {vs : List (Key × Value)} {es : List DictEntry}, DdKv K H kvs ds → KV kvs vs → Pairs (mixKind P w) es vs →
    ∃ as bs, ReadsAll h (es.map (·.key)) (ds.map (·.1)) as ∧ ReadsAll h (es.map (·.val)) (ds.map (·.2)) bs ∧ NoSys as ∧ NoSys bs
  | _, _, _, es, .nil, kv, e4 => by
    cases kv
    cases es with
    | nil => exact ⟨_, _, .nil, .nil, (fun z => nomatch z), fun z => nomatch z⟩
    | cons x y => cases e4
  | _, _, _, es, .cons (x := x) a b, kv, e4 => by
    cases kv with
    | @cons _ kv1 _ _ q kv2 =>
      obtain ⟨q1, q2⟩ := q
      obtain ⟨k1, v1⟩ := kv1
      cases q1
      cases es with
      | nil => cases e4
      | cons x1 x2 =>
        cases e4 with
        | cons g1 g2 g3 =>
          have g4 : ∃ t', x1.key = .str x t' := by
            rcases keyIs_shape (show keyIs (.inr x) x1.key = true from g1) with ⟨i, t', z1, _⟩ | ⟨y', t', z1, z2⟩
            · cases z1
            · cases z1
              exact ⟨t', z2⟩
          obtain ⟨t', g4⟩ := g4
          obtain ⟨as, r1, n1⟩ := dd_reads ok kin a q2
          obtain ⟨bs, cs, r2, r3, n2, n3⟩ := ddKv_reads ok kin b kv2 g3
          refine ⟨[] ++ bs, as ++ cs, ?_, ?_, n2, fun z => (List.mem_append.mp z).elim n1 n3⟩
          · show ReadsAll h (x1.key :: x2.map (·.key)) _ _
            rw [g4]
            exact .cons (.str x t') r2
          · show ReadsAll h (x1.val :: x2.map (·.val)) _ _
            rw [g2]
            exact .cons r1 r3
end
theorem Dd.rds {v : V} {d : PyData} (z : Dd K H v d) : Rds K P w H v d := fun h ok kin u r => by
  obtain ⟨as, q, n⟩ := dd_reads ok kin z r
  exact ⟨as, q, fun _ => n⟩
end
end Ld
/-! Own exceptions as values: made by place or by name, their fields, isinstance. -/
namespace Ld
namespace EX
open PySem PySem.HandSPX PySem.Builtin PySem.Builtin.ObjectAttr
section
variable {M : Model} {prog : Program} {w : World} {A : Around} {E : Value → Shared → Prop} {R : Result → Shared → Prop} {h : Heap} {g : Array GenState} {d : Drawn} {t : Nat} {os : OsState}
variable {nm q : Str} {C N : Addr} {bs bm bmB : List Value} {hdct : Bool} {sn : List Str} {sub : List Value} {ab : Bool} {col : Option Bool} {dd : Option Addr} {k0 k1 k2 k3 k5 : Option Value} {B newId initId : String}
theorem check_newK (F : ExcBaseFacts B newId initId bmB) (hT : ∀ X : String, bm.contains (.type X) = bmB.contains (.type X)) {rest : List Value} {ks : List (Str × Value)} {Q : Unit → Shared → Prop}
    (hC : h.get? C = some (excClassObj nm q C N bs bm hdct sn sub ab col dd k0 k1 k2 k3 k5 newId)) (hq : Q () ⟨h, g, d, t, os⟩) : wpAny M A (checkBuiltinCall newId ⟨.ref C :: rest, ks⟩) Q E ⟨h, g, d, t, os⟩ := by
  have hcont : (Value.ref C :: bm).contains (.type B) = true := by rw [List.contains_cons, hT, F.hasB, Bool.or_true]
  have hstar := F.noStar
  simp only [checkBuiltinCall, F.newKind, F.newSplit, F.newRow]
  repeat (first | refine wpAny_loadPart_at hC ?_ | (refine wpAny_isSubtype_exc hC ?_; rw [hcont]) | refine wpAny_staticBase_exc hC ?_ | refine wpAny_madeBy_exc hC ?_ | simp only [bne_self_eq_false, Bool.false_eq_true, if_false] | wp_step)
  exact hq
theorem new_ownK (F : ExcBaseFacts B newId initId bmB) (hT : ∀ X : String, bm.contains (.type X) = bmB.contains (.type X)) {rest : List Value} {ks : List (Str × Value)}
    (hC : h.get? C = some (excClassObj nm q C N bs bm hdct sn sub ab col dd k0 k1 k2 k3 k5 newId))
    (hq : R (.ok (.ret (.ref (h.objs.size + 1)))) ⟨(h.push { cls := .type "tuple", data := .seq rest.toArray }).push
      { cls := .ref C, data := .fields #[.ref h.objs.size, .none, .none, .none, .bool false, .none] }, g, d, t, os⟩) (hrest : rest.length ≤ sizeLine) :
    codeAny (model prog w) A (.builtin newId ⟨.ref C :: rest, ks⟩) R ⟨h, g, d, t, os⟩ := by
  have hends := F.ends
  have hcB : (Value.ref C :: bm).contains (.type B) = true := by rw [List.contains_cons, hT, F.hasB, Bool.or_true]
  have hcA : (Value.ref C :: bm).contains (.type "AttributeError") = false := by rw [List.contains_cons, hT, F.noAttr]; rfl
  have hcN : (Value.ref C :: bm).contains (.type "NameError") = false := by rw [List.contains_cons, hT, F.noName]; rfl
  refine codeAny_builtinAt F.entry ?_
  unfold Builtin.«BaseException.__new__»
  refine wpAt_bind ?_
  show wpAt _ _ _ (stack >>= _) _ _ _
  refine wpAt_bind (wpAt_stack fun p below => wpAt_of_wpAny ?_)
  wp_walk
  refine wpAt_of_wpAny ?_
  rw [F.owner]
  repeat (first | with_reducible refine wpAny_madeHere_exc F.canon hC ?_ | with_reducible refine wpAny_loadPart_at hC ?_ | (with_reducible refine wpAny_isSubtype_exc hC ?_; first | rw [hcB] | rw [hcA] | rw [hcN]) | wp_step)
  show R _ _
  rw [Heap.size_push]
  exact hq
theorem type_callK (F : ExcBaseFacts B newId initId bmB) (hT : ∀ X : String, bm.contains (.type X) = bmB.contains (.type X)) {rest : List Value} {ks : List (Str × Value)} {fI : Addr} {Q : Fin → Shared → Prop}
    (hC : h.get? C = some (excClassObj nm q C N bs bm hdct sn sub ab col dd k0 k1 k2 k3 k5 newId))
    (hi : W.Looks (model prog w) h (typeLookup (.ref C) "__init__") (some (.ref fI))) (hb : ∀ self, W.Looks (model prog w) h (bindSpecial (.ref fI) self) (.ref fI, [self])) (hrest : rest.length ≤ sizeLine)
    (hq : codeAny (model prog w) A (.call (.ref fI) ⟨.ref (h.objs.size + 1) :: rest, ks⟩)
      (fun r s' => match r with | .ok (.ret v) => v = .none ∧ Q (.done (.ret (.ref (h.objs.size + 1)))) s' | .ok _ => False | .error e => E e s')
      ⟨(h.push (W.kdv_tup rest)).push (excO C h.objs.size), g, d, t, os⟩) :
    wpAny (model prog w) A (Builtin.«type.__call__» ⟨.ref C :: rest, ks⟩) Q E ⟨h, g, d, t, os⟩ := by
  repeat (first | with_reducible refine wpAny_loadPart_at hC ?_ | with_reducible refine wpAny_madeBy_exc hC ?_ | wp_step)
  refine codeAny_call_builtin_code (Code.quiet_builtin _ F.quiet) (check_newK F hT hC ?_)
  refine new_ownK F hT hC ?_ hrest
  show wpAny _ _ _ _ _ _
  have k : ∀ b o, h.get? b = some o → ((h.push (W.kdv_tup rest)).push (excO C h.objs.size)).get? b = some o := fun b o e => Heap.get?_push_of_some _ (Heap.get?_push_of_some _ e)
  have hC₁ := k _ _ hC
  have hget : ((h.push (W.kdv_tup rest)).push (excO C h.objs.size)).get? (h.objs.size + 1) = some (excO C h.objs.size) := by heap_get
  have hcC : (Value.ref C :: bm).contains (.ref C) = true := by simp
  have i1 := hi.keeps k
  have b1 := (hb (.ref (h.objs.size + 1))).keeps k
  unfold isInstance
  repeat (first | with_reducible refine wpAny_loadPart_at hget ?_ | (with_reducible refine wpAny_isSubtype_exc hC₁ ?_; rw [hcC]) | wp_step)
  show wpAny _ _ (typeLookup (.ref C) _) _ _ _
  refine i1.at ?_
  refine wpAny_holding (wpAny_bind (b1.at ?_))
  refine wpAny_bind (wpAny_call (codeAny_mono hq fun r s' z => ?_))
  rcases r with e | (v | _ | _ | _) <;> first | exact z | exact z.elim | skip
  obtain ⟨rfl, z⟩ := z
  first
    | exact wpAny_pure (wpAny_pure z)
    | (wp_walk; exact z)
theorem call_ownK (F : ExcBaseFacts B newId initId bmB) (hT : ∀ X : String, bm.contains (.type X) = bmB.contains (.type X)) {rest : List Value} {ks : List (Str × Value)} {fI : Addr}
    (hC : h.get? C = some (excClassObj nm q C N bs bm hdct sn sub ab col dd k0 k1 k2 k3 k5 newId))
    (hi : W.Looks (model prog w) h (typeLookup (.ref C) "__init__") (some (.ref fI))) (hb : ∀ self, W.Looks (model prog w) h (bindSpecial (.ref fI) self) (.ref fI, [self])) (hrest : rest.length ≤ sizeLine)
    (hq : codeAny (model prog w) (A.under (.builtin "type.__call__" ⟨.ref C :: rest, ks⟩)) (.call (.ref fI) ⟨.ref (h.objs.size + 1) :: rest, ks⟩) (W.InitBack (h.objs.size + 1) R)
      ⟨(h.push (W.kdv_tup rest)).push (excO C h.objs.size), g, d, t, os⟩) :
    codeAny (model prog w) A (.call (.ref C) ⟨rest, ks⟩) R ⟨h, g, d, t, os⟩ := by
  have f1 := tc_lookup
  have f2 := tc_bind (.ref C)
  have hTy : (⟨h, g, d, t, os⟩ : Shared).TypeIs (.ref C) "type" := ⟨_, hC, rfl⟩
  refine codeAny_of_tree ?_
  show wpAny _ _ (callAny (.ref C) _) _ _ _
  repeat (any_goals (first | assumption | with_reducible refine wpAny_loadPart_at hC ?_ | wp_step))
  refine ⟨rfl, ?_⟩
  refine codeAny_call_builtin_at (Code.quiet_builtin _ (by decide +kernel)) entry_typeCall (wpAny_check_type_call_sub hC (type_callK F hT hC hi hb hrest ?_))
  refine codeAny_mono hq fun r s' z => ?_
  rcases r with e | (v | _ | _ | _) <;> exact z
end
end EX
end Ld
/-! Own exceptions as values: the rules. -/
namespace Ld
open PySem PySem.Spec PyProof.Rows L2
/-- a new exception, its own __init__ keeping sp -/
def tMkX (C : Addr) (n m : Nat) (sp : Sp) (gV : List V → List V → List V) (ta tk : TA) : TE := fun σ H Q => ta σ H fun vs H1 => tk σ H1 fun zs H2 => vs.length = n ∧ zs.length = m ∧ ∀ a, H2 a = none →
  sp (gV (.ref a :: vs) zs) (upd H2 a (exo a C none)) (fun v H3 => v = .non ∧ Q (.ref a) H3) E0
/-- what the class must say to make -/
structure XMk (K : PySem.W.Frag) (C fI : Addr) : Prop where
  T : OexC K C
  iC : PySem.W.findIn K (.ref C) "__init__" = some (some (.ref fI))
  tI : PySem.W.typeIn K (.ref fI) = some (.type "function")
section
variable {X : Cx} {k n : Nat} {C fI : Addr} {fd : FuncData} {ps ks : List Str} {sp : Sp} {x : Str} {p pos : Pos} {e : Expr} {es : List Expr} {kws : List Keyword} {ta tk : TA} {g : List Value → List Value → List Value} {gV : List V → List V → List V}
theorem run_mkx {pins : List (Addr × Obj)} {σ : L2.St} {H : Hp} {s : Shared} {Q : VK} {us ws : List Value} {vs zs : List V} (M : XMk X.K C fI) (F : FnOk X.prog X.w X.K X.mg X.base CX0 k fI fd ps sp) (hr : Room (k + 1) X.A) (hb : KBn X.K fd ps (n + 1) ks g gV)
    (I : Inv X pins σ H s) (r : Vals vs us) (rz : Vals zs ws) (l1 : vs.length = n) (l2 : zs.length = ks.length) (hn : n ≤ 1000)
    (h : ∀ a, H a = none → sp (gV (.ref a :: vs) zs) (upd H a (exo a C none)) (fun v H2 => v = .non ∧ Q (.ref a) H2) E0) :
    wpAny (model X.prog X.w) X.A (call (.ref C) us (ks.zip ws)) (EP X pins σ Q) X.xe s := by
  obtain ⟨nm, q, N, bs, bm, sn, sub, ab, col, dd, k0, k1, k2, k3, k5, hC, hbm⟩ := M.T.cls
  obtain ⟨hp, gs, dr, tk, os⟩ := s
  have hsz : hp.objs.size ≤ hp.objs.size + 1 := Nat.le_succ _
  have hn0 : H (hp.objs.size + 1) = none := I.hok.fresh hsz
  have hq := h (hp.objs.size + 1) hn0
  have kk : ∀ b o, hp.get? b = some o → ((hp.push (PySem.W.kdv_tup us)).push (PySem.HandSPX.excO C hp.objs.size)).get? b = some o := fun b o e => Heap.get?_push_of_some _ (Heap.get?_push_of_some _ e)
  have hget : ((hp.push (PySem.W.kdv_tup us)).push (PySem.HandSPX.excO C hp.objs.size)).get? (hp.objs.size + 1) = some (PySem.HandSPX.excO C hp.objs.size) := by heap_get
  have I2 : Inv X pins σ (upd H (hp.objs.size + 1) (exo (hp.objs.size + 1) C none)) ⟨(hp.push (PySem.W.kdv_tup us)).push (PySem.HandSPX.excO C hp.objs.size), gs, dr, tk, os⟩ :=
    I.laid (t' := tk) (a := hp.objs.size + 1) (o := exo (hp.objs.size + 1) C none) (h' := (hp.push (PySem.W.kdv_tup us)).push (PySem.HandSPX.excO C hp.objs.size)) kk hsz (exo_ok hget)
  have r1 : Vals (V.ref (hp.objs.size + 1) :: vs) (Value.ref (hp.objs.size + 1) :: us) := .cons rfl r
  have r2 := hb.rel r1 rz
  have e1 : (Value.ref (hp.objs.size + 1) :: us).length = n + 1 := r1.length.symm.trans (congrArg Nat.succ l1)
  have e2 : ws.length = ks.length := rz.length.symm.trans l2
  have hus : us.length ≤ sizeLine := by
    rw [← Paired.length r, l1, sizeLine_eq]
    omega
  refine wpAny_call (EX.call_ownK PySem.F.excBase_ValueError (fun Y => PySem.HandSPX.refsVE_contains Y bm hbm) (I.kIn _ _ hC) (PySem.W.looks_findIn I.kIn M.iC) (fun self => PySem.W.bind_fn I.kIn self M.tI) hus
    (codeAny_mono (F.run _ X.stack _ _ ⟨Value.ref (hp.objs.size + 1) :: us, ks.zip ws⟩ (g (Value.ref (hp.objs.size + 1) :: us) ws) _ _ E0 (hr.make C us (ks.zip ws)) (I2.env0.make C us (ks.zip ws)) (hb.to _ (Value.ref (hp.objs.size + 1) :: us) ws I2.kIn e1 e2) r2 hq) fun r s' hq' => ?_))
  cases r with
  | error er => exact pass0 pins σ _ _ er s' I2 hq'
  | ok fl =>
    cases fl with
    | ret u =>
      obtain ⟨v, H', I3, rv, ev, q3⟩ := I2.after hq'
      subst ev
      exact ⟨rv, ⟨V.ref (hp.objs.size + 1), H', I3, rfl, q3⟩⟩
    | next => exact False.elim hq'
    | brk => exact False.elim hq'
    | cont => exact False.elim hq'
/-- C(e) -/
theorem kbn0 {K : PySem.W.Frag} (hb : Binds K fd ps []) : KBn K fd ps ps.length [] (fun us _ => us) (fun vs _ => vs) where
  to := fun s us ws X l1 l2 => by
    have z := hb s us X (by rw [List.append_nil]; exact l1)
    rw [List.append_nil] at z
    exact z
  rel := fun r _ => r
theorem pe_mkx (M : XMk X.K C fI) (F : FnOk X.prog X.w X.K X.mg X.base CX0 k fI fd ps sp) (hr : Room (k + 1) X.A) (hb : KBn X.K fd ps (n + 1) [] (fun us _ => us) (fun vs _ => vs)) (hg : Gl X x) (hm : X.mg x = some (.ref C)) (ha : PA X (e :: es) ta) (hn : n ≤ 1000 := by decide)
    (hdb : (x == ("__debug__" : Str)) = false := by decide) (he : starEach (e :: es) X.env = (false, eval e X.env) :: starEach es X.env := by rfl) (hpl : (backTo pos (starEach es X.env)).any (·.1) = false := by rfl) :
    PE X (.Call (.Name x p) (e :: es) [] pos) (tMkX C n 0 sp (fun vs _ => vs) ta (fun σ H R => R [] H)) := by
  refine ⟨fun pins s σ H Q I h => ?_⟩
  refine wpAny_Call_Name_kw (ld_glob I hg hm ?_ hdb)
  refine PySem.W.callWith_K (h₀ := X.base) I.ok.mod.kin M.T.kC (thn (ha.run pos pins s σ H _ I h) fun us s1 ⟨vs, H1, I1, r1, l1, l2, q1⟩ => ⟨I1.kIn, ?_⟩) he hpl
  exact run_mkx (ws := []) (zs := []) (ks := []) M F hr hb I1 r1 .nil l1 rfl hn q1
/-- C(k = v) -/
theorem pe_mkxK (M : XMk X.K C fI) (F : FnOk X.prog X.w X.K X.mg X.base CX0 k fI fd ps sp) (hr : Room (k + 1) X.A) (hb : KBn X.K fd ps 1 ks g gV) (hg : Gl X x) (hm : X.mg x = some (.ref C)) (hkw : PK X kws tk)
    (hall : (backToKw pos (keywordEach kws X.env)).all (·.1.isSome) = true := by rfl) (hks : (backToKw pos (keywordEach kws X.env)).filterMap (·.1) = ks := by rfl) (hdb : (x == ("__debug__" : Str)) = false := by decide)
    (hpl : ((backTo pos (starEach [] X.env)).any (·.1) || (backToKw pos (keywordEach kws X.env)).any (·.1.isNone)) = false := by rfl) :
    PE X (.Call (.Name x p) [] kws pos) (tMkX C 0 ks.length sp gV tNil tk) := by
  refine ⟨fun pins s σ H Q I h => ?_⟩
  refine wpAny_Call_Name_kw (ld_glob I hg hm ?_ hdb)
  refine PySem.W.callWith_KW0 (h₀ := X.base) I.ok.mod.kin M.T.kC hall ?_ hpl
  refine thn (hkw.run pos pins s σ H _ I h) fun ws s2 ⟨zs, H2, I2, rz, l1, l2, q2⟩ => ⟨I2.kIn, ?_⟩
  rw [hks]
  exact run_mkx (us := []) (vs := []) M F hr hb I2 .nil rz rfl l2 (Nat.zero_le _) q2
/-- f(k = v, ..) of a def -/
def tDfK (m : Nat) (sp : Sp) (gV : List V → List V → List V) (tk : TA) : TE := fun σ H Q => tk σ H fun zs H2 => zs.length = m ∧ sp (gV [] zs) H2 Q E0
theorem pe_dfK {f : Addr} (F : FnOk X.prog X.w X.K X.mg X.base CX0 k f fd ps sp) (hr : Room k X.A) (hg : Gl X x) (hm : X.mg x = some (.ref f)) (hk : PySem.W.keepIn X.K (.ref f) = true) (hb : KBn X.K fd ps 0 ks g gV) (hkw : PK X kws tk)
    (hall : (backToKw pos (keywordEach kws X.env)).all (·.1.isSome) = true := by rfl) (hks : (backToKw pos (keywordEach kws X.env)).filterMap (·.1) = ks := by rfl) (hdb : (x == ("__debug__" : Str)) = false := by decide)
    (hpl : ((backTo pos (starEach [] X.env)).any (·.1) || (backToKw pos (keywordEach kws X.env)).any (·.1.isNone)) = false := by rfl) :
    PE X (.Call (.Name x p) [] kws pos) (tDfK ks.length sp gV tk) := by
  refine ⟨fun pins s σ H Q I h => ?_⟩
  refine wpAny_Call_Name_kw (ld_glob I hg hm ?_ hdb)
  refine PySem.W.callWith_KW0 (h₀ := X.base) I.ok.mod.kin hk hall ?_ hpl
  refine thn (hkw.run pos pins s σ H _ I h) fun ws s2 ⟨zs, H2, I2, rz, l2, q2⟩ => ⟨I2.kIn, ?_⟩
  rw [hks]
  exact run_fnN (us := []) (vs := []) F hr hb pass0 I2 .nil rz rfl l2 q2
end
/-! ### an exception that stands -/
/-- at a stands an exception of C with the fields fs -/
def ExV (H : Hp) (a C d : Addr) (fs : List (Str × V)) : Prop := H a = some (exo a C (some d)) ∧ H d = some (exd d fs)
theorem ExV.same {H H' : Hp} {a C d : Addr} {fs : List (Str × V)} (h : ExV H a C d fs) (s : Same H H') : ExV H' a C d fs := ⟨s _ _ h.1, s _ _ h.2⟩
theorem ExV.inst {P : Program} {w : World} {H : Hp} {h : Heap} {a C d : Addr} {fs : List (Str × V)} (hok : HOk P w H h) (z : ExV H a C d fs) :
    ∃ (oe od : Obj) (mA : Str → Option Value), PySem.W.InstAt h a oe C (some od) ∧ h.get? d = some od ∧ (∀ n, PySem.W.lookIn n od = some (mA n)) ∧ ∀ f, RelO (fs.lookup f) (mA f) := by
  obtain ⟨t1, he⟩ := exo_at hok z.1
  obtain ⟨mA, hns, hr⟩ := exd_at hok z.2
  obtain ⟨od, ho, hl⟩ := lookIn_ns hns
  exact ⟨_, od, mA, ⟨he, rfl, rfl, ho⟩, ho, hl, hr⟩
/-- e.f -/
def tXv (K : PySem.W.Frag) (n : Str) (te : TE) : TE := fun σ H Q => te σ H fun x H1 => ∃ (a C d : Addr) (fs : List (Str × V)) (v : V), x = .ref a ∧ ExV H1 a C d fs ∧ XfC K C ∧ PySem.W.findIn K (.ref C) n = some none ∧ fs.lookup n = some v ∧ Q v H1
theorem pe_xv {X : Cx} {K : PySem.W.Frag} {e : Expr} {te : TE} {pos : Pos} {n : Str} (he : PE X e te) (hK : X.K = K := by rfl) (hb : attributeBase e n X.env (eval e X.env) = eval e X.env := by rfl) : PE X (.Attribute e n pos) (tXv K n te) := by
  subst hK
  refine ⟨fun pins s σ H Q I h => ?_⟩
  refine attr_of hb (thn (he.run pins s σ H _ I h) fun u s1 hh => ?_)
  obtain ⟨x, H1, I1, rx, a, C, d, fs, v, ex, z, T, hno, l, q⟩ := hh
  subst ex
  obtain rfl : u = Value.ref a := rx
  obtain ⟨oe, od, mA, J, ho, hl, hr⟩ := z.inst I1.hok
  obtain ⟨u, hu, ru⟩ := RelO.some_of (v := v) (o := mA n) (by rw [← l]; exact hr n)
  exact HandSPX.exc_get I1.kIn J T.ga T.gg T.exC (PySem.W.findObj_own T.hdC hno rfl (by rw [hl, hu])) (handed_of ru) ⟨v, H1, I1.tok _, ru, q⟩
end Ld
namespace Ld
namespace EX
open PySem PySem.Spec PySem.Calls PyProof.Rows PySem.W
section
variable {prog : Program} {w : World} {A : Around} {E : Value → Shared → Prop} {s : Shared} {K : Frag} {x D : Addr} {ox : Obj} {od : Option Obj}
theorem findObj_dataO {C : Addr} {name : Str} {a g : Value} (hc : (clsIn K C).isSome = true) (ha : findIn K (.ref C) name = some (some a)) (hg : specialIn K a "__get__" = some (some g)) (ht : takesIn K a = some true) : findObj K C od name = some (.bind g a) := by
  obtain ⟨cd, hc⟩ := Option.isSome_iff_exists.mp hc
  unfold findObj
  rw [hc, Option.bind_some, ha, Option.bind_some]
  simp [hg, ht]
theorem kin_classX {Q : Option Value → Shared → Prop} (hga : findIn K (.ref D) "__getattribute__" = some (some (.builtin "BaseException.__getattribute__"))) (hgt : findIn K (.ref D) "__getattr__" = some none) (hsub : subIn K (.ref D) (.type "BaseException") = some true)
    (hdct : hasDictIn K D = true) (ha : findIn K (.ref D) "__class__" = some (some (.builtin "object.__class__")))
    (hn : specialIn K (.builtin "object.__class__") "__get__" = some (some (.builtin "getset_descriptor.__get__"))) (htk : takesIn K (.builtin "object.__class__") = some true) (hm : mroIn K D (.type "object") = some true)
    (X : K.In s.heap) (I : InstAt s.heap x ox D od) (h : Q (some (.ref D)) { s with toks := s.toks + 1 }) : wpAny (model prog w) A (getAttr? (.ref x) "__class__") Q E s := by
  have hf : findObj K D od "__class__" = some (.bind (.builtin "getset_descriptor.__get__") (.builtin "object.__class__")) := findObj_dataO (by obtain ⟨cd, hc, _⟩ := any_some hdct; rw [hc]; rfl) ha hn htk
  obtain ⟨hp, g, d, t, os⟩ := s
  have L0 := I.type (M := model prog w)
  have L1 := looks_findIn (M := model prog w) X hga
  have L2 := looks_findIn (M := model prog w) X hgt
  have L3 := looks_find (M := model prog w) X I hf
  have sub : Looks (model prog w) hp (isInstance (.ref x) (.type "BaseException")) true := L0.andThen (looks_subIn X hsub)
  have hx0 : (false && onTheHeap (Value.builtin "BaseException.__getattribute__")) = false := rfl
  have hx2 : (Value.builtin "BaseException.__getattribute__" == Value.builtin "object.__getattribute__") = false := by decide +kernel
  have hx1 : (onTheHeap (Value.ref D) && Value.builtin "BaseException.__getattribute__" == Value.builtin "object.__getattribute__") = false := by rw [hx2]; rfl
  unfold getAttr? getAttrBy? getAttrBy
  refine wpAny_bind (wpAny_mkText (wpAny_bind (wpAny_attempt (wpAny_holding (wpAny_bind (L0.at (wpAny_bind (L1.at ?_))))))))
  show wpAny _ _ (if (onTheHeap (Value.ref D) && Value.builtin "BaseException.__getattribute__" == Value.builtin "object.__getattribute__") = true then _ else _) _ _ _
  rw [hx1, if_neg Bool.false_ne_true]
  unfold getAttrByItsOwn hookBefore
  refine wpAny_bind ?_
  rw [if_pos (show onTheHeap (Value.ref D) = true from rfl)]
  refine L2.at ?_
  refine wpAny_bind (wpAny_attempt (wpAny_holding ?_))
  unfold callGetattribute
  rw [hx0, if_neg Bool.false_ne_true]
  unfold boundAndCalled
  rw [PySem.F.excAttr_ValueError.ga.bind (.ref x)]
  refine wpAny_bind (wpAny_pure ?_)
  show wpAny _ _ (call (.builtin "BaseException.__getattribute__") [.ref x, .str "__class__" t]) _ _ _
  refine wpAny_call (codeAny_call_builtin PySem.F.excAttr_ValueError.ga.plain PySem.F.entry_bexc_ga ?_)
  refine @check_slot (model prog w) _ _ ⟨hp, g, d, t + 1, os⟩ "BaseException.__getattribute__" "BaseException" "__getattribute__" (.ref x) [.str "__class__" t] [] _ (by decide +kernel) (by decide +kernel) sub (PySem.F.args_bexc_ga (.ref x) (.str "__class__" t)) ?_
  unfold Builtin.«object.__getattribute__»
  refine wpAny_bind (wpAny_of_eq (a := ((Value.ref x : Value), [Value.str "__class__" t])) (by first | rfl | (simp only [slotArgs]; rfl)) ?_)
  refine wpAny_bind (wpAny_pure (wpAny_bind (L0.at (wpAny_bind (L3.at ?_)))))
  show wpAny _ _ (holding [Value.builtin "object.__class__"] (call (.builtin "getset_descriptor.__get__") [.builtin "object.__class__", .ref x, .ref D]) >>= ret) _ _ _
  refine wpAny_bind (wpAny_holding (wpAny_call (class_get (s := ⟨hp, g, d, t + 1, os⟩) (ox := ox) (od := od) X I hm ?_)))
  refine wpAny_pure ?_
  show wpAny _ _ (handedOut (.ref D)) _ _ _
  rw [handedOut_of (v := .ref D) rfl]
  first
    | exact wpAny_pure (wpAny_pure h)
    | exact wpAny_pure h
    | exact wpAny_pure (wpAny_bind (wpAny_pure (wpAny_pure h)))
theorem kitx_exo (hga : findIn K (.ref D) "__getattribute__" = some (some (.builtin "BaseException.__getattribute__"))) (hgt : findIn K (.ref D) "__getattr__" = some none) (hsub : subIn K (.ref D) (.type "BaseException") = some true) (hdct : hasDictIn K D = true) (ha : findIn K (.ref D) "__class__" = some (some (.builtin "object.__class__")))
    (hn : specialIn K (.builtin "object.__class__") "__get__" = some (some (.builtin "getset_descriptor.__get__"))) (htk : takesIn K (.builtin "object.__class__") = some true) (hm : mroIn K D (.type "object") = some true) :
    KitX K (.ref x) (.ref D) (fun h => ∃ ox od, InstAt h x ox D od) where
  ty := fun _ _ _ ⟨_, _, I⟩ => I.type
  it := fun _ _ X _ => by
    obtain ⟨cdD, hcD, _⟩ := any_some hdct
    unfold clsIn at hcD
    split at hcD
    · rename_i c' d' cd' sl' ho
      intro A' Q' E' s' k q
      unfold isType loadHead
      exact wpAny_bind (wpAny_loadPart (k _ _ (X _ _ ho)) (wpAny_pure q))
    · cases hcD
  ne := fun h tp dd its n sl X htp => by
    obtain ⟨cdD, hcD, _⟩ := any_some hdct
    refine Bool.eq_false_iff.mpr fun q => ?_
    have e : D = tp := Value.ref.inj (beq_iff_eq.mp q)
    subst e
    unfold clsIn at hcD
    split at hcD
    · rename_i c' d' cd' sl' ho
      have z := (X _ _ ho).symm.trans htp
      cases z
    · cases hcD
  ca := fun X ⟨_, _, I⟩ k => kin_classX hga hgt hsub hdct ha hn htk hm X I k
end
end EX
end Ld
namespace Ld
open PySem PySem.Spec PyProof.Rows L2
/-- isinstance(e, c) of an exception that stands -/
def rIsX (K : PySem.W.Frag) : List V → Hp → VK → Prop := fun xs H Q => ∃ (a C d : Addr) (fs : List (Str × V)) (c : V) (cv : Value) (b : Bool), xs = [.ref a, c] ∧ ExV H a C d fs ∧ ExcC K C ∧ (∀ u, RelV c u → u = cv) ∧ PySem.W.kitOne K (.ref C) cv = some b ∧ Q (.bl b) H
theorem call_isX {X : Cx} {K : PySem.W.Frag} (hK : X.K = K := by rfl) : CallR X (.builtin "isinstance") (rIsX K) := by
  subst hK
  intro pins s σ H xs us Q I r h
  obtain ⟨a, D, d, fs, c, cv, b, rfl, z, C, hcv, e, q⟩ := h
  cases r with
  | cons rx rr =>
    cases rr with
    | cons rt rr =>
      cases rr
      cases rx
      have ec := hcv _ rt
      subst ec
      obtain ⟨oe, od, mA, J, _, _, _⟩ := z.inst I.hok
      exact PySem.W.kia_one (EX.kitx_exo C.hg C.hk C.hs C.hd C.ha C.hn C.ht C.hm) I.kIn ⟨oe, some od, J⟩ e (fun z => nomatch z) fun tk => ⟨.bl b, H, I.kept (t' := tk) fun _ _ z => z, rfl, q⟩
end Ld
/-! New lists, apart from the table of modules. -/
namespace Ld
open PySem L2 PyProof.Rows
section
variable {X : Cx}
def tLstN (t : TA) : TE := fun σ H Q => t σ H fun xs H1 => xs.length ≤ sizeLine ∧ ∀ p, H1 p = none → p ≠ sysModules → Q (.ref p) (upd H1 p (.lst xs))
theorem pe_lstN {es : List Expr} {t : TA} {pos : Pos} (h : PA X es t) : PE X (.List es pos) (tLstN t) := by
  refine ⟨fun pins s σ H Q I hq => ?_⟩
  refine wpAny_List_spliced (thn (h.run pos pins s σ H _ I hq) fun us s1 ⟨xs, H1, I1, r, z, q⟩ => ⟨by rw [← r.length]; exact z, ?_⟩)
  have hf : H1 s1.heap.objs.size = none := I1.hok.fresh (Nat.le_refl _)
  refine ⟨.ref s1.heap.objs.size, upd H1 s1.heap.objs.size (.lst xs), I1.laid (t' := s1.toks) (fun b u e => Heap.get?_push_of_some _ e) (Nat.le_refl _) ?_, rfl, q _ hf (Nat.ne_of_gt I1.big)⟩
  exact ⟨z, us, 0, r, Heap.get?_push_size _ rfl⟩
def rCatN : R2 := fun x y H Q => ∃ l b xs zs, x = .ref l ∧ y = .ref b ∧ H l = some (.lst xs) ∧ H b = some (.lst zs) ∧ xs.length + zs.length ≤ sizeLine ∧ ∀ p, H p = none → p ≠ sysModules → Q (.ref p) (upd H p (.lst (xs ++ zs)))
theorem op_catN : OpR X (binaryOp .Add) rCatN := by
  intro pins s σ H x y v u Q I rx ry h
  obtain ⟨l, b, xs, zs, rfl, rfl, hH, hB, hz, q⟩ := h
  cases rx
  cases ry
  obtain ⟨z, its, n, r, hl, e⟩ := I.lstM hH
  obtain ⟨z2, its2, n2, r2, hl2, e2⟩ := I.lstM hB
  refine PySem.P.add_list e e2 ?_ (by rw [List.size_toArray, List.size_toArray]; omega)
  have ea : its.toArray ++ its2.toArray = (its ++ its2).toArray := by simp
  rw [ea]
  exact ⟨.ref _, _, I.lnew (t' := s.toks) (r.append r2) (by rw [List.length_append]; omega), rfl, q _ I.fresh (Nat.ne_of_gt I.big)⟩
def rRepN : R2 := fun x y H Q => ∃ l k xs, x = .ref l ∧ y = .int k ∧ H l = some (.lst xs) ∧ -(2 ^ 63) ≤ k ∧ k < 2 ^ 63 ∧ xs.length * k.toNat ≤ sizeLine ∧
  ∀ p, H p = none → p ≠ sysModules → Q (.ref p) (upd H p (.lst (List.replicate k.toNat xs).flatten))
theorem op_repN : OpR X (binaryOp .Mult) rRepN := by
  intro pins s σ H x y v u Q I rx ry h
  obtain ⟨l, k, xs, rfl, rfl, hH, h1, h2, hz, q⟩ := h
  cases rx
  obtain ⟨t, rfl⟩ := ry
  obtain ⟨z, its, n, r, hl, e⟩ := I.lstM hH
  have hlen : its.toArray.size * k.toNat ≤ sizeLine := by rw [List.size_toArray, ← hl]; exact hz
  have hcap : ¬ its.toArray.size * k.toNat > (2 ^ 63 - 1) / 8 := by
    have : (sizeLine : Nat) ≤ (2 ^ 63 - 1) / 8 := by decide
    omega
  have hfit : ¬ (!Builtin.List.listFitsIndex k) = true := by
    rw [fitsIndex_both h1 h2]
    exact Bool.false_ne_true
  have hlong : ¬ Builtin.List.listTooLong (its.toArray.size * k.toNat) = true := by
    rw [notLongL hlen]
    exact Bool.false_ne_true
  have hnew : List.foldl (fun x1 x2 => x1 ++ x2) #[] (List.replicate (if its.toArray.isEmpty = true then 0 else k.toNat) its.toArray) = (List.replicate k.toNat its).flatten.toArray := by
    have f0 : ∀ m : Nat, List.foldl (fun x1 x2 => x1 ++ x2) #[] (List.replicate m its.toArray) = (List.replicate m its).flatten.toArray := fun m => by
      have := foldl_rep its m []
      rw [List.nil_append] at this
      exact this
    rw [f0]
    cases its with
    | nil => simp
    | cons a r' => rw [if_neg (by simp)]
  refine wpAny_binaryOp_repeat_ref (T := "list") (U := "int") (by decide) ⟨_, e, rfl⟩ (fun s' => typeIs_int s' k t) noFill_list_mul F.fills_int_mul F.slot_int_rmul repeat_list F.slot_int_index.lookup
    (call_meets F.slot_int_rmul (typeIs_int s k t) F.entry_int_rmul (F.args_int_rmul_2 _ _) (int___rmul___int_list k t l its.toArray n)
      ⟨e, rfl, ⟨_, e, rfl⟩, call_meets F.slot_list_mul ⟨_, e, rfl⟩ F.entry_list_mul (F.args_list_mul_2 _ _) (AutoListH.list___mul___list_int_3 l its.toArray n k t hfit hcap hlong) ⟨e, ?_⟩⟩)
  rw [hnew]
  exact ⟨.ref _, _, I.lnew (t' := s.toks) (r.rep k.toNat) (by rw [PyProof.Rows.lm_len_rep_flat, Nat.mul_comm]; exact hz), rfl, q _ I.fresh (Nat.ne_of_gt I.big)⟩
end
section
variable {K : PySem.W.Frag} {H : Hp} {v : V}
theorem Dd.int_v {i : Int} (h : Dd K H v (.int i)) : v = .int i := by
  cases h
  rfl
theorem Dd.str_v {z : Str} (h : Dd K H v (.str z)) : v = .str z := by
  cases h
  rfl
theorem Dd.its {ds : List PyData} (z : Dd K H v (.tuple ds)) : ∃ a xs, v = .ref a ∧ SqT K H a xs ∧ xs.length = ds.length ∧ ∀ (i : Nat) (x : V), xs[i]? = some x → ∃ d, ds[i]? = some d ∧ Dd K H x d := by
  cases z with
  | tup hs ha => exact ⟨_, _, rfl, hs, ha.len, ha.get⟩
end
end Ld
namespace K7
open PySem L2 Ld
def top (i : Nat) : Stmt := PySem.Challenge.pw_leadsever_k07_answers_that_differ.main.body.getD i (.Pass ⟨0, 0, 0, 0⟩)
abbrev sNum : Stmt := top 9
abbrev sWord : Stmt := top 10
abbrev sAddr : Stmt := top 11
abbrev sPlace : Stmt := top 12
/-- what is left of the top -/
structure Tx (mg : Str → Option Value) : Prop where
  isi : mg "isinstance" = none
  int : mg "int" = none
  bool : mg "bool" = none
  str : mg "str" = none
  tuple : mg "tuple" = none
  list : mg "list" = none
  len : mg "len" = none
  range : mg "range" = none
  repr : mg "repr" = none
  max : mg "max" = none
  min : mg "min" = none
  wl : ∃ t, mg "WORD_LETTERS" = some (.int 12 t)
  pw : ∃ t, mg "PLACE_WORDS" = some (.int 4 t)
  md : ∃ t, mg "MOST_DAYS" = some (.int 10000 t)
section
variable {P : Program} {w : World} {K : PySem.W.Frag} {mg : Str → Option Value} {base : Heap} {f : Addr} {fd : FuncData}
def spNum (K : PySem.W.Frag) : Sp := fun vs H Q _ => ∃ (v : V) (d : PyData) (hi : Int), vs = [v, .int hi] ∧ Dd K H v d ∧ Q (.bl (numD hi d)) H
theorem scN : FnScope ["value", "highest"] ["value", "highest"] (defScope sNum) := ⟨rfl, rfl, rfl, by decide +kernel, rfl, by decide +kernel, by decide +kernel⟩
theorem ok_num (F : Fun K "is_number_to" "is_number_to" sNum f fd) (T : Tx mg) : FnOk P w K mg base CX0 1 f fd ["value", "highest"] (spNum K) := by
  refine F.ok scN (fun vs H Q E h => ?_) (fun cdv A outer s H vs Q E hr h => ?_)
  · obtain ⟨v, d, hi, rfl, _⟩ := h
    rfl
  · obtain ⟨v, d, hi, rfl, hT, q⟩ := h
    refine ⟨_, pss_one (ps_ret (pe_and (pe_callB (call_isa "int") (by rfl) T.isi bootN (pa_cons (pv 0) (pa_cons (pe_bltn (v := .ty "int") (by rfl) T.int (by decide +kernel) rfl) pa_nil)))
      (pe_and (pe_not (pe_callB (call_isa "bool") (by rfl) T.isi bootN (pa_cons (pv 0) (pa_cons (pe_bltn (v := .ty "bool") (by rfl) T.bool (by decide +kernel) rfl) pa_nil)))) (pe_one (pe_chain op_le op_le pe_int (pv 0) (pv 1)))))), ?_⟩
    refine ⟨_, rfl, _, rfl, _, _, hT.ty, kit_int d, _, rfl, ?_⟩
    by_cases hi1 : isIntD d = true
    · rw [hi1]
      refine iteT ⟨_, rfl, _, rfl, _, _, hT.ty, kit_bool d, _, rfl, _, rfl, ?_⟩
      cases d with
      | int i =>
        have e := hT.int_v
        subst e
        refine iteT ⟨_, rfl, _, _, rfl, rfl, _, rfl, ?_⟩
        by_cases h0 : 0 ≤ i
        · rw [decide_eq_true h0]
          refine iteT ⟨_, rfl, _, _, rfl, rfl, ?_⟩
          have e : numD hi (.int i) = decide (i ≤ hi) := by simp [numD, h0]
          rw [e] at q
          exact q
        · rw [decide_eq_false h0]
          have e : numD hi (.int i) = false := by simp [numD, h0]
          rw [e] at q
          exact iteF q
      | bool b => exact iteF q
      | none => cases hi1
      | str z => cases hi1
      | list ds => cases hi1
      | tuple ds => cases hi1
      | dict ds => cases hi1
    · have hi2 : isIntD d = false := by simpa using hi1
      rw [hi2]
      have e : numD hi d = false := by
        cases d <;> first | rfl | (simp [isIntD] at hi2)
      rw [e] at q
      exact iteF q
def spWord (K : PySem.W.Frag) : Sp := fun vs H Q _ => ∃ (v : V) (d : PyData), vs = [v] ∧ Dd K H v d ∧ FitS d ∧ Q (.bl (wordD d)) H
theorem scW : FnScope ["value"] ["value"] (defScope sWord) := ⟨rfl, rfl, rfl, by decide +kernel, rfl, by decide +kernel, by decide +kernel⟩
theorem ok_word (F : Fun K "is_word" "is_word" sWord f fd) (T : Tx mg) : FnOk P w K mg base CX0 1 f fd ["value"] (spWord K) := by
  refine F.ok scW (fun vs H Q E h => ?_) (fun cdv A outer s H vs Q E hr h => ?_)
  · obtain ⟨v, d, rfl, _⟩ := h
    rfl
  · obtain ⟨v, d, rfl, hT, hf, q⟩ := h
    obtain ⟨t, hl⟩ := T.wl
    refine ⟨_, pss_cons (ps_if (PW.pt (pw_or (pt_not (pt_val (pe_callB (call_isa "str") (by rfl) T.isi bootN (pa_cons (pv 0) (pa_cons (pe_bltn (v := .ty "str") (by rfl) T.str (by decide +kernel) rfl) pa_nil)))))
        (pw_or1 (pt_not (pt_chain op_le op_le pe_int (pe_callB call_len_str (by rfl) T.len PySem.boot_len (pa_cons (pv 0) pa_nil)) (pe_glob (v := .int 12) (by rfl) hl ⟨_, rfl⟩))))))
        (pss_one (ps_ret pe_bl)) pss_nil)
      (pss_one (ps_ret (pe_and (pe_m0 PySem.F.slot_str_isascii PySem.F.type_str_isascii mt_isascii (pv 0)) (pe_and (pe_m0 PySem.F.slot_str_isalpha PySem.F.type_str_isalpha mt_isalpha (pv 0)) (pe_one (pe_m0 PySem.F.slot_str_islower PySem.F.type_str_islower mt_islower (pv 0))))))), ?_⟩
    refine ⟨_, rfl, _, rfl, _, _, hT.ty, kit_str d, _, rfl, ?_⟩
    cases d with
    | str z =>
      have e := hT.str_v
      subst e
      have hf : z.length ≤ sizeLine := (hf z rfl).size
      refine iteF ⟨_, rfl, _, rfl, hf, _, _, rfl, rfl, _, rfl, ?_⟩
      have bad : (decide (1 ≤ z.length) && decide (z.length ≤ 12)) = false → wordD (.str z) = false := fun e => by
        show wordS z = false
        unfold wordS
        rw [e, Bool.false_and]
      by_cases h1 : (1 : Int) ≤ (z.length : Int)
      · rw [decide_eq_true h1]
        refine iteT ⟨_, _, rfl, rfl, _, rfl, ?_⟩
        by_cases h2 : (z.length : Int) ≤ 12
        · rw [decide_eq_true h2]
          refine iteF ⟨_, rfl, ⟨_, rfl⟩, _, rfl, rfl, trivial, _, rfl, ?_⟩
          have e : wordD (.str z) = (Txt.isascii z && (Txt.isalpha z && Txt.islower z)) := by
            rw [lows_eq (by omega)]
            show wordS z = _
            unfold wordS
            rw [decide_eq_true (show 1 ≤ z.length by omega), decide_eq_true (show z.length ≤ 12 by omega)]
            rfl
          rw [e] at q
          cases ea : Txt.isascii z with
          | false =>
            rw [ea] at q
            exact iteF q
          | true =>
            rw [ea] at q
            refine iteT ⟨_, rfl, ⟨_, rfl⟩, _, rfl, rfl, trivial, _, rfl, ?_⟩
            cases eb : Txt.isalpha z with
            | false =>
              rw [eb] at q
              exact iteF q
            | true =>
              rw [eb] at q
              exact iteT ⟨_, rfl, ⟨_, rfl⟩, _, rfl, rfl, trivial, q⟩
        · rw [decide_eq_false h2]
          rw [bad (by rw [decide_eq_false (show ¬ z.length ≤ 12 by omega), Bool.and_false])] at q
          exact iteT q
      · rw [decide_eq_false h1]
        rw [bad (by rw [decide_eq_false (show ¬ 1 ≤ z.length by omega), Bool.false_and])] at q
        exact iteF ⟨_, rfl, iteT q⟩
    | _ => exact iteT q
def spAddr (K : PySem.W.Frag) : Sp := fun vs H Q _ => ∃ (v : V) (d : PyData), vs = [v] ∧ Dd K H v d ∧ Fits d ∧ Q (.bl (addrD d)) H
theorem scA : FnScope ["value", "word"] ["value"] (defScope sAddr) := ⟨rfl, rfl, rfl, by decide +kernel, rfl, by decide +kernel, by decide +kernel⟩
theorem all_take {ds : List PyData} {p : PyData → Bool} {i : Nat} {d : PyData} (h : ds[i]? = some d) : (ds.take (i + 1)).all p = ((ds.take i).all p && p d) := by
  rw [List.take_succ, h]
  simp
theorem ok_addr (Fd : Fun K "is_address" "is_address" sAddr f fd) (T : Tx mg) (D : Df P w K mg base 1 "is_word" ["value"] (spWord K)) : FnOk P w K mg base CX0 2 f fd ["value"] (spAddr K) := by
  refine Fd.ok scA (fun vs H Q E h => ?_) (fun cdv A outer s H vs Q E hr h => ?_)
  · obtain ⟨v, d, rfl, _⟩ := h
    rfl
  · obtain ⟨v, d, rfl, hT, hf, q⟩ := h
    refine ⟨_, pss_cons (ps_if (pt_not (pt_val (pe_callB (call_isa "tuple") (by rfl) T.isi bootN (pa_cons (pv 0) (pa_cons (pe_bltn (v := .ty "tuple") (by rfl) T.tuple (by decide +kernel) rfl) pa_nil))))) (pss_one (ps_ret pe_bl)) pss_nil)
      (pss_cons (ps_for PassesOwn.never rfl (pi_tup (pv 0)) (pg_name (i := 1) scA.nd rfl (Or.inl rfl)) (pss_one (ps_if (pt_not (pt_val (pe_df D hr (pa_cons (pv 1) pa_nil)))) (pss_one (ps_ret pe_bl)) pss_nil)))
      (pss_one (ps_ret pe_bl))), ?_⟩
    refine ⟨_, rfl, _, rfl, _, _, hT.ty, kit_tuple d, _, rfl, ?_⟩
    cases d with
    | tuple ds =>
      obtain ⟨a, xs, rfl, hs, hl, hi⟩ := hT.its
      refine iteF ⟨_, rfl, a, rfl, ⟨_, hs⟩, for_tup (K := K) (a := a) (xs := xs) (fun i σ H2 => H2 = H ∧ (∃ u, σ = [some (.ref a), u]) ∧ (ds.take i).all wordD = true) ⟨rfl, ⟨none, rfl⟩, by simp⟩ (fun i σ H2 _ h => by rw [h.1]; exact hs) ?_ ?_⟩
      · rintro i x σ H2 hx ⟨rfl, ⟨u, rfl⟩, ha⟩
        obtain ⟨d, h1, h2⟩ := hi i x hx
        refine ⟨_, rfl, x, d, rfl, h2, (hf.2 ds rfl).2 d (List.mem_of_getElem? h1), _, rfl, ?_⟩
        cases e : wordD d with
          | true =>
            refine iteF ⟨rfl, ⟨_, rfl⟩, ?_⟩
            rw [all_take h1, ha, e]
            rfl
          | false =>
            refine iteT ?_
            have e2 : addrD (.tuple ds) = false := by
              show ds.all wordD = false
              exact List.all_eq_false.mpr ⟨d, List.mem_of_getElem? h1, by rw [e]; exact Bool.false_ne_true⟩
            rw [e2] at q
            exact q
      · rintro σ H2 ⟨rfl, ⟨u, rfl⟩, ha⟩
        have e2 : addrD (.tuple ds) = true := by
          show ds.all wordD = true
          rw [hl, List.take_length] at ha
          exact ha
        rw [e2] at q
        exact q
    | _ => exact iteT q
end
section
variable {P : Program} {w : World} {K : PySem.W.Frag} {mg : Str → Option Value} {base : Heap} {f : Addr} {fd : FuncData}
def placeD : PyData → Bool
  | .tuple ds => decide (ds.length ≤ 4) && ds.all wordD
  | _ => false
def spPlace (K : PySem.W.Frag) : Sp := fun vs H Q _ => ∃ (v : V) (d : PyData), vs = [v] ∧ Dd K H v d ∧ Fits d ∧ Q (.bl (placeD d)) H
theorem scP : FnScope ["value"] ["value"] (defScope sPlace) := ⟨rfl, rfl, rfl, by decide +kernel, rfl, by decide +kernel, by decide +kernel⟩
theorem ok_place (Fd : Fun K "is_place" "is_place" sPlace f fd) (T : Tx mg) (D : Df P w K mg base 2 "is_address" ["value"] (spAddr K)) : FnOk P w K mg base CX0 3 f fd ["value"] (spPlace K) := by
  refine Fd.ok scP (fun vs H Q E h => ?_) (fun cdv A outer s H vs Q E hr h => ?_)
  · obtain ⟨v, d, rfl, _⟩ := h
    rfl
  · obtain ⟨v, d, rfl, hT, hf, q⟩ := h
    obtain ⟨t, hl⟩ := T.pw
    refine ⟨_, pss_one (ps_ret (pe_and (pe_callB (call_isa "tuple") (by rfl) T.isi bootN (pa_cons (pv 0) (pa_cons (pe_bltn (v := .ty "tuple") (by rfl) T.tuple (by decide +kernel) rfl) pa_nil)))
      (pe_and (pe_cmpR op_le (pe_callB call_len_seq (by rfl) T.len PySem.boot_len (pa_cons (pv 0) pa_nil)) (pe_glob (v := .int 4) (by rfl) hl ⟨_, rfl⟩) (nomark _)) (pe_one (pe_df D hr (pa_cons (pv 0) pa_nil)))))), ?_⟩
    refine ⟨_, rfl, _, rfl, _, _, hT.ty, kit_tuple d, _, rfl, ?_⟩
    cases d with
    | tuple ds =>
      obtain ⟨a, xs, rfl, hs, hl, hi⟩ := hT.its
      refine iteT ⟨_, rfl, a, xs, rfl, .inr hs, _, _, rfl, rfl, _, rfl, ?_⟩
      by_cases h4 : ds.length ≤ 4
      · rw [decide_eq_true (by omega)]
        refine iteT ⟨_, rfl, _, .tuple ds, rfl, hT, hf, ?_⟩
        have e : placeD (.tuple ds) = addrD (.tuple ds) := by
          show (decide (ds.length ≤ 4) && ds.all wordD) = ds.all wordD
          rw [decide_eq_true h4, Bool.true_and]
        rw [e] at q
        exact q
      · rw [decide_eq_false (by omega)]
        have e : placeD (.tuple ds) = false := by
          show (decide (ds.length ≤ 4) && ds.all wordD) = false
          rw [decide_eq_false h4, Bool.false_and]
        rw [e] at q
        exact iteF q
    | _ => exact iteF q
end
end K7
namespace K7
open PySem L2 Ld
abbrev sWell : Stmt := top 30
abbrev sDraw : Stmt := top 31
abbrev sChoose : Stmt := top 32
section
variable {P : Program} {w : World} {K : PySem.W.Frag} {mg : Str → Option Value} {base : Heap} {f : Addr} {fd : FuncData}
def spWell (K : PySem.W.Frag) : Sp := fun vs H Q _ => ∃ (a : Addr) (ns : List Int) (j : Int) (B : Nat), vs = [.ref a, .int j] ∧ SqL K H a (ns.map V.int) ∧ ns.length ≤ 63 ∧ 60 ≤ B ∧ B ≤ 2000000 ∧ (∀ z ∈ ns, Builtin.Int.intBits z ≤ B) ∧ 0 ≤ j ∧ j < 100 ∧
  ∀ wa H', H wa = none → Well H' wa → Same H H' → Q (.ref wa) H'
theorem scWell : FnScope ["_law_script", "_law_start", "_law_mixed", "_law_entry", "_law_digits"] ["_law_script", "_law_start"] (defScope sWell) := ⟨rfl, rfl, rfl, by decide +kernel, rfl, by decide +kernel, by decide +kernel⟩
theorem ok_well (Fd : Fun K "_law_well" "_law_well" sWell f fd) (T : Tx mg) : FnOk P w K mg base CX0 1 f fd ["_law_script", "_law_start"] (spWell K) := by
  refine Fd.ok scWell (fun vs H Q E h => ?_) (fun cdv A outer s H vs Q E hr h => ?_)
  · obtain ⟨a, ns, j, B, rfl, _⟩ := h
    rfl
  · obtain ⟨a, ns, j, B, rfl, hS, hlen, hB, hB2, hb, hj0, hj, q⟩ := h
    refine ⟨_, pss_cons (ps_set (i := 2) scWell.nd rfl (Or.inl rfl) (pe_op op_add pe_int (pe_op op_mul (pv 1) pe_int)))
      (pss_cons (ps_for PassesOwn.never rfl (pi_list (pv 0)) (pg_name (i := 3) scWell.nd rfl (Or.inl rfl))
        (pss_one (ps_set (i := 2) scWell.nd rfl (Or.inl rfl) (pe_op op_add (pe_op op_mod (pe_callTy call_int1 (by rfl) T.int (by decide +kernel) (pa_cons (pe_op op_powB (pe_op op_add (pe_op op_add (pe_op op_mulB (pv 2) pe_int) (pe_op op_mulB (pv 3) (pv 3))) pe_int) pe_int) pa_nil)) pe_int) pe_int))))
      (pss_cons (ps_set (i := 4) scWell.nd rfl (Or.inl rfl) (pe_ifExp (PW.pt (pw_and (pt_cmpR op_lt (pv 1) (pe_callB call_len_seq (by rfl) T.len PySem.boot_len (pa_cons (pv 0) pa_nil)) (nomark _))
          (pw_and1 (pt_cmpR op_ge (pe_ix ix_list (pv 0) (pv 1) (fun _ _ => rfl)) (pe_op op_pow pe_int pe_int) (nomark _)))))
          (pe_op op_sub (pe_ix ix_list (pv 0) (pv 1) (fun _ _ => rfl)) (pe_op op_pow pe_int pe_int)) pe_int))
      (pss_one (ps_ret (pe_disp (pps_cons pe_str (pv 4) (pps_cons pe_str (pv 2) pps_nil)) (by rfl) (by rfl) (fun z => by cases z) (by decide)))))), ?_⟩
    refine ⟨_, rfl, _, _, rfl, rfl, .inr ⟨by decide, by decide⟩, _, _, rfl, rfl, ?_⟩
    refine ⟨_, rfl, a, rfl, ⟨_, hS⟩, for_list (K := K) (a := a) (xs := ns.map V.int) (fun i σ H2 => H2 = H ∧ ∃ (m : Int) (u : Option V), σ = [some (.ref a), some (.int j), some (.int m), u, none] ∧ 0 ≤ m ∧ m < 2 ^ 40)
      ⟨rfl, _, none, rfl, by omega, by omega⟩ (fun i σ H2 _ h => by rw [h.1]; exact hS) ?_ ?_⟩
    · rintro i y σ H2 hi ⟨rfl, m, u, rfl, h0, h1⟩
      obtain ⟨z, hz, rfl⟩ := list_get hi
      have bz := hb z (List.mem_of_getElem? hz)
      have hm := mul_small (c := 70019) h0 h1 (by decide) (by decide)
      have hw := sq_wide (of_bits bz) hm hB
      have hbw := bits_of hw
      refine ⟨_, rfl, _, _, rfl, rfl, ?_, _, rfl, _, rfl, _, _, rfl, rfl, ?_, _, _, rfl, rfl, _, _, rfl, rfl, _, _, rfl, rfl, ?_, .inl ⟨_, rfl, _, _, rfl, rfl, (show (0 : Int) < 2147483489 by decide), _, _, rfl, rfl, ?_⟩⟩
      · have := bits_small h0 h1
        show Builtin.Int.intBits m + Builtin.Int.intBits 70019 ≤ 2 ^ 27
        have e : Builtin.Int.intBits 70019 ≤ 17 := by decide +kernel
        omega
      · show Builtin.Int.intBits z + Builtin.Int.intBits z ≤ 2 ^ 27
        omega
      · refine ⟨by decide, ?_⟩
        omega
      · refine ⟨rfl, _, _, rfl, ?_, ?_⟩
        · have := Int.emod_nonneg ((m * 70019 + z * z + 59) ^ (2 : Int).toNat) (show (2147483489 : Int) ≠ 0 by decide)
          omega
        · have := Int.emod_lt_of_pos ((m * 70019 + z * z + 59) ^ (2 : Int).toNat) (show (0 : Int) < 2147483489 by decide)
          omega
    · rintro σ H2 ⟨rfl, m, u, rfl, h0, h1⟩
      have last : ∀ dg : Int, 0 ≤ dg → tDisp [((fun σ H Q => Q (V.str "digits") H : TE), (tVar 4 : TE)), ((fun σ H Q => Q (V.str "mixed") H : TE), (tVar 2 : TE))] [some (.ref a), some (.int j), some (.int m), u, some (.int dg)] H2 Q := fun dg hd => by
        intro p hp
        refine ⟨_, rfl, _, rfl, upd_same, [(kd, V.int dg), (km, V.int m)], rfl, (show 2 ≤ 15 by decide), ?_⟩
        refine q p _ hp ⟨dg, m, by rw [upd_same, merge_well], hd, h0, h1⟩ fun b o e => ?_
        rw [upd_ne (ne_of_none e hp), upd_ne (ne_of_none e hp)]
        exact e
      refine ⟨_, rfl, _, rfl, a, _, rfl, .inl hS, _, _, rfl, rfl, _, rfl, ?_⟩
      by_cases hjl : j < (((ns.map V.int).length : Nat) : Int)
      · rw [decide_eq_true hjl]
        rw [List.length_map] at hjl
        obtain ⟨z, hz⟩ : ∃ z, ns[j.toNat]? = some z := ⟨ns[j.toNat]'(by omega), List.getElem?_eq_getElem _⟩
        have hat : atI (ns.map V.int) j = some (.int z) := at_of (j := j.toNat) (by omega) (by rw [List.getElem?_map, hz]; rfl)
        have cp : CPow 10 18 := ⟨by decide, by decide, by decide⟩
        refine iteT ⟨_, rfl, _, rfl, a, _, _, _, rfl, rfl, hS, hat, _, _, rfl, rfl, cp, _, _, rfl, rfl, _, rfl, ?_⟩
        by_cases hz2 : (10 : Int) ^ (18 : Int).toNat ≤ z
        · rw [decide_eq_true hz2]
          exact iteT ⟨_, rfl, _, rfl, a, _, _, _, rfl, rfl, hS, hat, _, _, rfl, rfl, cp, _, _, rfl, rfl, last _ (by omega)⟩
        · rw [decide_eq_false hz2]
          exact iteF (last 0 (by decide))
      · rw [decide_eq_false hjl]
        exact iteF (last 0 (by decide))
def spDraw : Sp := fun vs H Q _ => ∃ (wa : Addr) (n : Int), vs = [.ref wa, .int n] ∧ Well H wa ∧ 0 < n ∧ n < 1073741824 ∧ ∀ (k : Int) H', 0 ≤ k → k < n → Well H' wa → Sb wa H H' → Q (.int k) H'
theorem scDraw : FnScope ["_law_well_here", "_law_many", "_law_found"] ["_law_well_here", "_law_many"] (defScope sDraw) := ⟨rfl, rfl, rfl, by decide +kernel, rfl, by decide +kernel, by decide +kernel⟩
theorem ok_draw (Fd : Fun K "_law_draw" "_law_draw" sDraw f fd) (T : Tx mg) : FnOk P w K mg base CX0 1 f fd ["_law_well_here", "_law_many"] spDraw := by
  refine Fd.ok scDraw (fun vs H Q E h => ?_) (fun cdv A outer s H vs Q E hr h => ?_)
  · obtain ⟨wa, n, rfl, _⟩ := h
    rfl
  · obtain ⟨wa, n, rfl, ⟨d, m, hw, hd, hm0, hm1⟩, hn0, hn1, q⟩ := h
    have hu := hu_of hr
    refine ⟨_, pss_cons (ps_if (pt_cmpR op_ge (pe_dget hu (pv 0) pe_str (fun _ _ => rfl)) (pv 1) (nomark _))
        (pss_cons (ps_set (i := 2) scDraw.nd rfl (Or.inl rfl) (pe_op op_mod (pe_callTy call_int1 (by rfl) T.int (by decide +kernel) (pa_cons (pe_dget hu (pv 0) pe_str (fun _ _ => rfl)) pa_nil)) (pv 1)))
        (pss_cons (ps_dput hu (pv 0) pe_str (pe_op op_fdiv (pe_dget hu (pv 0) pe_str (fun _ _ => rfl)) (pv 1)) rfl)
        (pss_one (ps_ret (pv 2))))) pss_nil)
      (pss_cons (ps_dput hu (pv 0) pe_str (pe_op op_mod (pe_callTy call_int1 (by rfl) T.int (by decide +kernel) (pa_cons (pe_op op_add (pe_op op_mul (pe_dget hu (pv 0) pe_str (fun _ _ => rfl)) pe_int) pe_int) pa_nil)) pe_int) rfl)
      (pss_one (ps_ret (pe_op op_mod (pe_op op_fdiv (pe_op op_mod (pe_callTy call_int1 (by rfl) T.int (by decide +kernel) (pa_cons (pe_op op_pow (pe_op op_mod (pe_callTy call_int1 (by rfl) T.int (by decide +kernel) (pa_cons (pe_op op_pow (pe_dget hu (pv 0) pe_str (fun _ _ => rfl)) pe_int) pa_nil)) pe_int) pe_int) pa_nil)) pe_int) pe_int) (pv 1))))), ?_⟩
    have gd : ∀ {H2 : Hp} {d m : Int}, H2 wa = some (.dK (wellKv d m)) → DGet H2 wa (.str "digits") (some (.int d)) := fun {H2 d m} h => by
      have z := DGet.k (k := kd) h
      rw [well_dig] at z
      exact z
    have gm : ∀ {H2 : Hp} {d m : Int}, H2 wa = some (.dK (wellKv d m)) → DGet H2 wa (.str "mixed") (some (.int m)) := fun {H2 d m} h => by
      have z := DGet.k (k := km) h
      rw [well_mix] at z
      exact z
    refine ⟨_, rfl, wa, _, rfl, gd hw, _, rfl, _, _, rfl, rfl, _, rfl, ?_⟩
    by_cases hdn : n ≤ d
    · rw [decide_eq_true hdn]
      refine iteT ⟨_, rfl, wa, _, rfl, gd hw, .inl ⟨_, rfl, _, rfl, _, _, rfl, rfl, hn0, ?_⟩⟩
      refine ⟨_, rfl, wa, _, rfl, gd hw, _, rfl, _, _, rfl, rfl, ⟨hn0, hn1⟩, _, rfl, wa, _, rfl, DPut.k (k := kd) hw (show 2 < sizeLine by decide), _, rfl, ?_⟩
      rw [put_dig]
      exact q _ _ (Int.emod_nonneg _ (by omega)) (Int.emod_lt_of_pos _ hn0) ⟨_, m, upd_same, Int.ediv_nonneg hd (by omega), hm0, hm1⟩ (.put wa H _)
    · rw [decide_eq_false hdn]
      have m0 := Int.emod_nonneg (m * 44111 + 5903) (show (2147483647 : Int) ≠ 0 by decide)
      have m1 := Int.emod_lt_of_pos (m * 44111 + 5903) (show (0 : Int) < 2147483647 by decide)
      refine iteF ⟨_, rfl, wa, _, rfl, gm hw, _, _, rfl, rfl, .inr ⟨by decide, by decide⟩, _, _, rfl, rfl, .inl ⟨_, rfl, _, _, rfl, rfl, (show (0 : Int) < 2147483647 by decide), _, rfl, wa, _, rfl, DPut.k (k := km) hw (show 2 < sizeLine by decide), ?_⟩⟩
      rw [put_mix]
      generalize (m * 44111 + 5903) % 2147483647 = m' at m0 m1
      have n0 := Int.emod_nonneg (m' ^ (2 : Int).toNat) (show (2147483549 : Int) ≠ 0 by decide)
      have n1 := Int.emod_lt_of_pos (m' ^ (2 : Int).toNat) (show (0 : Int) < 2147483549 by decide)
      refine ⟨_, rfl, wa, _, rfl, gm upd_same, _, _, rfl, rfl, ⟨by decide, by decide, by omega⟩, .inl ⟨_, rfl, _, _, rfl, rfl, (show (0 : Int) < 2147483549 by decide), ?_⟩⟩
      generalize m' ^ (2 : Int).toNat % 2147483549 = k at n0 n1
      refine ⟨_, _, rfl, rfl, ⟨by decide, by decide, by omega⟩, .inl ⟨_, rfl, _, _, rfl, rfl, (show (0 : Int) < 1000000021 by decide), _, _, rfl, rfl, ⟨by decide, by decide⟩, _, rfl, _, _, rfl, rfl, hn0, ?_⟩⟩
      exact q _ _ (Int.emod_nonneg _ (by omega)) (Int.emod_lt_of_pos _ hn0) ⟨d, m', upd_same, hd, m0, by omega⟩ (.put wa H _)
def spChoose (K : PySem.W.Frag) : Sp := fun vs H Q _ => ∃ (wa la : Addr) (xs : List V), vs = [.ref wa, .ref la] ∧ Well H wa ∧ SqL K H la xs ∧ xs ≠ [] ∧ xs.length ≤ 1000 ∧ ∀ v H', v ∈ xs → Well H' wa → Sb wa H H' → Q v H'
theorem scChoose : FnScope ["_law_well_here", "_law_things"] ["_law_well_here", "_law_things"] (defScope sChoose) := ⟨rfl, rfl, rfl, by decide +kernel, rfl, by decide +kernel, by decide +kernel⟩
theorem ok_choose (Fd : Fun K "_law_choose" "_law_choose" sChoose f fd) (T : Tx mg) (D : Df P w K mg base 1 "_law_draw" ["_law_well_here", "_law_many"] spDraw) : FnOk P w K mg base CX0 2 f fd ["_law_well_here", "_law_things"] (spChoose K) := by
  refine Fd.ok scChoose (fun vs H Q E h => ?_) (fun cdv A outer s H vs Q E hr h => ?_)
  · obtain ⟨wa, la, xs, rfl, _⟩ := h
    rfl
  · obtain ⟨wa, la, xs, rfl, hw, hS, hne, hlen, q⟩ := h
    refine ⟨_, pss_one (ps_ret (pe_ix ix_list (pv 1) (pe_df D hr (pa_cons (pv 0) (pa_cons (pe_callB call_len_seq (by rfl) T.len PySem.boot_len (pa_cons (pv 1) pa_nil)) pa_nil))) (fun _ _ => rfl))), ?_⟩
    have hl : 0 < xs.length := List.length_pos_iff.mpr hne
    refine ⟨_, rfl, _, rfl, _, rfl, la, xs, rfl, .inl hS, wa, _, rfl, hw, by omega, by omega, fun k H' h0 h1 W' s' => ?_⟩
    obtain ⟨v, hv⟩ : ∃ v, xs[k.toNat]? = some v := ⟨xs[k.toNat]'(by omega), List.getElem?_eq_getElem _⟩
    exact ⟨la, xs, _, v, rfl, rfl, seqL hw s' hS, at_of (j := k.toNat) (by omega) hv, q v H' (List.mem_of_getElem? hv) W' s'⟩
end
end K7
/-! Data of any kind against a text. -/
namespace Ld
namespace EQ
open PySem PySem.Builtin PyProof.Rows PySem.SeqAt PySem.MeetsSeq
section
variable {A : Around} {s : Shared}
theorem dict_declines_str (l : Addr) (es : Array DictEntry) (ep : Nat) (dd : Option Addr) (sl : Array (Option Value)) (b : Str) (u : Tok) :
    Meets (Builtin.«dict.__eq__» ⟨[.ref l, .str b u], []⟩) (fun _ R s => s.heap.get? l = some { cls := .type "dict", dict := dd, data := .dict es ep, slots := sl } ∧ R (.ok (.ret .notImplemented)) s) :=
  .of_wp fun prog w A R s h => by obtain ⟨hp, g, d, tk, os⟩ := s; obtain ⟨hl, h⟩ := h; have f1 := F.sub_str_dict; wp_walk using wpAny_loadPart' hl; exact ⟨_, rfl, h⟩
theorem str_declines_dict (b : Str) (u : Tok) (l : Addr) (es : Array DictEntry) (ep : Nat) (dd : Option Addr) (sl : Array (Option Value)) :
    Meets (Builtin.«str.__eq__» ⟨[.str b u, .ref l], []⟩) (fun _ R s => s.heap.get? l = some { cls := .type "dict", dict := dd, data := .dict es ep, slots := sl } ∧ R (.ok (.ret .notImplemented)) s) :=
  .of_wp fun prog w A R s h => by obtain ⟨hp, g, d, tk, os⟩ := s; obtain ⟨hl, h⟩ := h; wp_walk using wpAny_loadPart' hl, wpAny_load hl; exact ⟨_, rfl, h⟩
theorem rc_dict_str {l : Addr} {es : Array DictEntry} {ep : Nat} {dd : Option Addr} {sl : Array (Option Value)} (b : Str) (u : Tok) (ho : s.heap.get? l = some { cls := .type "dict", dict := dd, data := .dict es ep, slots := sl }) (hu : A.units < cLine) : RcAt A s (.ref l) (.str b u) false := fun prog w E Q h => by
  exact rc_eq_decline_or (k := false) ⟨_, ho, rfl⟩ (typeIs_str s b u) (by decide) F.sub_str_dict F.slot_dict_eq F.slot_str_eq_refl
    (fun _ hq => call_meets F.slot_dict_eq ⟨_, ho, rfl⟩ F.entry_dict_eq (F.args_dict_eq_2 _ _) (dict_declines_str l es ep dd sl b u) ⟨ho, hq⟩)
    (fun _ hq => call_meets F.slot_str_eq_refl (typeIs_str s b u) F.entry_str_eq (F.args_str_eq_2 _ _) (str_declines_dict b u l es ep dd sl) ⟨ho, hq⟩)
    (fun _ hq => wpAny_of_eq (rfl : isSame (.ref l) (.str b u) = pure false) hq) (.inr hu) h
end
end EQ
end Ld
namespace Ld
open PySem L2 PyProof.Rows
def txtD : PyData → Str → Bool
  | .str x, z => decide (x = z)
  | _, _ => false
/-- any data == a text -/
def rEqTx (K : PySem.W.Frag) : R2 := fun x y H Q => ∃ d z, Dd K H x d ∧ y = .str z ∧ Q (.bl (txtD d z)) H
theorem op_eqTx {X : Cx} (hu : X.A.units < cLine) : OpR X (compareOp .Eq) (rEqTx X.K) := by
  intro pins s σ H x y v u Q I rx ry h
  obtain ⟨d, z, hd, rfl, q⟩ := h
  have flat : ∀ b : Bool, flatV x = true → (decide (x = V.str z)) = b → txtD d z = b → EP X pins σ Q (.bool b) s := fun b _ _ e => by
    rw [e] at q
    exact ⟨.bl b, H, I, rfl, q⟩
  cases hd with
  | non => exact op_eq pins s σ H _ _ v u Q I rx ry ⟨rfl, q⟩
  | bl b => exact op_eq pins s σ H _ _ v u Q I rx ry ⟨rfl, q⟩
  | int i => exact op_eq pins s σ H _ _ v u Q I rx ry ⟨rfl, q⟩
  | str x0 =>
    refine op_eq pins s σ H _ _ v u Q I rx ry ⟨rfl, ?_⟩
    have e : decide (V.str x0 = V.str z) = txtD (.str x0) z := by
      show decide (V.str x0 = V.str z) = decide (x0 = z)
      by_cases h : x0 = z
      · subst h
        simp
      · have : ¬ V.str x0 = V.str z := fun e => h (V.str.inj e)
        rw [decide_eq_false this, decide_eq_false h]
    rw [e]
    exact q
  | lst hs _ _ =>
    cases rx
    obtain ⟨t, rfl⟩ := ry
    obtain ⟨its, r, ht, hz⟩ := I.list hs
    exact SeqAt.RcAt.list_str z t ht.isList hu X.prog X.w X.xe _ ⟨.bl false, H, I, rfl, q⟩
  | tup hs _ =>
    cases rx
    obtain ⟨t, rfl⟩ := ry
    obtain ⟨its, r, ht, hz⟩ := I.tuple hs
    exact SeqAt.RcAt.tuple_str z t ht hu X.prog X.w X.xe _ ⟨.bl false, H, I, rfl, q⟩
  | dct hk _ _ =>
    cases rx
    obtain ⟨t, rfl⟩ := ry
    obtain ⟨_, hm, vs, kvr, o, es, ep, e1, e2, e3, _⟩ := dk_of I.hok hk
    obtain ⟨oc, od, odt, osl⟩ := o
    dsimp only at e2 e3
    subst e3
    obtain ⟨e4, e5⟩ := e2
    dsimp only at e4
    subst e4
    exact EQ.rc_dict_str z t e1 hu X.prog X.w X.xe _ ⟨.bl false, H, I, rfl, q⟩
end Ld
namespace K7
open PySem L2 Ld
abbrev sRule : Stmt := top 22
abbrev sAnswer : Stmt := top 23
/-! ### what is a rule, over data -/
mutual
/-- all texts are short and plain, all tuples short -/
def fitB : PyData → Bool
  | .str z => ascB z
  | .tuple ds => decide (ds.length ≤ 1000) && fitAll ds
  | .list ds => fitAll ds
  | _ => true
def fitAll : List PyData → Bool
  | [] => true
  | d :: ds => fitB d && fitAll ds
end
theorem fitAll_mem : ∀ {ds : List PyData}, fitAll ds = true → ∀ d ∈ ds, fitB d = true
  | [], _, d, h => nomatch h
  | e :: ds, z, d, h => by
    have z2 := Bool.and_eq_true_iff.mp (show (fitB e && fitAll ds) = true from z)
    rcases List.mem_cons.mp h with h | h
    · rw [h]
      exact z2.1
    · exact fitAll_mem z2.2 d h
theorem fitS_of {d : PyData} (h : fitB d = true) : FitS d := fun z e => by
  subst e
  exact asc_of h
theorem fits_of {d : PyData} (h : fitB d = true) : Fits d := ⟨fitS_of h, fun ds e => by
  subst e
  have z := Bool.and_eq_true_iff.mp (show (decide (ds.length ≤ 1000) && fitAll ds) = true from h)
  exact ⟨Nat.le_trans (of_decide_eq_true z.1) (by decide), fun e he => fitS_of (fitAll_mem z.2 e he)⟩⟩
theorem fit_mem {ds : List PyData} (h : fitB (.tuple ds) = true) : ∀ d ∈ ds, fitB d = true := fitAll_mem (Bool.and_eq_true_iff.mp (show (decide (ds.length ≤ 1000) && fitAll ds) = true from h)).2
def toD : List PyData → Bool
  | [p, n] => placeD p && numD 10000 n
  | _ => false
def ownD : List PyData → Bool
  | [x] => wordD x
  | _ => false
def answerD (own : Str) : PyData → Bool
  | .tuple (k :: r) => if txtD k "gone" = true then r.isEmpty else if txtD k "to" = true then toD r else txtD k own && ownD r
  | _ => false
theorem answerD_cons (own : Str) (k : PyData) (r : List PyData) : answerD own (.tuple (k :: r)) = if txtD k "gone" = true then r.isEmpty else if txtD k "to" = true then toD r else txtD k own && ownD r := rfl
def ruleT (s p a : PyData) : Bool := match s with
  | .str z => (decide (z = "exact") && (placeD p && answerD "page" a)) || (decide (z = "open") && (placeD p && answerD "section" a))
  | _ => false
def ruleL : List PyData → Bool
  | [s, p, a] => ruleT s p a
  | _ => false
def ruleD : PyData → Bool
  | .tuple ds => ruleL ds
  | _ => false
section
variable {P : Program} {w : World} {K : PySem.W.Frag} {mg : Str → Option Value} {base : Heap} {f : Addr} {fd : FuncData}
def spAnswer (K : PySem.W.Frag) : Sp := fun vs H Q _ => ∃ (v : V) (d : PyData) (own : Str), vs = [v, .str own] ∧ Dd K H v d ∧ fitB d = true ∧ Q (.bl (answerD own d)) H
theorem scAn : FnScope ["value", "own_kind", "kind"] ["value", "own_kind"] (defScope sAnswer) := ⟨rfl, rfl, rfl, by decide +kernel, rfl, by decide +kernel, by decide +kernel⟩
theorem at0 {x : V} {xs : List V} : atI (x :: xs) 0 = some x := at_of (j := 0) rfl rfl
theorem at1 {x y : V} {xs : List V} : atI (x :: y :: xs) 1 = some y := at_of (j := 1) rfl rfl
theorem at2 {x y z : V} {xs : List V} : atI (x :: y :: z :: xs) 2 = some z := at_of (j := 2) rfl rfl
theorem len_is {xs : List V} {n : Nat} : decide (V.int (xs.length : Int) = V.int (n : Int)) = decide (xs.length = n) := by
  by_cases h : xs.length = n
  · rw [h]
    simp
  · rw [decide_eq_false h, decide_eq_false (fun e => h (by injection e with e; omega))]
theorem ok_answer (Fd : Fun K "_is_answer" "_is_answer" sAnswer f fd) (T : Tx mg) (DN : Df P w K mg base 1 "is_number_to" ["value", "highest"] (spNum K)) (DW : Df P w K mg base 1 "is_word" ["value"] (spWord K)) (DP : Df P w K mg base 3 "is_place" ["value"] (spPlace K)) :
    FnOk P w K mg base CX0 4 f fd ["value", "own_kind"] (spAnswer K) := by
  refine Fd.ok scAn (fun vs H Q E h => ?_) (fun cdv A outer s H vs Q E hr h => ?_)
  · obtain ⟨v, d, own, rfl, _⟩ := h
    rfl
  · obtain ⟨v, d, own, rfl, hT, hf, q⟩ := h
    obtain ⟨t, hl⟩ := T.md
    have hu := Nat.lt_of_le_of_lt (Nat.le_add_right _ 64) hr.units
    refine ⟨_, pss_cons (ps_if (PW.pt (pw_or (pt_not (pt_val (pe_callB (call_isa "tuple") (by rfl) T.isi bootN (pa_cons (pv 0) (pa_cons (pe_bltn (v := .ty "tuple") (by rfl) T.tuple (by decide +kernel) rfl) pa_nil)))))
        (pw_or1 (pt_not (pt_truth (pv 0) (fun _ => rfl)))))) (pss_one (ps_ret pe_bl)) pss_nil)
      (pss_cons (ps_set (i := 2) scAn.nd rfl (Or.inl rfl) (pe_ix ix_tup (pv 0) pe_int (fun _ _ => rfl)))
      (pss_cons (ps_if (pt_cmpR (op_eqTx hu) (pv 2) pe_str (nomark _)) (pss_one (ps_ret (pe_cmpR op_eq (pe_callB call_len_seq (by rfl) T.len PySem.boot_len (pa_cons (pv 0) pa_nil)) pe_int (nomark _)))) pss_nil)
      (pss_cons (ps_if (pt_cmpR (op_eqTx hu) (pv 2) pe_str (nomark _)) (pss_one (ps_ret (pe_and (pe_cmpR op_eq (pe_callB call_len_seq (by rfl) T.len PySem.boot_len (pa_cons (pv 0) pa_nil)) pe_int (nomark _))
          (pe_and (pe_df DP hr (pa_cons (pe_ix ix_tup (pv 0) pe_int (fun _ _ => rfl)) pa_nil)) (pe_one (pe_df DN hr (pa_cons (pe_ix ix_tup (pv 0) pe_int (fun _ _ => rfl)) (pa_cons (pe_glob (v := .int 10000) (by rfl) hl ⟨_, rfl⟩) pa_nil)))))))) pss_nil)
      (pss_one (ps_ret (pe_and (pe_cmpR (op_eqTx hu) (pv 2) (pv 1) (nomark _)) (pe_and (pe_cmpR op_eq (pe_callB call_len_seq (by rfl) T.len PySem.boot_len (pa_cons (pv 0) pa_nil)) pe_int (nomark _))
          (pe_one (pe_df DW hr (pa_cons (pe_ix ix_tup (pv 0) pe_int (fun _ _ => rfl)) pa_nil)))))))))), ?_⟩
    refine ⟨_, rfl, _, rfl, _, _, hT.ty, kit_tuple d, _, rfl, ?_⟩
    cases d with
    | tuple ds =>
      obtain ⟨a, xs, rfl, hs, hl2, hi⟩ := hT.its
      have hfm := fit_mem hf
      refine iteF ⟨_, rfl, _, .inr (.inl ⟨xs, hs, rfl⟩), ?_⟩
      cases ds with
      | nil =>
        have e := List.length_eq_zero_iff.mp hl2
        subst e
        exact iteT q
      | cons k r =>
        cases xs with
        | nil => cases hl2
        | cons x xr =>
          obtain ⟨d0, z0, D0⟩ := hi 0 x rfl
          cases z0
          refine iteF ⟨_, rfl, a, _, _, _, rfl, rfl, hs, at0, ?_⟩
          rw [answerD_cons] at q
          refine ⟨_, rfl, k, _, D0, rfl, _, rfl, ?_⟩
          by_cases g : txtD k "gone" = true
          · rw [if_pos g] at q
            rw [g]
            refine iteT ⟨_, rfl, a, _, rfl, .inr hs, rfl, ?_⟩
            show Q (.bl (decide (V.int ((x :: xr).length : Int) = V.int ((1 : Nat) : Int)))) H
            rw [len_is, hl2]
            cases r with
            | nil => exact q
            | cons _ _ => 
              rw [decide_eq_false (by simp)]
              exact q
          · rw [if_neg g] at q
            rw [Bool.eq_false_iff.mpr g]
            refine iteF ⟨_, rfl, k, _, D0, rfl, _, rfl, ?_⟩
            by_cases g2 : txtD k "to" = true
            · rw [if_pos g2] at q
              rw [g2]
              refine iteT ⟨_, rfl, a, _, rfl, .inr hs, rfl, _, rfl, ?_⟩
              show if (decide (V.int ((x :: xr).length : Int) = V.int ((3 : Nat) : Int))) = true then _ else _
              rw [len_is, hl2]
              have no : toD r = false → Q (.bl false) H := fun e => by
                rw [e] at q
                exact q
              match r, hl2, hi, hfm, q, no with
              | [], _, _, _, _, no => exact iteF (no rfl)
              | [p], _, _, _, _, no => exact iteF (no rfl)
              | [p, n], hl2, hi, hfm, q, _ =>
                match xr, hl2, hi with
                | [y, z], _, hi =>
                  obtain ⟨d1, z1, D1⟩ := hi 1 y rfl
                  cases z1
                  obtain ⟨d2, z2, D2⟩ := hi 2 z rfl
                  cases z2
                  refine iteT ⟨_, rfl, a, _, _, _, rfl, rfl, hs, at1, _, p, rfl, D1, fits_of (hfm _ (by simp)), _, rfl, ?_⟩
                  have q : Q (.bl (placeD p && numD 10000 n)) H := q
                  cases e : placeD p with
                  | false =>
                    rw [e] at q
                    exact iteF q
                  | true =>
                    rw [e] at q
                    exact iteT ⟨_, rfl, a, _, _, _, rfl, rfl, hs, at2, _, n, _, rfl, D2, q⟩
              | p :: n :: m :: r2, _, _, _, _, no =>
                rw [decide_eq_false (by simp)]
                exact iteF (no rfl)
            · rw [if_neg g2] at q
              rw [Bool.eq_false_iff.mpr g2]
              refine iteF ⟨_, rfl, _, rfl, k, _, D0, rfl, _, rfl, ?_⟩
              cases g3 : txtD k own with
              | false =>
                rw [g3] at q
                exact iteF q
              | true =>
                rw [g3] at q
                refine iteT ⟨_, rfl, a, _, rfl, .inr hs, rfl, _, rfl, ?_⟩
                show if (decide (V.int ((x :: xr).length : Int) = V.int ((2 : Nat) : Int))) = true then _ else _
                rw [len_is, hl2]
                have no : ownD r = false → Q (.bl false) H := fun e => by
                  rw [e] at q
                  exact q
                match r, hl2, hi, hfm, q, no with
                | [], _, _, _, _, no => exact iteF (no rfl)
                | [p], hl2, hi, hfm, q, _ =>
                  match xr, hl2, hi with
                  | [y], _, hi =>
                    obtain ⟨d1, z1, D1⟩ := hi 1 y rfl
                    cases z1
                    exact iteT ⟨_, rfl, a, _, _, _, rfl, rfl, hs, at1, _, p, rfl, D1, fitS_of (hfm _ (by simp)), q⟩
                | p :: n :: r2, _, _, _, _, no =>
                  rw [decide_eq_false (by simp)]
                  exact iteF (no rfl)
    | _ => exact iteT q
end
end K7
namespace K7
open PySem L2 Ld
/-- the two kinds, as the module holds them -/
structure Kinds (K : PySem.W.Frag) (w : World) (mg : Str → Option Value) (d : Addr) (es : Array DictEntry) (n : Nat) : Prop where
  at_ : mg "OWN_KINDS" = some (.ref d)
  kd : KDict K w d es n
  two : ∃ (e1 e2 : DictEntry) (t1 t2 u1 u2 : Tok), es.toList = [e1, e2] ∧ e1.key = .str "exact" t1 ∧ e1.val = .str "page" u1 ∧ e2.key = .str "open" t2 ∧ e2.val = .str "section" u2
theorem isStr_lit {x z : Str} {t : Tok} : (Value.str x t).isStr z = decide (z = x) := by
  show (x == z) = decide (z = x)
  by_cases h : z = x
  · subst h
    simp
  · rw [decide_eq_false h]
    exact beq_false_of_ne fun e => h e.symm
theorem open_exact : ¬ (("open" : Str) = "exact") := by decide +kernel
theorem exact_open : ¬ (("exact" : Str) = "open") := by decide +kernel
theorem ruleT_exact (p a : PyData) : ruleT (.str "exact") p a = (placeD p && answerD "page" a) := by
  show ((decide (("exact" : Str) = "exact") && (placeD p && answerD "page" a)) || (decide (("exact" : Str) = "open") && (placeD p && answerD "section" a))) = _
  rw [decide_eq_false exact_open, Bool.false_and, Bool.or_false, decide_eq_true rfl, Bool.true_and]
theorem ruleT_open (p a : PyData) : ruleT (.str "open") p a = (placeD p && answerD "section" a) := by
  show ((decide (("open" : Str) = "exact") && (placeD p && answerD "page" a)) || (decide (("open" : Str) = "open") && (placeD p && answerD "section" a))) = _
  rw [decide_eq_false open_exact, Bool.false_and, Bool.false_or, decide_eq_true rfl, Bool.true_and]
theorem ruleT_none {s : Str} (h1 : ¬ s = "exact") (h2 : ¬ s = "open") (p a : PyData) : ruleT (.str s) p a = false := by
  show ((decide (s = "exact") && (placeD p && answerD "page" a)) || (decide (s = "open") && (placeD p && answerD "section" a))) = _
  rw [decide_eq_false h1, decide_eq_false h2]
  rfl
theorem Kinds.get {K : PySem.W.Frag} {w : World} {mg : Str → Option Value} {d : Addr} {es : Array DictEntry} {n : Nat} (Z : Kinds K w mg d es n) : ∃ u1 u2 : Tok, ∀ z : Str, PySem.W.nsIn K d z = if z = "exact" then some (some (.str "page" u1)) else if z = "open" then some (some (.str "section" u2)) else some none := by
  obtain ⟨e1, e2, t1, t2, u1, u2, he, k1, v1, k2, v2⟩ := Z.two
  refine ⟨u1, u2, fun z => ?_⟩
  unfold PySem.W.nsIn
  rw [Z.kd.at_]
  dsimp only
  rw [he]
  have s1 : e1.key.isStr z = decide (z = "exact") := by
    rw [k1]
    exact isStr_lit
  have s2 : e2.key.isStr z = decide (z = "open") := by
    rw [k2]
    exact isStr_lit
  have r1 : [e1, e2].any (·.refKey) = false := by
    simp [DictEntry.refKey, k1, k2]
  simp only [List.find?, s1, s2]
  by_cases h1 : z = "exact"
  · simp [h1, v1]
  · by_cases h2 : z = "open"
    · have n := open_exact
      simp [h2, v2, n]
    · simp [h1, h2, r1]
section
variable {P : Program} {w : World} {K : PySem.W.Frag} {mg : Str → Option Value} {base : Heap} {f : Addr} {fd : FuncData} {kd : Addr} {es : Array DictEntry} {kn : Nat}
def spRule (K : PySem.W.Frag) : Sp := fun vs H Q _ => ∃ (v : V) (d : PyData), vs = [v] ∧ Dd K H v d ∧ fitB d = true ∧ Q (.bl (ruleD d)) H
theorem scRu : FnScope ["value", "sort", "place", "answer"] ["value"] (defScope sRule) := ⟨rfl, rfl, rfl, by decide +kernel, rfl, by decide +kernel, by decide +kernel⟩
theorem ok_rule (Fd : Fun K "is_rule" "is_rule" sRule f fd) (T : Tx mg) (Z : Kinds K w mg kd es kn) (DP : Df P w K mg base 3 "is_place" ["value"] (spPlace K)) (DA : Df P w K mg base 4 "_is_answer" ["value", "own_kind"] (spAnswer K)) :
    FnOk P w K mg base CX0 5 f fd ["value"] (spRule K) := by
  refine Fd.ok scRu (fun vs H Q E h => ?_) (fun cdv A outer s H vs Q E hr h => ?_)
  · obtain ⟨v, d, rfl, _⟩ := h
    rfl
  · obtain ⟨v, d, rfl, hT, hf, q⟩ := h
    obtain ⟨u1, u2, hget⟩ := Z.get
    refine ⟨_, pss_cons (ps_if (PW.pt (pw_or (pt_not (pt_val (pe_callB (call_isa "tuple") (by rfl) T.isi bootN (pa_cons (pv 0) (pa_cons (pe_bltn (v := .ty "tuple") (by rfl) T.tuple (by decide +kernel) rfl) pa_nil)))))
        (pw_or1 (pt_cmpR op_ne (pe_callB call_len_seq (by rfl) T.len PySem.boot_len (pa_cons (pv 0) pa_nil)) pe_int (nomark _))))) (pss_one (ps_ret pe_bl)) pss_nil)
      (pss_cons (ps_asg (pv 0) (pg_tup rfl (pgs_cons (pg_name (i := 1) scRu.nd rfl (Or.inl rfl)) (pgs_cons (pg_name (i := 2) scRu.nd rfl (Or.inl rfl)) (pgs_cons (pg_name (i := 3) scRu.nd rfl (Or.inl rfl)) pgs_nil)))))
      (pss_cons (ps_if (PW.pt (pw_or (pt_not (pt_val (pe_callB (call_isa "str") (by rfl) T.isi bootN (pa_cons (pv 1) (pa_cons (pe_bltn (v := .ty "str") (by rfl) T.str (by decide +kernel) rfl) pa_nil)))))
        (pw_or1 (pt_cmpR (op_notIn_kd Z.kd) (pv 1) (pe_glob (v := .ref kd) (by rfl) Z.at_ rfl) rfl)))) (pss_one (ps_ret pe_bl)) pss_nil)
      (pss_one (ps_ret (pe_and (pe_df DP hr (pa_cons (pv 2) pa_nil)) (pe_one (pe_df DA hr (pa_cons (pv 3) (pa_cons (pe_ix ix_kdict (pe_glob (v := .ref kd) (by rfl) Z.at_ rfl) (pv 1) (fun _ _ => rfl)) pa_nil))))))))), ?_⟩
    refine ⟨_, rfl, _, rfl, _, _, hT.ty, kit_tuple d, _, rfl, ?_⟩
    cases d with
    | tuple ds =>
      obtain ⟨a, xs, rfl, hs, hl2, hi⟩ := hT.its
      have hfm := fit_mem hf
      refine iteF ⟨_, rfl, a, _, rfl, .inr hs, rfl, _, rfl, ?_⟩
      show if (!decide (V.int (xs.length : Int) = V.int ((3 : Nat) : Int))) = true then _ else _
      rw [len_is, hl2]
      have no : ruleD (.tuple ds) = false → Q (.bl false) H := fun e => by
        rw [e] at q
        exact q
      match ds, hl2, hi, hfm, q, no with
      | [], _, _, _, _, no => exact iteT (no rfl)
      | [_], _, _, _, _, no => exact iteT (no rfl)
      | [_, _], _, _, _, _, no => exact iteT (no rfl)
      | k :: n :: m :: b :: r2, _, _, _, _, no =>
        rw [decide_eq_false (by simp)]
        exact iteT (no rfl)
      | [k, p, b], hl2, hi, hfm, q, no =>
        match xs, hl2, hs, hi with
        | [x, y, z], _, hs, hi =>
          obtain ⟨d0, z0, D0⟩ := hi 0 x rfl
          cases z0
          obtain ⟨d1, z1, D1⟩ := hi 1 y rfl
          cases z1
          obtain ⟨d2, z2, D2⟩ := hi 2 z rfl
          cases z2
          refine iteF ⟨_, rfl, a, _, rfl, hs, rfl, _, _, rfl, _, _, rfl, _, _, rfl, ?_⟩
          refine ⟨rfl, ?_⟩
          refine ⟨_, rfl, _, rfl, _, _, D0.ty, kit_str k, _, rfl, ?_⟩
          cases k with
          | str s =>
            have es := D0.str_v
            subst es
            have go : ∀ (own : Str) (u : Value), PySem.W.nsIn K kd s = some (some u) → RelV (.str own) u → (placeD p && answerD own b) = ruleT (.str s) p b → tAndV (tDf (spPlace K) (tCons (tVar 2) tNil)) (tDf (spAnswer K) (tCons (tVar 3) (tCons (tOp (rIxD K w) (tC (.ref kd)) (tVar 1)) tNil)))
                [some (.ref a), some (.str s), some y, some z] H Q := fun own u e1 e2 e3 => by
              refine ⟨_, rfl, _, p, rfl, D1, fits_of (hfm _ (by simp)), _, rfl, ?_⟩
              have q : Q (.bl (ruleT (.str s) p b)) H := q
              rw [← e3] at q
              cases e : placeD p with
              | false =>
                rw [e] at q
                exact iteF q
              | true =>
                rw [e] at q
                refine iteT ⟨_, rfl, _, rfl, _, s, .str own, rfl, rfl, ⟨es, kn, u, Z.kd.at_, Z.kd.lit, e1, e2⟩, _, b, own, rfl, D2, hfm _ (by simp), q⟩
            by_cases h1 : s = "exact"
            · have e := (hget s).trans (if_pos h1)
              exact iteF ⟨_, rfl, s, _, rfl, rfl, e, _, rfl, iteF (go "page" _ e ⟨_, rfl⟩ (by rw [h1, ruleT_exact]))⟩
            · by_cases h2 : s = "open"
              · have e := (hget s).trans ((if_neg h1).trans (if_pos h2))
                exact iteF ⟨_, rfl, s, _, rfl, rfl, e, _, rfl, iteF (go "section" _ e ⟨_, rfl⟩ (by rw [h2, ruleT_open]))⟩
              · have e := (hget s).trans ((if_neg h1).trans (if_neg h2))
                exact iteF ⟨_, rfl, s, _, rfl, rfl, e, _, rfl, iteT (no (ruleT_none h1 h2 p b))⟩
          | _ => exact iteT (no rfl)
    | _ => exact iteT q
end
end K7
/-! A tuple many times; texts joined. -/
namespace Ld
open PySem L2 PyProof.Rows
/-- t * k, up to a hundred thousand items -/
def rRepL (K : PySem.W.Frag) : R2 := fun x y H Q => ∃ l k xs, x = .ref l ∧ y = .int (k : Nat) ∧ SqT K H l xs ∧ xs ≠ [] ∧ 2 ≤ k ∧ xs.length * k ≤ 100000 ∧ ∀ p, H p = none → Q (.ref p) (upd H p (.tup (List.replicate k xs).flatten))
theorem op_repL {X : Cx} : OpR X (binaryOp .Mult) (rRepL X.K) := by
  intro pins s σ H x y v u Q I rx ry h
  obtain ⟨l, k, xs, rfl, rfl, hT, hne, h2, hk, q⟩ := h
  cases rx
  obtain ⟨t, rfl⟩ := ry
  obtain ⟨its, r, ⟨⟨c, dd, dt, sl⟩, ho, (rfl : c = _), n, (rfl : dt = _)⟩, _⟩ := I.tuple hT
  have hlen : its.length = xs.length := r.length.symm
  have hpos : 0 < xs.length := List.length_pos_iff.mpr hne
  have hbig : k ≤ 100000 := Nat.le_trans (Nat.le_mul_of_pos_left k hpos) hk
  have emp : its.toArray.isEmpty = false := by
    cases its with
    | nil =>
      simp at hlen
      omega
    | cons _ _ => rfl
  have siz : its.toArray.size = xs.length := by rw [List.size_toArray, hlen]
  have prod : ((its.toArray.size : Nat) : Int) * (k : Int) = ((xs.length * k : Nat) : Int) := by
    rw [siz]
    exact (Int.natCast_mul _ _).symm
  have flat : (List.replicate k its).flatten.length = xs.length * k := by
    rw [PyProof.Rows.lm_len_rep_flat, hlen, Nat.mul_comm]
  have tk : ((k : Int)).toNat = k := Int.toNat_natCast k
  have one : (its.toArray.isEmpty || (k : Int) == 1) = false := by
    rw [emp]
    exact beq_eq_false_iff_ne.mpr (by omega)
  have zero : (decide ((k : Int) ≤ 0) || its.toArray.isEmpty) = false := by
    rw [emp, decide_eq_false (by omega)]
    rfl
  have wide : (decide ((k : Int) < -(2 ^ 63)) || decide ((k : Int) ≥ 2 ^ 63)) = false := by
    rw [decide_eq_false (show ¬ ((k : Int) < -(2 ^ 63)) by omega), decide_eq_false (show ¬ ((k : Int) ≥ 2 ^ 63) by omega)]
    rfl
  have many : Builtin.Tuple.tupleTooMany (((its.toArray.size : Nat) : Int) * (k : Int)) = false := by
    rw [prod]
    unfold Builtin.Tuple.tupleTooMany
    rw [sizeLine_eq]
    exact decide_eq_false (by omega)
  have room : (List.foldl (fun x1 x2 => x1 ++ x2) #[] (List.replicate (k : Int).toNat its.toArray)).size ≤ sizeLine := by
    rw [size_rep, List.size_toArray, tk, flat, sizeLine_eq]
    omega
  have far : ¬ ((its.toArray.size : Nat) : Int) * (k : Int) > (2 ^ 63 - 1) / 8 := by
    rw [prod]
    omega
  have ty : s.TypeIs (.ref l) "tuple" := ⟨_, ho, rfl⟩
  have done : EP X pins σ Q (Value.ref s.heap.objs.size) { s with heap := s.heap.push { cls := Value.type "tuple", data := Data.seq (List.foldl (fun x1 x2 => x1 ++ x2) #[] (List.replicate (k : Int).toNat its.toArray)) }, toks := s.toks } := by
    rw [size_rep, tk]
    refine ⟨.ref s.heap.objs.size, _, I.laid (t' := s.toks) (o := .tup (List.replicate k xs).flatten) (fun b ob e => Heap.get?_push_of_some _ e) (Nat.le_refl _) ⟨?_, _, r.rep k, IsTup.new _ _⟩, rfl, q _ (I.hok.fresh (Nat.le_refl _))⟩
    rw [PyProof.Rows.lm_len_rep_flat, Nat.mul_comm, sizeLine_eq]
    omega
  have mul := call_meets F.slot_tuple_mul ty F.entry_tuple_mul (F.args_tuple_mul_2 _ _) (tuple_mulW l its.toArray n dd sl (k : Int) t wide one zero far many room) (prog := X.prog) (w := X.w) (A := X.A) (E := X.xe) ⟨ho, done⟩
  exact wpAny_binaryOp_repeat_ref (T := "tuple") (U := "int") (by decide) ty (fun s' => typeIs_int s' _ t) noFill_tuple_mul F.fills_int_mul F.slot_int_rmul repeat_tuple F.slot_int_index.lookup
    (call_meets F.slot_int_rmul (typeIs_int s _ t) F.entry_int_rmul (F.args_int_rmul_2 _ _) (int_rmul_tuple _ t l its.toArray n dd sl) ⟨ho, rfl, ty, mul⟩)
theorem rep_one (x : V) : ∀ n : Nat, (List.replicate n [x]).flatten = List.replicate n x
  | 0 => rfl
  | n + 1 => by rw [List.replicate_succ, List.replicate_succ, List.flatten_cons, rep_one x n]; rfl
theorem join_asc : ∀ ws : List Str, (∀ z ∈ ws, ∀ c ∈ z.cps.toList, c < 128) → (Str.join (Str.ofString "") ws).length = (ws.map (·.length)).sum ∧ ∀ c ∈ (Str.join (Str.ofString "") ws).cps.toList, c < 128
  | [], _ => ⟨rfl, fun c hc => by cases hc⟩
  | [x], h => ⟨by show x.length = x.length + 0; omega, h x List.mem_cons_self⟩
  | x :: y :: r, h => by
    obtain ⟨h1, h2⟩ := join_asc (y :: r) fun z hz => h z (List.mem_cons_of_mem _ hz)
    have e : Str.join (Str.ofString "") (x :: y :: r) = x ++ Str.ofString "" ++ Str.join (Str.ofString "") (y :: r) := rfl
    rw [e]
    refine ⟨?_, fun c hc => ?_⟩
    · rw [strLen_append, strLen_append, h1]
      have e0 : (Str.ofString "").length = 0 := by decide +kernel
      rw [e0, List.map_cons (l := y :: r), List.sum_cons]
      omega
    · have hc : c ∈ ((x.cps ++ (Str.ofString "").cps) ++ (Str.join (Str.ofString "") (y :: r)).cps).toList := hc
      rw [Array.toList_append, Array.toList_append] at hc
      rcases List.mem_append.mp hc with g | g
      · rcases List.mem_append.mp g with g | g
        · exact h x List.mem_cons_self c g
        · have e0 : (Str.ofString "").cps.toList = [] := by decide +kernel
          rw [e0] at g
          cases g
      · exact h2 c g
theorem join_is (ws : List Str) : Txt.join (Str.ofString "") ws = Str.join (Str.ofString "") ws := PySem.StrLaws.glued_eq_join _ ws
theorem sum_le {ws : List Str} {b : Nat} (h : ∀ z ∈ ws, z.length ≤ b) : (ws.map (·.length)).sum ≤ b * ws.length := by
  induction ws with
  | nil => exact Nat.zero_le _
  | cons x r ih =>
    have h1 := h x List.mem_cons_self
    have h2 := ih fun z hz => h z (List.mem_cons_of_mem _ hz)
    rw [List.map_cons, List.sum_cons, List.length_cons, Nat.mul_add]
    omega
theorem good_int {K : PySem.W.Frag} {H : Hp} (i : Int) (h : i.natAbs < 2 ^ 64) : Good K H (.int i) := by
  have l : i.natAbs.log2 < 1920 := by
    by_cases z : i.natAbs = 0
    · rw [z]
      decide
    · exact Nat.lt_trans ((Nat.log2_lt z).mpr h) (by decide)
  refine ⟨.int i, .lf (.dat (.int i)), ⟨(fun z e => by cases e), (fun ds e => by cases e)⟩, ?_, by show 0 ≤ 40; decide, ?_⟩
  · simp only [PyData.showable]
    exact decide_eq_true l
  · simp only [PyData.shown]
    exact int_text_fits l
end Ld
/-! Order of tuples, texts many times, data of words. -/
namespace Ld
open PySem L2 PyProof.Rows
section
variable {X : Cx}
/-- a < b of data that is alike -/
def rLtD (K : PySem.W.Frag) : R2 := fun x y H Q => ∃ d e, Dp K H x d ∧ Dp K H y e ∧ PySem.W.alike d e = true ∧ d ≠ .none ∧ d.depth ≤ 64 ∧ Q (.bl (PySem.W.dataLt d e)) H
theorem op_ltD (hu : X.A.units + 64 < cLine) : OpR X (compareOp .Lt) (rLtD X.K) := by
  intro pins s σ H x y v u Q I rx ry h
  obtain ⟨d, e, hd, he, ha, hn, hp, q⟩ := h
  obtain ⟨as, r1⟩ := dp_reads I.hok I.kIn d x v hd rx
  obtain ⟨bs, r2⟩ := dp_reads I.hok I.kIn e y u he ry
  have m : min d.depth e.depth ≤ d.depth := Nat.min_le_left _ _
  exact PySem.W.rcLt_alike d e X.A s v u as bs r1 r2 ha hn (by omega) X.prog X.w X.xe _ ⟨.bl _, H, I, rfl, q⟩
/-- 'a' * n -/
def rMulS : R2 := fun x y H Q => ∃ (z : Str) (n : Nat), x = .str z ∧ y = .int (n : Int) ∧ z.length ≤ 1000 ∧ n ≤ 1000 ∧ Q (.str (Txt.mul z n)) H
theorem op_mulS : OpR X (binaryOp .Mult) rMulS := by
  intro pins s σ H x y v u Q I rx ry h
  obtain ⟨z, n, rfl, rfl, h1, h2, q⟩ := h
  obtain ⟨t, rfl⟩ := rx
  obtain ⟨t2, rfl⟩ := ry
  exact SB.mul (mulOk_of 1000 1000 h1 (by omega) (by omega) (by decide) (by decide)) fun t' k => ⟨.str _, H, I.tok k, ⟨t', rfl⟩, q⟩
/-- repr of a bool -/
def boolText (b : Bool) : Str := if b then "True" else "False"
theorem call_reprB : CallR X (.builtin "repr") (fun xs H Q => ∃ b, xs = [.bl b] ∧ Q (.str (boolText b)) H) := by
  intro pins s σ H xs us Q I r h
  obtain ⟨b, rfl, q⟩ := h
  obtain ⟨u, rfl, ru⟩ := vals1 r
  cases ru
  refine P.repr_of_bool ⟨.str (boolText b), H, I.tok _, ⟨s.toks, ?_⟩, q⟩
  unfold boolText
  cases b <;> rfl
end
section
variable {X : Cx} {K : PySem.W.Frag}
theorem sl_tupK (h : X.K = K := by rfl) : SlR X (rSlW K) := by
  subst h
  exact sl_tupW
def rTup (K : PySem.W.Frag) : List V → Hp → VK → Prop := fun xs H Q => ∃ p ys, xs = [.ref p] ∧ ((SqL K H p ys ∧ ∀ l, H l = none → Q (.ref l) (upd H l (.tup ys))) ∨ (SqT K H p ys ∧ Q (.ref p) H))
theorem call_tupK (h : X.K = K := by rfl) : CallR X (.type "tuple") (rTup K) := by
  subst h
  exact call_tuple_of
end
theorem boolText_inj (a b : Bool) : decide (V.str (boolText a) = V.str (boolText b)) = decide (a = b) := by
  cases a <;> cases b <;> decide +kernel
/-! ### tuples of words -/
def wt (ws : List Str) : PyData := .tuple (ws.map PyData.str)
theorem lay_words : ∀ {ws : List Str}, (∀ z ∈ ws, ∀ c ∈ z.cps.toList, c < 128) → PyData.canLayAll0 (ws.map PyData.str) = true
  | [], _ => rfl
  | z :: ws, h => by
    have h2 := lay_words fun y hy => h y (List.mem_cons_of_mem _ hy)
    have h1 : PyData.strOk z = true := by
      unfold PyData.strOk
      rw [arr_all]
      exact List.all_eq_true.mpr fun c hc => decide_eq_true (Nat.lt_trans (h z List.mem_cons_self c hc) (by decide))
    simp only [List.map_cons, PyData.canLayAll0, PyData.canLay0, h1, h2, Bool.and_self]
theorem depth_words : ∀ ws : List Str, PyData.depthAll (ws.map PyData.str) = 0
  | [] => rfl
  | z :: ws => by simp [PyData.depthAll, PyData.depth, depth_words ws]
theorem shaped_wt {ws : List Str} (h : ∀ z ∈ ws, ∀ c ∈ z.cps.toList, c < 128) : SeqAt.shaped (wt ws) = true := by
  unfold SeqAt.shaped wt
  simp only [PyData.canLay0, lay_words h, PyData.depth, depth_words]
  decide
theorem shaped_wl {ws : List Str} (h : ∀ z ∈ ws, ∀ c ∈ z.cps.toList, c < 128) : SeqAt.shaped (.list (ws.map PyData.str)) = true := by
  unfold SeqAt.shaped
  simp only [PyData.canLay0, lay_words h, PyData.depth, depth_words]
  decide
theorem eqv_words : ∀ ws us : List Str, PyData.eqvAll (ws.map PyData.str) (us.map PyData.str) = decide (ws = us)
  | [], [] => rfl
  | [], _ :: _ => rfl
  | _ :: _, [] => rfl
  | a :: ws, b :: us => by
    simp only [List.map_cons, PyData.eqvAll, eqv_words ws us, PyData.eqv]
    by_cases h1 : a = b
    · subst h1
      by_cases h2 : ws = us
      · subst h2
        simp
      · rw [decide_eq_false h2, decide_eq_false (fun e => h2 (List.cons.inj e).2), Bool.and_false]
    · have hb : (a == b) = false := beq_eq_false_iff_ne.mpr h1
      rw [decide_eq_false (fun e => h1 (List.cons.inj e).1)]
      first
        | rw [hb, Bool.false_and]
        | simp [hb, h1]
theorem eqv_wt (ws us : List Str) : PyData.eqv (wt ws) (wt us) = decide (ws = us) := by
  unfold wt
  simp only [PyData.eqv]
  exact eqv_words ws us
theorem eqv_wl (ws us : List Str) : PyData.eqv (.list (ws.map PyData.str)) (.list (us.map PyData.str)) = decide (ws = us) := by
  simp only [PyData.eqv]
  exact eqv_words ws us
/-! ### the order of addresses -/
def wordsLt : List Str → List Str → Bool
  | a :: ws, b :: us => if a = b then wordsLt ws us else decide (a.cps.toList < b.cps.toList)
  | [], b => !b.isEmpty
  | _ :: _, [] => false
def keyD (ws : List Str) : PyData := .tuple [.int ws.length, wt ws]
def keyLt (ws us : List Str) : Bool := if ws.length = us.length then wordsLt ws us else decide (ws.length < us.length)
theorem alike_words : ∀ ws us : List Str, PySem.W.alikeAll (ws.map PyData.str) (us.map PyData.str) = true
  | [], _ => by simp [PySem.W.alikeAll]
  | _ :: _, [] => by simp [PySem.W.alikeAll]
  | a :: ws, b :: us => by simp [PySem.W.alikeAll, PySem.W.alike, alike_words ws us]
theorem alike_key (ws us : List Str) : PySem.W.alike (keyD ws) (keyD us) = true := by
  simp [keyD, wt, PySem.W.alike, PySem.W.alikeAll, alike_words]
theorem cps_inj {a b : Str} (h : a.cps.toList = b.cps.toList) : a = b := PySem.W.str_of_cps h
theorem lt_words : ∀ ws us : List Str, lexLt itemOrd (PySem.W.keyToksAll (ws.map PyData.str)) (PySem.W.keyToksAll (us.map PyData.str)) = wordsLt ws us
  | [], [] => by decide
  | [], b :: us => by
    simp only [List.map_nil, List.map_cons, PySem.W.keyToksAll, wordsLt]
    rw [PySem.W.lex_atom (by decide)]
    rfl
  | a :: ws, [] => by
    simp only [List.map_nil, List.map_cons, PySem.W.keyToksAll, wordsLt]
    rw [PySem.W.lex_atom (by decide)]
    rfl
  | a :: ws, b :: us => by
    have al : PySem.W.alike (.str a) (.str b) = true := by simp [PySem.W.alike]
    unfold wordsLt
    by_cases h : a = b
    · subst h
      rw [if_pos rfl, List.map_cons, List.map_cons, PySem.W.dataLt_all_yes al (by simp [PyData.eqv])]
      exact lt_words ws us
    · rw [if_neg h, List.map_cons, List.map_cons, PySem.W.dataLt_all_no al (by simp [PyData.eqv, h]), PySem.W.dataLt_str]
theorem wordsLt_self : ∀ ws : List Str, wordsLt ws ws = false
  | [] => rfl
  | a :: ws => by
    unfold wordsLt
    rw [if_pos rfl]
    exact wordsLt_self ws
theorem lt_key (ws us : List Str) : PySem.W.dataLt (keyD ws) (keyD us) = keyLt ws us := by
  unfold keyD keyLt
  rw [PySem.W.dataLt_tuple]
  have al : PySem.W.alike (.int (ws.length : Int)) (.int (us.length : Int)) = true := by simp [PySem.W.alike]
  have al2 : PySem.W.alike (wt ws) (wt us) = true := by simp [wt, PySem.W.alike, alike_words]
  by_cases h : ws.length = us.length
  · rw [if_pos h, PySem.W.dataLt_all_yes al (by simp [PyData.eqv, h])]
    by_cases h2 : ws = us
    · subst h2
      rw [PySem.W.dataLt_all_yes al2 (by rw [eqv_wt]; simp)]
      rw [wordsLt_self]
      decide
    · rw [PySem.W.dataLt_all_no al2 (by rw [eqv_wt]; exact decide_eq_false h2)]
      unfold wt
      rw [PySem.W.dataLt_tuple]
      exact lt_words ws us
  · rw [if_neg h, PySem.W.dataLt_all_no al (by simp [PyData.eqv]; omega), PySem.W.dataLt_int]
    by_cases h3 : ws.length < us.length
    · rw [decide_eq_true h3, decide_eq_true (by omega)]
    · rw [decide_eq_false h3, decide_eq_false (by omega)]
end Ld
namespace K7
open PySem L2 Ld
abbrev sRest : Stmt := top 13
abbrev sKey : Stmt := top 14
abbrev sBegs : Stmt := top 15
section
variable {P : Program} {w : World} {K : PySem.W.Frag} {mg : Str → Option Value} {base : Heap} {f : Addr} {fd : FuncData}
theorem cut_lo (ws : List Str) (k : Nat) : cutV (ws.map V.str) none (some (k : Int)) = (ws.take k).map V.str := by
  unfold cutV
  rw [HT.sIx_none, HT.sIx_nat, List.drop_zero, Nat.sub_zero, List.length_map, ← List.map_take]
  by_cases h : k ≤ ws.length
  · rw [Nat.min_eq_left h]
  · rw [Nat.min_eq_right (by omega), List.take_of_length_le (Nat.le_refl _), List.take_of_length_le (by omega)]
theorem cut_hi (ws : List Str) (k : Nat) : cutV (ws.map V.str) (some (k : Int)) none = (ws.drop k).map V.str := by
  unfold cutV
  rw [HT.sIx_none, HT.sIx_nat, List.length_map]
  by_cases h : k ≤ ws.length
  · rw [Nat.min_eq_left h, ← List.map_drop, List.take_of_length_le (by simp)]
  · rw [Nat.min_eq_right (by omega), ← List.map_drop, List.drop_of_length_le (Nat.le_refl _), List.drop_of_length_le (by omega)]
    simp
theorem dp_wt {H : Hp} {a : Addr} {ws : List Str} (h : SqT K H a (ws.map V.str)) : Dp K H (.ref a) (wt ws) := .tup h (dp_strs ws)
def spRest (K : PySem.W.Frag) : Sp := fun vs H Q _ => ∃ (a b : Addr) (ws us : List Str), vs = [.ref a, .ref b] ∧ SqT K H a (ws.map V.str) ∧ SqT K H b (us.map V.str) ∧ ∀ r H', Same H H' → SqT K H' r ((ws.drop us.length).map V.str) → Q (.ref r) H'
theorem scRest : FnScope ["address", "beginning"] ["address", "beginning"] (defScope sRest) := ⟨rfl, rfl, rfl, by decide +kernel, rfl, by decide +kernel, by decide +kernel⟩
theorem ok_rest (Fd : Fun K "rest_of" "rest_of" sRest f fd) (T : Tx mg) : FnOk P w K mg base CX0 1 f fd ["address", "beginning"] (spRest K) := by
  refine Fd.ok scRest (fun vs H Q E h => ?_) (fun cdv A outer s H vs Q E hr h => ?_)
  · obtain ⟨a, b, ws, us, rfl, _⟩ := h
    rfl
  · obtain ⟨a, b, ws, us, rfl, ha, hb, q⟩ := h
    refine ⟨_, pss_one (ps_ret (pe_callTy call_tuple_of (by rfl) T.tuple (by decide +kernel) (pa_cons (pe_callTy call_list_of (by rfl) T.list (by decide +kernel) (pa_cons (pe_slice sl_tupW (pv 0) (po_some (pe_callB call_len_seq (by rfl) T.len PySem.boot_len (pa_cons (pv 1) pa_nil))) po_none) pa_nil)) pa_nil))), ?_⟩
    refine ⟨_, rfl, _, rfl, b, _, rfl, .inr hb, _, rfl, a, _, rfl, ha, fun r H1 s1 h1 => ?_⟩
    rw [List.length_map, cut_hi] at h1
    refine ⟨r, _, rfl, .inr h1, fun l hl => ?_⟩
    refine ⟨l, _, rfl, .inl ⟨.of upd_same, fun p hp => ?_⟩⟩
    exact q p _ (s1.trans ((Ld.Same.new hl).trans (Ld.Same.new hp))) (.of upd_same)
def spKey (K : PySem.W.Frag) : Sp := fun vs H Q _ => ∃ (a : Addr) (ws : List Str), vs = [.ref a] ∧ SqT K H a (ws.map V.str) ∧ ∀ r H', Same H H' → Dp K H' (.ref r) (keyD ws) → Q (.ref r) H'
theorem scKey : FnScope ["address"] ["address"] (defScope sKey) := ⟨rfl, rfl, rfl, by decide +kernel, rfl, by decide +kernel, by decide +kernel⟩
theorem ok_key (Fd : Fun K "address_key" "address_key" sKey f fd) (T : Tx mg) : FnOk P w K mg base CX0 1 f fd ["address"] (spKey K) := by
  refine Fd.ok scKey (fun vs H Q E h => ?_) (fun cdv A outer s H vs Q E hr h => ?_)
  · obtain ⟨a, ws, rfl, _⟩ := h
    rfl
  · obtain ⟨a, ws, rfl, ha, q⟩ := h
    refine ⟨_, pss_one (ps_ret (pe_tup (pa_cons (pe_callB call_len_seq (by rfl) T.len PySem.boot_len (pa_cons (pv 0) pa_nil)) (pa_cons (pe_callTy call_tuple_of (by rfl) T.tuple (by decide +kernel) (pa_cons (pv 0) pa_nil)) pa_nil)))), ?_⟩
    refine ⟨_, rfl, a, _, rfl, .inr ha, _, rfl, a, _, rfl, .inr ⟨ha, (show 2 ≤ sizeLine by decide), fun p hp => ?_⟩⟩
    have s1 := Same.new (o := .tup [.int (((ws.map V.str).length : Nat) : Int), .ref a]) hp
    refine q p _ s1 ?_
    rw [List.length_map]
    exact .tup (.of upd_same) (.cons (.int _) (.cons (dp_wt (same_T (by rw [List.length_map] at s1; exact s1) ha)) .nil))
/-- the beginnings, as data -/
def begD (ws : List Str) (n : Nat) : List PyData := (List.range n).map fun k => wt (ws.take k)
/-- tuples that stand -/
def Tups (K : PySem.W.Frag) (H : Hp) (ps : List Addr) (ws : List Str) : Prop := ∀ (j : Nat) (p : Addr), ps[j]? = some p → SqT K H p ((ws.take j).map V.str)
theorem tups_dp {H : Hp} {ws : List Str} : ∀ {ps : List Addr} {k : Nat}, (∀ (j : Nat) (p : Addr), ps[j]? = some p → SqT K H p ((ws.take (k + j)).map V.str)) → DpAll K H (ps.map V.ref) ((List.range' k ps.length).map fun k => wt (ws.take k))
  | [], k, _ => .nil
  | p :: ps, k, h => by
    show DpAll K H (V.ref p :: ps.map V.ref) ((List.range' k (ps.length + 1)).map fun k => wt (ws.take k))
    rw [List.range'_succ, List.map_cons]
    exact .cons (dp_wt (h 0 p rfl)) (tups_dp fun j q e => by
      have := h (j + 1) q (by simpa using e)
      rw [show k + (j + 1) = k + 1 + j from by omega] at this
      exact this)
theorem tups_beg {H : Hp} {ws : List Str} {ps : List Addr} (h : Tups K H ps ws) : DpAll K H (ps.map V.ref) (begD ws ps.length) := by
  unfold begD
  rw [List.range_eq_range']
  exact tups_dp (k := 0) fun j p e => by rw [Nat.zero_add]; exact h j p e
theorem sqT_list {H : Hp} {D p : Addr} {acc acc' xs : List V} (hD : H D = some (.lst acc)) (h : SqT K H p xs) : SqT K (upd H D (.lst acc')) p xs := by
  rcases h with (h | ⟨o, h⟩) | h
  · refine .inl (.inl ?_)
    rw [upd_ne (ne_of h hD (fun e => nomatch e))]
    exact h
  · refine .inl (.inr ⟨o, ?_⟩)
    rw [upd_ne (ne_of h hD (fun e => nomatch e))]
    exact h
  · exact .inr h
def spBegs (K : PySem.W.Frag) : Sp := fun vs H Q _ => ∃ (a : Addr) (ws : List Str), vs = [.ref a] ∧ SqT K H a (ws.map V.str) ∧ ws.length ≤ 12 ∧ ∀ r xs H', H r = none → Same H H' → H' r = some (.lst xs) → xs.length = ws.length + 1 → DpAll K H' xs (begD ws (ws.length + 1)) → Q (.ref r) H'
theorem scBegs : FnScope ["address", "size"] ["address"] (defScope sBegs) := ⟨rfl, rfl, rfl, by decide +kernel, rfl, by decide +kernel, by decide +kernel⟩
theorem ok_begs (Fd : Fun K "beginnings" "beginnings" sBegs f fd) (T : Tx mg) : FnOk P w K mg base CX0 1 f fd ["address"] (spBegs K) := by
  refine Fd.ok scBegs (fun vs H Q E h => ?_) (fun cdv A outer s H vs Q E hr h => ?_)
  · obtain ⟨a, ws, rfl, _⟩ := h
    rfl
  · obtain ⟨a, ws, rfl, ha, hl, q⟩ := h
    refine ⟨_, pss_one (ps_ret (pe_lc (own := [("size", 1)]) (g := gName 1) (tt := tYes) (by rfl) scBegs.nd (pi_range1 rfl T.range (pa_cons (pe_op op_add (pe_callB call_len_seq (by rfl) T.len PySem.boot_len (pa_cons (pv 0) pa_nil)) pe_int) pa_nil))
      (blkOk_by (own := [("size", 1)]) (N := ["address", "size"]) (sc := defScope sBegs) (by decide +kernel)) (fun _ _ _ _ _ => pg_name (i := 1) scBegs.nd rfl (Or.inl rfl)) (fun _ _ _ _ _ => pts_nil)
      (fun _ _ _ _ _ => pe_callTy (T := "tuple") (r := rTup K) call_tupK (by rfl) T.tuple (by decide +kernel) (pa_cons (pe_slice (r := rSlW K) sl_tupK (pv 0) po_none (po_some (pv 1))) pa_nil)))), ?_⟩
    refine ⟨_, rfl, a, _, rfl, .inr ha, _, _, rfl, rfl, _, rfl, by omega, by rw [List.length_map]; omega, fun D hD => ?_⟩
    refine lc_range (lo := 0) (n := ((((ws.map V.str).length : Nat) : Int) + 1).toNat) (fun i G => Same H G ∧ ∃ ps : List Addr, G D = some (.lst (ps.map V.ref)) ∧ ps.length = i ∧ Tups K G ps ws) ⟨Ld.Same.new hD, [], upd_same, rfl, fun j p e => nomatch e⟩ ?_ ?_
    · rintro i G hi ⟨s1, ps, hp, hn, ht⟩
      rw [List.length_map] at hi
      refine ⟨rfl, ?_⟩
      show tCB (rTup K) (tCons (tSl (rSlW K) (tVar 0) tNoPart (tPart (tVar 1))) tNil) _ _ _
      refine ⟨_, rfl, _, rfl, _, rfl, a, _, rfl, same_T s1 ha, fun r G2 s2 h2 => ?_⟩
      rw [Int.zero_add, cut_lo] at h2
      refine ⟨r, _, rfl, .inr ⟨h2, _, s2 _ _ hp, by rw [List.length_map]; exact Nat.lt_of_le_of_lt (show ps.length ≤ 13 by omega) (by decide), fun b o e => ?_, ps ++ [r], ?_, by simp [hn], ?_⟩⟩
      · rw [upd_ne (ne_of_none e hD)]
        exact s2 _ _ (s1 b o e)
      · rw [upd_same, List.map_append]
        rfl
      · intro j p e
        by_cases hj : j < ps.length
        · rw [List.getElem?_append_left hj] at e
          exact sqT_list (s2 _ _ hp) (same_T s2 (ht j p e))
        · have hj2 : j = ps.length := by
            have := (List.getElem?_eq_some_iff.mp e).1
            simp at this
            omega
          subst hj2
          rw [List.getElem?_append_right (Nat.le_refl _), Nat.sub_self] at e
          cases e
          rw [hn]
          exact sqT_list (s2 _ _ hp) h2
    · rintro G ⟨s1, ps, hp, hn, ht⟩
      rw [List.length_map] at hn
      have e : ps.length = ws.length + 1 := by omega
      refine q D _ G hD s1 hp (by rw [List.length_map]; exact e) ?_
      rw [← e]
      exact tups_beg ht
end
end K7
/-! Dicts whose keys are tuples of any depth. -/
namespace Ld
open PySem L2 PyProof.Rows
/-! ### keys -/
mutual
inductive NIs (K : PySem.W.Frag) (H : Hp) : NestedKey → V → Prop
  | none : NIs K H .none .non
  | num (i : Int) : NIs K H (.num i) (.int i)
  | text (x : Str) : NIs K H (.text x) (.str x)
  | tup {a : Addr} {xs : List V} {ks : List NestedKey} : SqT K H a xs → NAll K H ks xs → NIs K H (.tup ks) (.ref a)
inductive NAll (K : PySem.W.Frag) (H : Hp) : List NestedKey → List V → Prop
  | nil : NAll K H [] []
  | cons {k : NestedKey} {v : V} {ks : List NestedKey} {vs : List V} : NIs K H k v → NAll K H ks vs → NAll K H (k :: ks) (v :: vs)
end
section
variable {K : PySem.W.Frag} {H H' : Hp} {P : Program} {w : World} {h : Heap}
mutual
theorem nis_mono (hT : ∀ a xs, SqT K H a xs → SqT K H' a xs) : ∀ {k : NestedKey} {v : V}, NIs K H k v → NIs K H' k v
  | _, _, .none => .none
  | _, _, .num i => .num i
  | _, _, .text x => .text x
  | _, _, .tup a b => .tup (hT _ _ a) (nall_mono hT b)
theorem nall_mono (hT : ∀ a xs, SqT K H a xs → SqT K H' a xs) : ∀ {ks : List NestedKey} {vs : List V}, NAll K H ks vs → NAll K H' ks vs
  | _, _, .nil => .nil
  | _, _, .cons a b => .cons (nis_mono hT a) (nall_mono hT b)
end
theorem NIs.same {k : NestedKey} {v : V} (z : NIs K H k v) (s : Same H H') : NIs K H' k v := nis_mono (fun _ _ q => same_T s q) z
theorem NIs.sb {k : NestedKey} {v : V} {wa : Addr} (z : NIs K H k v) (W : Well H wa) (s : Sb wa H H') : NIs K H' k v := nis_mono (fun _ _ q => seqT W s q) z
mutual
theorem nis_is (ok : HOk P w H h) (kin : K.In h) : ∀ {k : NestedKey} {v : V} {u : Value}, NIs K H k v → RelV v u → NestedIs h k u
  | _, _, _, .none, r => by cases r; exact .none
  | _, _, _, .num i, r => by obtain ⟨t, rfl⟩ := r; exact .int i t
  | _, _, _, .text x, r => by obtain ⟨t, rfl⟩ := r; exact .text x t
  | _, _, _, .tup hs ha, r => by
    cases r
    rcases hs with hs | ⟨o, its, n, hk, hc, hs, hz, rv⟩
    · obtain ⟨z, its, rv, o, e', c, n, dt⟩ := hs.ok ok
      exact .tup e' c dt (by simpa using nall_is ok kin ha rv)
    · exact .tup (kin _ o hk) hc hs (by simpa using nall_is ok kin ha rv)
theorem nall_is (ok : HOk P w H h) (kin : K.In h) : ∀ {ks : List NestedKey} {vs : List V} {us : List Value}, NAll K H ks vs → Vals vs us → NestedAll h ks us
  | _, _, _, .nil, r => by cases r; exact .nil
  | _, _, _, .cons a b, r => by
    cases r with
    | cons r1 r2 => exact .cons (nis_is ok kin a r1) (nall_is ok kin b r2)
end
theorem nall_strs : ∀ ws : List Str, NAll K H (ws.map NestedKey.text) (ws.map V.str)
  | [] => .nil
  | w :: ws => .cons (.text w) (nall_strs ws)
end
/-! ### rows -/
abbrev Rw : Type := NestedKey × Addr × V
def KR (x : Rw) (y : NestedKey × Addr × Value) : Prop := x.1 = y.1 ∧ x.2.1 = y.2.1 ∧ RelV x.2.2 y.2.2
def kGet (xs : List Rw) (k : NestedKey) : Option V := (xs.find? fun x => decide (x.1 = k)).map (·.2.2)
def kSet (k : NestedKey) (v : V) (x : Rw) : Rw := if x.1 = k then (x.1, x.2.1, v) else x
def kPut (xs : List Rw) (k : NestedKey) (b : Addr) (v : V) : List Rw := if (kGet xs k).isSome then xs.map (kSet k v) else xs ++ [(k, b, v)]
theorem kGet_cons (x : Rw) (xs : List Rw) (k : NestedKey) : kGet (x :: xs) k = if x.1 = k then some x.2.2 else kGet xs k := by
  unfold kGet
  by_cases h : x.1 = k
  · simp [List.find?, h]
  · simp [List.find?, h]
theorem at_cons (y : NestedKey × Addr × Value) (ys : List (NestedKey × Addr × Value)) (k : NestedKey) : atKey (y :: ys) k = if y.1 = k then some y.2 else atKey ys k := by
  unfold atKey
  by_cases h : y.1 = k
  · simp [List.find?, h]
  · simp [List.find?, h]
theorem rows_get (k : NestedKey) : ∀ {xs : List Rw} {ys : List (NestedKey × Addr × Value)}, Paired KR xs ys → (atKey ys k).isSome = (kGet xs k).isSome ∧ ∀ v, kGet xs k = some v → ∃ p, atKey ys k = some p ∧ RelV v p.2
  | [], _, r => by
    cases r
    exact ⟨rfl, fun v e => by cases e⟩
  | x :: xs, _, r => by
    cases r with
    | @cons _ y _ ys a b =>
      obtain ⟨e1, e2, e3⟩ := a
      rw [kGet_cons, at_cons, ← e1]
      by_cases h : x.1 = k
      · rw [if_pos h, if_pos h]
        exact ⟨rfl, fun v e => ⟨_, rfl, by cases e; exact e3⟩⟩
      · rw [if_neg h, if_neg h]
        exact rows_get k b
theorem paired_append {α β : Type} {F : α → β → Prop} : ∀ {as cs : List α} {bs ds : List β}, Paired F as bs → Paired F cs ds → Paired F (as ++ cs) (bs ++ ds)
  | _, _, _, _, .nil, h => h
  | _, _, _, _, .cons a b, h => .cons a (paired_append b h)
theorem rows_set (k : NestedKey) {v : V} {u : Value} (r : RelV v u) : ∀ {xs : List Rw} {ys : List (NestedKey × Addr × Value)}, Paired KR xs ys → Paired KR (xs.map (kSet k v)) (ys.map (putAt k u))
  | _, _, .nil => .nil
  | _, _, .cons (a := x) (b := y) a b => by
    obtain ⟨e1, e2, e3⟩ := a
    refine .cons ?_ (rows_set k r b)
    unfold kSet putAt
    rw [← e1]
    by_cases h : x.1 = k
    · rw [if_pos h, if_pos h]
      exact ⟨rfl, e2, r⟩
    · rw [if_neg h, if_neg h]
      exact ⟨e1, e2, e3⟩
theorem rows_put (k : NestedKey) (b : Addr) {v : V} {u : Value} (r : RelV v u) {xs : List Rw} {ys : List (NestedKey × Addr × Value)} (p : Paired KR xs ys) : Paired KR (kPut xs k b v) (storedH ys k b u) := by
  unfold kPut storedH
  rw [(rows_get k p).1]
  split
  · exact rows_set k r p
  · exact paired_append p (.cons ⟨rfl, rfl, r⟩ .nil)
theorem kPut_len (xs : List Rw) (k : NestedKey) (b : Addr) (v : V) : (kPut xs k b v).length ≤ xs.length + 1 := by
  unfold kPut
  split <;> simp
/-! ### the dict -/
def kdO (P : Program) (w : World) (d : Addr) (xs : List Rw) : HO := .ext fun h => ∃ ys : List (NestedKey × Addr × Value), Paired KR xs ys ∧ ∃ o es ep, h.get? d = some o ∧ o.ExactDict ∧ o.data = .dict es ep ∧ es.toList = ys.map (entryOfKey (nestedKind P w)) ∧ (ys.map (·.1)).Nodup
theorem kdO_ok {P : Program} {w : World} {H : Hp} {h : Heap} {d : Addr} {xs : List Rw} {ys : List (NestedKey × Addr × Value)} (p : Paired KR xs ys) (m : h.DictOfH (nestedKind P w) d ys) : ObjOk P w H h d (kdO P w d xs) := by
  obtain ⟨o, es, ep, ho, hc, hd, he, _, hn⟩ := m
  refine ⟨⟨ys, p, o, es, ep, ho, hc, hd, he, hn⟩, ⟨o, ho⟩, fun h1 h2 z kp => ?_⟩
  obtain ⟨ys, p, o, es, ep, ho, r⟩ := z
  exact ⟨ys, p, o, es, ep, kp o ho, r⟩
/-- at d: a dict of the rows xs -/
structure KD (P : Program) (w : World) (K : PySem.W.Frag) (H : Hp) (d : Addr) (xs : List Rw) : Prop where
  at_ : H d = some (kdO P w d xs)
  low : (d == sysModules) = false -- apart from the modules
  few : xs.length ≤ 1000
  key : ∀ x ∈ xs, NIs K H x.1 (.ref x.2.1) ∧ x.1.depth ≤ 8
theorem kdO_ne {P : Program} {w : World} {d : Addr} {xs : List Rw} {o : HO} (n : ∀ φ, HO.ext φ ≠ o) : kdO P w d xs ≠ o := n _
section
variable {P : Program} {w : World} {K : PySem.W.Frag} {H H' : Hp} {h : Heap} {d : Addr} {xs : List Rw}
theorem KD.same (z : KD P w K H d xs) (s : Same H H') : KD P w K H' d xs := ⟨s _ _ z.at_, z.low, z.few, fun x hx => ⟨(z.key x hx).1.same s, (z.key x hx).2⟩⟩
theorem KD.sb {wa : Addr} (z : KD P w K H d xs) (W : Well H wa) (s : Sb wa H H') : KD P w K H' d xs := ⟨s _ _ (W.ne z.at_ trivial) z.at_, z.low, z.few, fun x hx => ⟨(z.key x hx).1.sb W s, (z.key x hx).2⟩⟩
theorem KD.dict (z : KD P w K H d xs) (ok : HOk P w H h) (kin : K.In h) : ∃ ys, Paired KR xs ys ∧ h.DictOfH (nestedKind P w) d ys := by
  have x : ObjOk P w H h d (kdO P w d xs) := ok d _ z.at_
  obtain ⟨⟨ys, p, o, es, ep, ho, hc, hd, he, hn⟩, _⟩ := x
  refine ⟨ys, p, o, es, ep, ho, hc, hd, he, fun y hy => ?_, hn⟩
  have key : ∀ {l : List Rw} {m : List (NestedKey × Addr × Value)}, Paired KR l m → ∀ y ∈ m, ∃ x ∈ l, KR x y := by
    intro l m q
    induction q with
    | nil => exact fun y hy => nomatch hy
    | cons a b ih =>
      intro y hy; rcases List.mem_cons.mp hy with e | e
      · rw [e]
        exact ⟨_, List.mem_cons_self, a⟩
      · obtain ⟨x, h1, h2⟩ := ih y e
        exact ⟨x, List.mem_cons_of_mem _ h1, h2⟩
  obtain ⟨x, hx, e1, e2, e3⟩ := key p y hy
  rw [← e1, ← e2]
  exact ⟨nis_is ok kin (z.key x hx).1 rfl, (z.key x hx).2⟩
end
section
variable {X : Cx}
theorem kroom (hu : X.A.units + 16 < cLine) : (nestedKind X.prog X.w).room X.A.in1 := by
  show X.A.units + 1 + 8 < cLine
  omega
/-- key in d -/
def rInN (P : Program) (w : World) (K : PySem.W.Frag) : R2 := fun x y H Q => ∃ (b d : Addr) (k : NestedKey) (xs : List Rw), x = .ref b ∧ y = .ref d ∧ NIs K H k (.ref b) ∧ k.depth ≤ 8 ∧ KD P w K H d xs ∧ Q (.bl (kGet xs k).isSome) H
theorem op_inN (hu : X.A.units + 16 < cLine) : OpR X (compareOp .In) (rInN X.prog X.w X.K) := by
  intro pins0 s0 σ0 H0 x0 y0 v0 u0 Q0 I0 rx0 ry0 ⟨b, d, k, xs, e1, e2, hk, hd, z, q0⟩
  subst e1 e2
  cases rx0
  cases ry0
  obtain ⟨ys, p, m⟩ := z.dict I0.hok I0.kIn
  refine wpAny_in_heap (kroom hu) ⟨nis_is I0.hok I0.kIn hk rfl, hd⟩ z.low m ?_
  rw [(rows_get k p).1]
  exact ⟨.bl _, H0, I0.tok _, rfl, q0⟩
/-- d[key] -/
theorem ix_kd (hu : X.A.units + 16 < cLine) : IxR X (fun x y H Q => ∃ (b d : Addr) (k : NestedKey) (xs : List Rw) (v : V), x = .ref d ∧ y = .ref b ∧ NIs X.K H k (.ref b) ∧ k.depth ≤ 8 ∧ KD X.prog X.w X.K H d xs ∧ kGet xs k = some v ∧ Q v H) := by
  intro value slice pins0 s0 σ0 H0 x0 y0 v0 u0 Q0 I0 rx0 ry0 ⟨b, d, k, xs, v, e1, e2, hk, hd, z, hv, q0⟩ hs0
  subst e1 e2
  cases rx0
  cases ry0
  obtain ⟨ys, p, m⟩ := z.dict I0.hok I0.kIn
  obtain ⟨pp, hp, rp⟩ := (rows_get k p).2 v hv
  exact tail_any m.typeIs slot_dict_getitem.lookup (wpAny_getItem_heap (kroom hu) ⟨nis_is I0.hok I0.kIn hk rfl, hd⟩ m hp ⟨v, H0, I0.tok _, rp, q0⟩) hs0
/-- {} of this kind -/
theorem pe_dnewN {pos : Pos} : PE X (.Dict [] [] pos) (fun _ H Q => ∀ d, H d = none → (d == sysModules) = false → Q (.ref d) (upd H d (kdO X.prog X.w d []))) := ⟨fun pins0 s0 σ0 H0 Q0 I0 h0 =>
  wpAny_Dict_empty ⟨.ref s0.heap.objs.size, _, I0.laid (a := s0.heap.objs.size) (o := kdO X.prog X.w s0.heap.objs.size []) (t' := s0.toks) (fun b0 o0 q => Heap.get?_push_of_some _ q) (Nat.le_refl _) (kdO_ok .nil (Heap.DictOfH.new s0.heap)), rfl, h0 _ I0.fresh (beq_eq_false_iff_ne.mpr (Nat.ne_of_gt I0.big))⟩⟩
/-- d[key] = v -/
def putN (P : Program) (w : World) (K : PySem.W.Frag) : TSet := fun o i v H Q => ∃ (b d : Addr) (k : NestedKey) (xs : List Rw), o = .ref d ∧ i = .ref b ∧ NIs K H k (.ref b) ∧ k.depth ≤ 8 ∧ KD P w K H d xs ∧ Q (upd H d (kdO P w d (kPut xs k b v)))
theorem pset_kd (hu : X.A.units + 16 < cLine) : PSet X (putN X.prog X.w X.K) := by
  intro pins0 s0 σ0 H0 o0 i0 v0 ov iv u0 Q0 I0 ro ri rv ⟨b, d, k, xs, e1, e2, hk, hd, z, q0⟩
  subst e1 e2
  cases ro
  cases ri
  obtain ⟨ys, p, m⟩ := z.dict I0.hok I0.kIn
  have ln : ys.length ≤ sizeLine := by
    rw [← p.length]
    exact Nat.le_trans z.few (by decide)
  refine wpAny_setItem_heap (hsz := ln) (kroom hu) ⟨nis_is I0.hok I0.kIn hk rfl, hd⟩ m fun h1 m1 sb => ?_
  have ex : ∃ q, h1.get? d = some q := let ⟨q, _, _, hq, _⟩ := m1; ⟨q, hq⟩
  exact ⟨_, d_write (t' := s0.toks + (nestedKind X.prog X.w).draws k) I0 (by rw [z.at_]; exact True.intro) sb ex (kdO_ok (rows_put k b rv p) m1), q0⟩
theorem dset_kd {pins : List (Addr × Obj)} {σ : L2.St} {H : Hp} {s : Shared} {E : Value → Shared → Prop} {b d : Addr} {k : NestedKey} {xs : List Rw} {v : V} {u : Value} {Q : Unit → Shared → Prop} (hu : X.A.units + 16 < cLine) (I : Inv X pins σ H s) (hk : NIs X.K H k (.ref b)) (hd : k.depth ≤ 8) (z : KD X.prog X.w X.K H d xs)
    (rv : RelV v u) (q : ∀ s1, Inv X pins σ (upd H d (kdO X.prog X.w d (kPut xs k b v))) s1 → Q () s1) : wpAny (model X.prog X.w) X.A (dictSet d (.ref b) u) Q E s := by
  obtain ⟨ys, p, m⟩ := z.dict I.hok I.kIn
  have ln : ys.length ≤ sizeLine := by
    rw [← p.length]
    exact Nat.le_trans z.few (by decide)
  refine wpAny_dictSet_heap (knd := nestedKind X.prog X.w) (hsz := ln) (show X.A.units + 8 < cLine by omega) ⟨nis_is I.hok I.kIn hk rfl, hd⟩ m fun h1 m1 sb => q _ ?_
  have ex : ∃ q, h1.get? d = some q := let ⟨q, _, _, hq, _⟩ := m1; ⟨q, hq⟩
  exact d_write (t' := s.toks + (nestedKind X.prog X.w).draws k) I (by rw [z.at_]; exact True.intro) sb ex (kdO_ok (rows_put k b rv p) m1)
end
end Ld
/-! {k: v for ..}, the keys tuples of any depth. -/
namespace Ld
open L2 PySem PySem.Spec PyProof.Rows
/-- one more row -/
def moreN (P : Program) (w : World) (K : PySem.W.Frag) (D : Addr) (y z : V) (H : Hp) (Nx : Hp → Prop) : Prop := ∃ (b : Addr) (k : NestedKey) (rs : List Rw), y = .ref b ∧ NIs K H k (.ref b) ∧ k.depth ≤ 8 ∧ KD P w K H D rs ∧ Nx (upd H D (kdO P w D (kPut rs k b z)))
def tDcN (P : Program) (w : World) (K : PySem.W.Frag) (wi : TI) (g : TG) (tk tv : TE) (own : List Nat) : TE := fun σ H Q => wi σ H fun J H1 => ∀ D, H1 D = none → (D == sysModules) = false → ∃ W : Nat → Nat → Hp → Prop, (∃ m, W 0 m (upd H1 D (kdO P w D []))) ∧ ∀ i m G, W i m G →
  (J.stop i G ∧ Q (.ref D) G) ∨ (J.go i G ∧ ∃ Nx : Hp → Prop, (∀ G', Nx G' → ∃ m', m' < m ∧ W (i + 1) m' G') ∧ ∀ x G', J.yld i G x G' → g x (wipe σ own) G' fun σ2 G2 => wipe σ2 own = wipe σ own ∧ tk σ2 G2 fun y G4 => tv σ2 G4 fun z G5 => moreN P w K D y z G5 Nx)
section
variable {X : Cx}
theorem dcN_core {pins0 : List (Addr × Obj)} {s0 : Shared} {σ0 : L2.St} {H0 : Hp} {Q0 : VK} {kx vx tg iter : Expr} {scope : Scope} {own : List (Str × Nat)} {pos pos2 : Pos} {wi : TI} {g : TG} {tk tv : TE} {use : Option (Value → Sem Unit)} {Qf : Value → Shared → Prop} (hu : X.A.units + 16 < cLine) (hc : X.calm = true) (hN : X.N.Nodup)
    (I0 : Inv X pins0 σ0 H0 s0) (hi : PI X tg iter wi) (ok : BlkOk X.N X.env.scope scope own)
    (hg : ∀ (s : Shared) (H : Hp) (C : Addr) (cl : List (Str × Addr)) (fp : List Addr), PG (X.blk s H scope (compEnvC scope cl C X.env) fp) tg g)
    (hk : ∀ (s9 : Shared) (H9 : Hp) (C9 : Addr) (cl : List (Str × Addr)) (fp : List Addr), PE (X.blk s9 H9 scope (compEnvC scope cl C9 X.env) fp) kx tk)
    (he : ∀ (s9 : Shared) (H9 : Hp) (C9 : Addr) (cl : List (Str × Addr)) (fp : List Addr), PE (X.blk s9 H9 scope (compEnvC scope cl C9 X.env) fp) vx tv) (hs : ∀ x, foldedSetIterable iter X.env x = pure x)
    (h0 : tDcN X.prog X.w X.K wi g tk tv (own.map (·.2)) σ0 H0 Q0)
    (back : ∀ D C s' m H', Inv X pins0 σ0 H' s' → Q0 (.ref D) H' → s'.heap.Ns C m → FpOk X pins0 H' C → compPost (model X.prog X.w) X.A X.xe use Qf (.ref D) C (.ok .next) s') :
    wpAny (model X.prog X.w) X.A (comprehension (.DictComp kx vx [⟨tg, iter, [], 0⟩] scope pos) scope X.env pos2 newDict false (eval iter X.env) use) Qf X.xe s0 := by
  have cells0 : ∀ y ∈ scope.names, y.2 = .free → ∃ c, X.env.cells.lookup y.1 = some c := fun y hy e => (ok.free y hy e).elim (fun q => I0.ok.has _ (.inl q)) fun q => I0.ok.has _ (.inr q)
  refine wpAny_comprehension_free (use := use) rfl hs (closure_ok cells0) ok.kind (fun y hy e => by rw [ok.uniq y hy, e]) (thn (hi.run pins0 s0 σ0 H0 _ I0 h0) fun xv s1 hx => thn hx fun itv s2 h2 => ?_)
  obtain ⟨it, fp, tn, J, H2, e2, I2, T, st2, f2, q2⟩ := h2
  subst e2
  refine wpAny_newObj_type (newEnv_comp ?block); have low2 : (s2.heap.objs.size == sysModules) = false := beq_eq_false_iff_ne.mpr (Nat.ne_of_gt I2.big)
  obtain ⟨W, ⟨m0, w0⟩, turn⟩ := q2 _ I2.fresh low2
  have J3 : Inv X pins0 σ0 (upd H2 s2.heap.objs.size (kdO X.prog X.w s2.heap.objs.size [])) { s2 with heap := s2.heap.push { cls := .type "dict", data := .dict #[] } } :=
    I2.laid (t' := s2.toks) (fun b0 o0 q => Heap.get?_push_of_some _ q) (Nat.le_refl _) (kdO_ok .nil (Heap.DictOfH.new s2.heap))
  have old2 : ∀ b ∈ fp, b < s2.heap.objs.size := fun b hb => let ⟨_, e, _⟩ := T.obj _ _ st2 b hb; Heap.lt_size e
  have fp3 : ∀ b ∈ fp, FpOk X pins0 (upd H2 s2.heap.objs.size (kdO X.prog X.w s2.heap.objs.size [])) b ∧ b < (s2.heap.push { cls := .type "dict", data := .dict #[] }).objs.size := fun b hb =>
    ⟨⟨by rw [upd_ne (Nat.ne_of_lt (old2 b hb))]; exact (f2 b hb).1, (f2 b hb).2⟩, by rw [Heap.size_push]; exact Nat.lt_succ_of_lt (old2 b hb)⟩
  have st3 : tn 0 (s2.heap.push { cls := .type "dict", data := .dict #[] }) := T.keep _ _ _ st2 fun b _ o e => Heap.get?_push_of_some _ e
  generalize hD : s2.heap.objs.size = D at *
  generalize hH3 : upd H2 D (kdO X.prog X.w D []) = H3 at *
  generalize hs3 : ({ s2 with heap := s2.heap.push { cls := .type "dict", data := .dict #[] } } : Shared) = s3 at J3 ⊢
  have hp3 : s3.heap = s2.heap.push { cls := .type "dict", data := .dict #[] } := by rw [← hs3]
  rw [← hp3] at fp3 st3
  have B4 := block_start J3 ok hN fp3
  have gg := hg s3 H3 s3.heap.objs.size (cellsFrom (s3.heap.objs.size + 1) scope.names (cloFrom X.env.cells scope.names [])) fp
  have gk := hk s3 H3 s3.heap.objs.size (cellsFrom (s3.heap.objs.size + 1) scope.names (cloFrom X.env.cells scope.names [])) fp
  have ge := he s3 H3 s3.heap.objs.size (cellsFrom (s3.heap.objs.size + 1) scope.names (cloFrom X.env.cells scope.names [])) fp
  show codeAny _ _ (.compStart (.DictComp kx vx [⟨tg, iter, [], 0⟩] scope pos) 0 (.ref it) (.ref D) (compEnvC scope (cellsFrom (s3.heap.objs.size + 1) scope.names (cloFrom X.env.cells scope.names [])) s3.heap.objs.size X.env)) (compPost (model X.prog X.w) X.A X.xe use Qf (.ref D) s3.heap.objs.size) { s3 with heap := pushCells (s3.heap.push { cls := .type "dict", data := .dict #[] }) scope.names }
  generalize hce : compEnvC scope (cellsFrom (s3.heap.objs.size + 1) scope.names (cloFrom X.env.cells scope.names [])) s3.heap.objs.size X.env = ce at B4 gg gk ge ⊢
  have ceL : ce.locals = s3.heap.objs.size := by rw [← hce]; rfl
  generalize hs4 : ({ s3 with heap := pushCells (s3.heap.push { cls := .type "dict", data := .dict #[] }) scope.names } : Shared) = s4 at B4 ⊢
  have st4 : tn 0 s4.heap := T.keep _ _ _ st3 fun b0 _ o0 e0 => by rw [← hs4]; exact pushCells_keeps _ _ _ _ (Heap.get?_push_of_some _ e0)
  have apart : ∀ {σ' : L2.St} {H' : Hp} {s' : Shared}, Inv (X.blk s3 H3 scope ce fp) [] σ' H' s' → (∀ b ∈ fp, H' b = none) → ∀ b ∈ fp, FpOk (X.blk s3 H3 scope ce fp) [] H' b := fun {σ' H' s'} I' hn b hb =>
    ⟨hn b hb, (I'.ok.exf b hb).1, I'.ok.exfs b hb, .inl hb, (I'.ok.exf b hb).2, fun q hq => absurd (show q ∈ ([] : List (Addr × Obj)) ++ [] from hq) (by simp)⟩
  have loop : codeAny (model X.prog X.w) X.A (.compLoop (.DictComp kx vx [⟨tg, iter, [], 0⟩] scope pos) 0 (.ref it) (.ref D) ce) (compPost (model X.prog X.w) X.A X.xe use Qf (.ref D) s3.heap.objs.size) s4 := by
    refine compLoop_anyD (fun n s' => ∃ i G, Inv (X.blk s3 H3 scope ce fp) [] (wipe σ0 (own.map (·.2))) G s' ∧ tn i s'.heap ∧ (∀ b ∈ fp, G b = none) ∧ W i n G) ?_ m0 ⟨0, H3, B4, st4, fun b hb => (fp3 b hb).1.1, w0⟩
    rintro n s5 ⟨i, G, B5, st5, n5, w5⟩
    rcases turn i n G w5 with ⟨stop, qq⟩ | ⟨go, Nx, hNx, step⟩
    · refine thnF (T.done (X.blk s3 H3 scope ce fp) rfl rfl rfl hc i [] s5 _ G (fun _ _ => False) B5 (apart B5 n5) st5 stop) fun r s6 ⟨hr, B6⟩ => ?_
      subst hr
      have I7 : Inv X pins0 σ0 G s6 := J3.call' (ch := fp) B6.os B6.base B6.hok B6.bare fun b hb => ⟨(fp3 b hb).1.2.2.2.1, (fp3 b hb).1.2.1, (fp3 b hb).1.2.2.2.2.1, (fp3 b hb).1.2.2.2.2.2⟩
      have nC : G s3.heap.objs.size = none := by
        have z : G ce.locals = none := B6.free
        rw [ceL] at z
        exact z
      obtain ⟨m, hn, _⟩ := B6.loc
      have hn : s6.heap.Ns s3.heap.objs.size m := ceL ▸ (show s6.heap.Ns ce.locals m from hn)
      exact back D s3.heap.objs.size s6 m G I7 qq hn (J3.fpOk (Nat.le_refl _) nC)
    · refine thnF (T.item (X.blk s3 H3 scope ce fp) rfl rfl rfl hc i [] s5 _ G (fun _ _ => False) B5 (apart B5 n5) st5 go) fun r s6 ⟨u, hr, h6⟩ => ?_
      subst hr
      refine thnF h6 fun _ s7 ⟨x, G7, B7, r7, y7, st7, n7⟩ => ?_
      refine thnF (gg.run _ s7 _ G7 x u _ (B7.pinned (apart B7 n7) (T.obj _ _ st7)) r7 (step x G7 y7)) fun _ s8 ⟨σ8, G8, B8, hw8, q8⟩ => ?_
      refine thnF ((pts_nil (X := X.blk s3 H3 scope ce fp)).run _ s8 σ8 G8 (fun b G9 => b = true ∧ G9 = G8) B8 ⟨rfl, rfl⟩) fun b s9 ⟨G9, B9, eb, eG⟩ => ?_
      subst eb eG
      refine thnF (gk.run _ s9 σ8 _ _ B9 q8) fun z1 s10 ⟨yk, G10, B10, r10, q10⟩ => ?_
      refine thnF (ge.run _ s10 σ8 G10 _ B10 q10) fun z2 s11 ⟨yv, G11, B11, r11, kb, kk, rs, ek, hkk, hkd, hkD, nx⟩ => ?_
      subst ek
      cases r10
      refine dset_kd (X := X.blk s3 H3 scope ce fp) hu B11 hkk hkd hkD r11 fun s12 B12 => ?_
      obtain ⟨m', hm, w'⟩ := hNx _ nx
      have pin' : ∀ b ∈ fp, ∀ o, s7.heap.get? b = some o → s12.heap.get? b = some o ∧ (upd G11 D (kdO X.prog X.w D (kPut rs kk kb yv))) b = none := fun b hb o e =>
        let z := B12.pin (b, o) (List.mem_append_right _ (List.mem_append_right _ (mem_pinsAt hb e)))
        ⟨z.1, z.2.1⟩
      have hl : (wipe σ0 (own.map (·.2))).length = σ8.length := by rw [← hw8, wipe_length]
      refine ⟨m', hm, i + 1, _, (B12.unpinned (pins := [])).weak hl (fun j v e => ?_), T.keep _ _ _ st7 fun b hb o e => (pin' b hb o e).1, fun b hb => ?_, w'⟩
      · rw [← hw8] at e
        exact (wipe_some e).1
      · exact let ⟨o7, e7, _⟩ := T.obj _ _ st7 b hb; (pin' b hb o7 e7).2
  exact codeAny_compStart_dict loop  (T.self (X.A) 0 _ _ _ (st4) loop)
theorem pe_dcN {kx vx tg iter : Expr} {scope : Scope} {own : List (Str × Nat)} {pos : Pos} {wi : TI} {g : TG} {tk tv : TE} (hu : X.A.units + 16 < cLine) (hc : X.calm = true) (hN : X.N.Nodup) (hi : PI X tg iter wi) (ok : BlkOk X.N X.env.scope scope own)
    (hg : ∀ (s : Shared) (H : Hp) (C : Addr) (cl : List (Str × Addr)) (fp : List Addr), PG (X.blk s H scope (compEnvC scope cl C X.env) fp) tg g)
    (hk : ∀ (s9 : Shared) (H9 : Hp) (C9 : Addr) (cl : List (Str × Addr)) (fp : List Addr), PE (X.blk s9 H9 scope (compEnvC scope cl C9 X.env) fp) kx tk)
    (he : ∀ (s9 : Shared) (H9 : Hp) (C9 : Addr) (cl : List (Str × Addr)) (fp : List Addr), PE (X.blk s9 H9 scope (compEnvC scope cl C9 X.env) fp) vx tv) (hs : ∀ x, foldedSetIterable iter X.env x = pure x := by intro _; rfl) :
    PE X (.DictComp kx vx [⟨tg, iter, [], 0⟩] scope pos) (tDcN X.prog X.w X.K wi g tk tv (own.map (·.2))) := by
  refine ⟨fun pins0 s0 σ0 H0 Q0 I0 h0 => ?_⟩
  rw [arm_eval_DictComp]
  refine dcN_core hu hc hN I0 hi ok hg hk he hs h0 fun D C s1 m G I1 q hn f => ⟨m, hn, fun h2 sb => ?_⟩
  obtain ⟨f0, f1, f2', f3, f4, f5⟩ := f
  exact ⟨.ref D, G, I1.turned (t' := s1.toks) (fun b o hb e => (sb.2 b hb).trans e) f0 f1 f3 f4 f5, rfl, q⟩
/-- name = {..} on one line -/
theorem ps_setDcN {i : Nat} {y : Str} {py : Pos} {kx vx tg iter : Expr} {scope : Scope} {own : List (Str × Nat)} {pos spos : Pos} {wi : TI} {g : TG} {tk tv : TE} (hu : X.A.units + 16 < cLine) (hc : X.calm = true) (hN : X.N.Nodup) (hy : X.N[i]? = some y) (hyl : X.env.scope.names.lookup y = some .local)
    (hsw : swapsWith (.DictComp kx vx [⟨tg, iter, [], 0⟩] scope pos) (some (.Name y py)) spos.line X.env = pure true) (hi : PI X tg iter wi) (ok : BlkOk X.N X.env.scope scope own)
    (hg : ∀ (s : Shared) (H : Hp) (C : Addr) (cl : List (Str × Addr)) (fp : List Addr), PG (X.blk s H scope (compEnvC scope cl C X.env) fp) tg g)
    (hk : ∀ (s9 : Shared) (H9 : Hp) (C9 : Addr) (cl : List (Str × Addr)) (fp : List Addr), PE (X.blk s9 H9 scope (compEnvC scope cl C9 X.env) fp) kx tk)
    (he : ∀ (s9 : Shared) (H9 : Hp) (C9 : Addr) (cl : List (Str × Addr)) (fp : List Addr), PE (X.blk s9 H9 scope (compEnvC scope cl C9 X.env) fp) vx tv) (hs : ∀ x, foldedSetIterable iter X.env x = pure x := by intro _; rfl) :
    PS X (.Assign [.Name y py] (.DictComp kx vx [⟨tg, iter, [], 0⟩] scope pos) spos) (tAsg (tDcN X.prog X.w X.K wi g tk tv (own.map (·.2))) (gName i)) := by
  refine ⟨fun pins0 s0 σ0 H0 D0 I0 h0 => ?_⟩
  rw [exec_Assign_Name_used _ _ _ _ hsw]; refine wpAny_bind (wpAny_standAt (wpAny_bind (m := evalThenUse _ _ _) ?_))
  show wpAny _ X.A (do let _ ← comprehension (.DictComp kx vx [⟨tg, iter, [], 0⟩] scope pos) scope X.env (firstIterPos [⟨tg, iter, [], 0⟩] pos) newDict false (eval iter X.env) (some (assign (.Name y py) X.env))) _ _ s0
  have h1 : tDcN X.prog X.w X.K wi g tk tv (own.map (·.2)) σ0 H0 (fun x H1 => gName i x σ0 H1 D0.nx) := h0
  refine wpAny_bind (thn (dcN_core (Qf := fun _ s' => SP X pins0 D0 .next s') hu hc hN I0 hi ok hg hk he hs h1 fun L C s1 m G I1 q hn f => ?_) fun _ s' hq => wpAny_pure (wpAny_pure hq))
  show wpAny _ _ (assign (.Name y py) X.env (.ref L)) _ _ _; refine wpAny_assign_Name (store_ok2 (v := V.ref L) I1 hN hy (.inl hyl) rfl (fun s2 I2 ⟨a, sb, ha⟩ => ?_) (.inr hyl))
  obtain ⟨f0, f1, f2', f3, f4, f5⟩ := f
  have ne : C ≠ a := ha.elim (fun z => z ▸ f1) fun z e => f4 y a z e.symm
  exact ⟨m, hn.sameBut sb ne, fun h3 sb3 => ⟨_, G, I2.turned (t' := s2.toks) (fun b o hb e => (sb3.2 b hb).trans e) f0 f1 f3 f4 f5, q⟩⟩
theorem sw_dict {kx vx : Expr} {gs : List Comprehension} {scope : Scope} {pos py : Pos} {y : Str} {l : Nat} {env : Env} (hk : env.scope.kind = .function) (hy : env.scope.names.lookup y = some .local) (hl : (py.line == pos.line) = true)
    (ha : (scope.names.any fun (n, k) => n == y && (k == .local || k == .cell)) = false) : swapsWith (.DictComp kx vx gs scope pos) (some (.Name y py)) l env = pure true := by
  have ky : env.kindOf y = some .local := hy; have bk : env.blockKind = .function := by unfold Env.blockKind; rw [hk]; rfl
  unfold swapsWith
  simp only [bk, ky, ha, Expr.pos, hl]
  rfl
end
end Ld
/-! len, ==, != by defs of one's own; len(d), list(d.values()) of dicts whose keys hold tuples. -/
namespace Ld
open PySem L2 PyProof.Rows
section
variable {X : Cx} {A : Around} {k : Nat} {f C : Addr} {fd : FuncData} {ps : List Str} {sp : Sp}
theorem run_own {pins : List (Addr × Obj)} {σ : L2.St} {H : Hp} {s : Shared} {Q : VK} {E : Value → Shared → Prop} {us : List Value} {vs : List V} (F : FnOk X.prog X.w X.K X.mg X.base CX0 k f fd ps sp) (hb : Binds X.K fd ps []) (hr : Room k A) (fr : A.frames = X.A.frames)
    (I : Inv X pins σ H s) (r : Vals vs us) (h : sp vs H Q E0) : wpAny (model X.prog X.w) A (call (.ref f) us) (EP X pins σ Q) E s := by
  have e1 := I.env0
  have e0 : Env0 X.prog X.w X.K X.mg X.base A X.stack s H := ⟨fr.trans e1.frames, e1.mod, e1.bs, e1.bsz, e1.funs, e1.frf, e1.hok, e1.bare⟩
  have hl : (us ++ []).length = ps.length := by
    rw [List.append_nil, ← r.length]
    exact F.len _ _ _ _ h
  have b := hb s us I.kIn hl
  rw [List.append_nil] at b
  refine wpAny_call (codeAny_mono (F.run A X.stack s H ⟨us, []⟩ us vs Q E0 hr e0 b r h) fun z s2 hz => ?_)
  match z, hz with
  | .ok (.ret v), hz => exact I.after hz
  | .ok .next, hz => exact False.elim hz
  | .ok .brk, hz => exact False.elim hz
  | .ok .cont, hz => exact False.elim hz
  | .error er, hz => exact False.elim hz
/-- len(x), by its own __len__ -/
def rLenO (C : Addr) (sp : Sp) : List V → Hp → VK → Prop := fun xs H Q => ∃ a dx fs, xs = [.ref a] ∧ H a = some (.ins C dx fs) ∧ sp [.ref a] H (fun v H2 => ∃ n : Nat, v = .int n ∧ n ≤ sizeLine ∧ Q v H2) E0
theorem call_lenO (hs : PySem.W.findIn X.K (.ref C) "__len__" = some (some (.ref f))) (hf : PySem.W.isFn X.K (.ref f) = true) (F : FnOk X.prog X.w X.K X.mg X.base CX0 k f fd ps sp) (hr : Room (k + 1) X.A) (hb : Binds X.K fd ps []) : CallR X (.builtin "len") (rLenO C sp) := by
  intro pins s σ H xs us Q I r ⟨a, dx, fs, e, ha, q⟩
  subst e
  obtain ⟨u0, rfl, rx⟩ := vals1 r
  cases rx
  obtain ⟨mA0, J, _⟩ := ins_get I.hok ha
  obtain ⟨od, J, _⟩ := J.look
  obtain ⟨m, hF⟩ := I.fr
  refine PySem.W.len_K hF I.ok.mod.kin J hs hf (wpAny_mono (run_own (vs := [.ref a]) F hb hr.in1 rfl I (.cons rfl .nil) q) (fun v s' z => ?_) fun _ _ z => z)
  obtain ⟨y, H2, I2, ry, n, e, hn, q2⟩ := z
  subst e
  obtain ⟨t, rfl⟩ := ry
  have big : (n : Int) < 2 ^ 63 := Int.lt_of_le_of_lt (Int.ofNat_le.mpr hn) (by decide)
  exact ⟨⟨by omega, big⟩, .int n, H2, I2.tok _, ⟨_, rfl⟩, q2⟩
/-- x == y, by an own __eq__ -/
def rEqO (C : Addr) (neg : Bool) (sp : Sp) : R2 := fun x y H Q => ∃ a dx fs b dy gs, x = .ref a ∧ y = .ref b ∧ H a = some (.ins C dx fs) ∧ H b = some (.ins C dy gs) ∧ sp [x, y] H (fun v H2 => ∃ t, v = .bl t ∧ Q (.bl (if neg then !t else t)) H2) E0
theorem op_eqO (hs : PySem.W.findIn X.K (.ref C) "__eq__" = some (some (.ref f))) (hf : PySem.W.isFn X.K (.ref f) = true) (F : FnOk X.prog X.w X.K X.mg X.base CX0 k f fd ps sp) (hr : Room k X.A) (hb : Binds X.K fd ps []) : OpR X (compareOp .Eq) (rEqO C false sp) := by
  intro pins s σ H x y v u Q I rx ry ⟨a, dx, fs, b, dy, gs, e1, e2, ha, hc, q⟩
  subst e1 e2
  cases rx
  cases ry
  obtain ⟨mA0, J, _⟩ := ins_get I.hok ha
  obtain ⟨od, J, _⟩ := J.look
  obtain ⟨mB, J2, _⟩ := ins_get I.hok hc
  obtain ⟨od2, J2, _⟩ := J2.look
  obtain ⟨m, hF⟩ := I.fr
  show wpAny (model X.prog X.w) X.A (richCompare .Eq (.ref a) (.ref b)) (EP X pins σ Q) X.xe s
  refine PySem.W.cmp_K (op := .Eq) (tb := .ref C) hr.units0 hF I.ok.mod.kin J J2.type (by simp [PySem.W.notFirst]) hs hf (wpAny_mono (run_own (vs := [.ref a, .ref b]) F hb hr rfl I (.cons rfl (.cons rfl .nil)) q) (fun v s' z => ?_) fun _ _ z => z)
  obtain ⟨y, H2, I2, ry, t, e, q2⟩ := z
  subst e
  cases ry
  exact ⟨.bl t, H2, I2, rfl, q2⟩
/-- the class has object's own != -/
structure NeO (K : PySem.W.Frag) (C f : Addr) : Prop where
  ne : PySem.W.findIn K (.ref C) "__ne__" = some (some (.builtin "object.__ne__"))
  sub : PySem.W.subIn K (.ref C) (.type "object") = some true
  eq : PySem.W.findIn K (.ref C) "__eq__" = some (some (.ref f))
  fd : PySem.W.isFn K (.ref f) = true
theorem bound_b {M : Model} {A : Around} {E : Value → Shared → Prop} {s : Shared} {K : PySem.W.Frag} {x C : Addr} {ox : Obj} {od : Option Obj} {name : Str} {i : String} {args : List Value} {Q : Option Value → Shared → Prop} (hin : K.In s.heap) (I : PySem.W.InstAt s.heap x ox C od)
    (hs : PySem.W.findIn K (.ref C) name = some (some (.builtin i))) (hb : bindSpecial (.builtin i) (.ref x) = pure (.builtin i, [.ref x])) (h : wpAny M A (call (.builtin i) (.ref x :: args)) (fun v => Q (some v)) E s) : wpAny M A (callSpecialIfBound? (.ref x) name args) Q E s := by
  simp only [bindSpecialIfBound?, callSpecialIfBound?]
  refine wpAny_holding (wpAny_bind (wpAny_bind (wpAny_bind (I.type.here ((PySem.W.looks_findIn hin hs).here ?_)))))
  have fin : wpAny M A (call (.builtin i) ([.ref x] ++ args) >>= fun v => pure (some v)) Q E s := wpAny_bind (wpAny_mono h (fun v s' z => wpAny_pure z) fun _ _ z => z)
  refine wpAny_bind (wpAny_askSetting (wpAny_ite ?_)); split
  · exact wpAny_bind ((PySem.W.Looks.of_pure hb).here (wpAny_pure (by exact fin)))
  · exact wpAny_tryCatch (wpAny_bind ((PySem.W.Looks.of_pure hb).here (wpAny_pure (by exact fin))))
theorem ne_own {P : Program} {w : World} {A : Around} {E : Value → Shared → Prop} {s : Shared} {K : PySem.W.Frag} {x C f : Addr} {ox : Obj} {od : Option Obj} {b : Value} {Q : Value → Shared → Prop} (Z : NeO K C f) (hu : A.units + 1 < cLine) (hin : K.In s.heap) (I : PySem.W.InstAt s.heap x ox C od)
    (hb : PySem.W.Looks (model P w) s.heap (typeOf b) (.ref C)) (h : wpAny (model P w) A.in1 (call (.ref f) [.ref x, b]) (fun v s' => ∃ t, v = .bool t ∧ Q (.bool (!t)) s') E s) : wpAny (model P w) A (richCompare .NotEq (.ref x) b) Q E s := by
  have entry : wpAny (model P w) A.in1 (Builtin.«object.__ne__» ⟨[.ref x, b], []⟩) (fun fin s' => ∃ v, fin = .done (.ret v) ∧ v ≠ .notImplemented ∧ Q v s') E s := by
    unfold Builtin.«object.__ne__»; repeat (first
      | with_reducible refine wpAny_cRoomFor (show A.in1.units < cLine from hu) ?_
      | (refine wpAny_bind (m := callSpecialIfBound? (.ref x) (Str.ofString "__eq__") [b]) (PySem.W.ifBound_K hin I Z.eq Z.fd (wpAny_mono h (fun r s' hr => by
            obtain ⟨t, rfl, hq⟩ := hr
            repeat (first | exact ⟨_, rfl, (fun z => nomatch z), hq⟩ | exact wpAny_pure ⟨_, rfl, (fun z => nomatch z), hq⟩ | (refine wpAny_bind (m := truthy (.bool _)) (wpAny_truthy_bool ?_)) | wp_step)) fun _ _ e => e)))
      | wp_step)
  have one : wpAny (model P w) A (tryCompare (.ref x) "__ne__" b) (fun r s' => ∃ v, r = some v ∧ Q v s') E s := by
    unfold tryCompare
    refine wpAny_bind (bound_b hin I Z.ne rfl (wpAny_call (codeAny_call_builtin PySem.F.cmp_object.ne.plain F.cmpEntry_ne (PySem.W.check_slot F.cmpKind_ne F.cmpSplit_ne (I.type.andThen (PySem.W.looks_subIn hin Z.sub)) (F.cmpArgs_ne _ _) (wpAny_mono entry (fun fin s' z => ?_) fun _ _ z => z)))))
    obtain ⟨v, rfl, nv, q⟩ := z
    cases v <;> first | exact absurd rfl nv | exact ⟨_, rfl, q⟩ | exact wpAny_pure ⟨_, rfl, q⟩
  unfold richCompare
  simp only [oneThing_ref]
  refine wpAny_holding (wpAny_bind (wpAny_cRoomFor (Nat.lt_of_succ_lt hu) ?_))
  refine wpAny_bind (I.type.here (wpAny_bind (hb.here ?_))); rw [show (Value.ref C != Value.ref C) = false from by simp]; refine wpAny_bind (wpAny_pure ?_); simp only [Bool.false_eq_true, if_false]
  refine wpAny_bind (wpAny_mono one (fun r s' z => ?_) fun _ _ z => z)
  obtain ⟨v, rfl, q⟩ := z
  exact wpAny_pure q
theorem op_neO (Z : NeO X.K C f) (F : FnOk X.prog X.w X.K X.mg X.base CX0 k f fd ps sp) (hr : Room (k + 1) X.A) (hb : Binds X.K fd ps []) : OpR X (compareOp .NotEq) (rEqO C true sp) := by
  intro pins s σ H x y v u Q I rx ry ⟨a, dx, fs, b, dy, gs, e1, e2, ha, hc, q⟩
  subst e1 e2
  cases rx
  cases ry
  obtain ⟨mA0, J, _⟩ := ins_get I.hok ha
  obtain ⟨od, J, _⟩ := J.look
  obtain ⟨mB, J2, _⟩ := ins_get I.hok hc
  obtain ⟨od2, J2, _⟩ := J2.look
  show wpAny (model X.prog X.w) X.A (richCompare .NotEq (.ref a) (.ref b)) (EP X pins σ Q) X.xe s
  refine ne_own Z hr.in1.units0 I.kIn J J2.type (wpAny_mono (run_own (vs := [.ref a, .ref b]) F hb hr.in1 rfl I (.cons rfl (.cons rfl .nil)) q) (fun v s' z => ?_) fun _ _ z => z)
  obtain ⟨y, H2, I2, ry, t, e, q2⟩ := z
  subst e
  cases ry
  exact ⟨t, rfl, .bl (!t), H2, I2, rfl, q2⟩
/-! ### dicts -/
theorem rows_vals : ∀ {xs : List Rw} {ys : List (NestedKey × Addr × Value)}, Paired KR xs ys → Vals (xs.map (·.2.2)) (ys.map (·.2.2))
  | _, _, .nil => .nil
  | _, _, .cons a b => .cons a.2.2 (rows_vals b)
def rLenN (P : Program) (w : World) (K : PySem.W.Frag) : List V → Hp → VK → Prop := fun xs H Q => ∃ d rs, xs = [.ref d] ∧ KD P w K H d rs ∧ Q (.int (rs.length : Int)) H
theorem call_lenN : CallR X (.builtin "len") (rLenN X.prog X.w X.K) := by
  intro pins s σ H xs us Q I r ⟨d, rs, e, z, q⟩
  subst e
  obtain ⟨u0, rfl, rx⟩ := vals1 r
  cases rx
  obtain ⟨ys, p, m⟩ := z.dict I.hok I.kIn
  have few := z.few
  have ln := p.length
  refine call_len_dictH z.low m (Int.lt_of_le_of_lt (Int.ofNat_le.mpr (show ys.length ≤ 1000 by omega)) (by decide)) ?_
  rw [← ln]
  exact ⟨.int _, H, I.tok _, ⟨_, rfl⟩, q⟩
def tListVals (P : Program) (w : World) (K : PySem.W.Frag) (td : TE) : TE := fun σ H Q => td σ H fun x H1 => ∃ d rs, x = .ref d ∧ KD P w K H1 d rs ∧ ∀ l, H1 l = none → l ≠ sysModules → Q (.ref l) (upd H1 l (.lst (rs.map (·.2.2))))
theorem pe_listVals {o : Expr} {td : TE} {p pos apos mpos : Pos} (hc : X.calm = true) (hg : Gl X "list") (hm : X.mg "list" = none) (hd : PE X o td) (hbase : attributeBase o "values" X.env (eval o X.env) = eval o X.env := by rfl) (hline : (apos.endLine == mpos.line) = true := by rfl)
    (hst : starEach [Expr.Call (.Attribute o "values" apos) [] [] mpos] X.env = [(false, eval (Expr.Call (.Attribute o "values" apos) [] [] mpos) X.env)] := by rfl) : PE X (.Call (.Name "list" p) [.Call (.Attribute o "values" apos) [] [] mpos] [] pos) (tListVals X.prog X.w X.K td) := by
  refine ⟨fun pins s σ H Q I h => wpAny_Call_Name_kw (ld_blt I hg hm (u := .type "list") (by first | rfl | decide +kernel) ?_ (by first | decide +kernel | decide) (by first | decide +kernel | decide))⟩
  rw [hst]
  refine PySem.callWith_type1 (wpAny_Call_method0_late hbase hline (thn (hd.run pins s σ H _ I h) fun v s1 ⟨x, H1, I1, r1, d, rs, ex, z, q⟩ => ?_))
  subst ex
  obtain rfl : v = Value.ref d := r1
  obtain ⟨⟨ys, pr, ob, es, ep, ho, hx, hdt, he, hn⟩, _⟩ := (show ObjOk X.prog X.w H1 s1.heap d (kdO X.prog X.w d rs) from I1.hok d _ z.at_)
  have raw : s1.heap.DictRaw d es ep := ⟨ob, ho, hx, hdt⟩
  refine ⟨"dict", "dict.values", F.plainAttrs_dict, F.slot_dict_values, F.type_dict_values, ⟨ob, ho, hx.1⟩, fun b e => ?_, Calls.callWith_builtin rfl (PySem.evalArgs_none ?_)⟩
  · cases e
    exact ⟨ob, ho, hx.2.1⟩
  refine call_meetsIn F.slot_dict_values ⟨ob, ho, hx.1⟩ F.entry_dict_values (F.args_dict_values_1 _) (PySem.meets_dict_values_raw d z.low) ⟨⟨es, ep, raw⟩, ?_⟩
  have l1 : es.size = ys.length := size_of_entries he
  have l2 := pr.length
  have few := z.few
  have up : ∀ b u, s1.heap.get? b = some u → (s1.heap.push { cls := .type "dict_values", data := .fields #[.ref d] }).get? b = some u := fun b u e => Heap.get?_push_of_some _ e
  have sz : (s1.heap.push { cls := .type "dict_values", data := .fields #[.ref d] }).objs.size = s1.heap.objs.size + 1 := Heap.size_push _ _
  refine PySem.W.kdl_call (PySem.KdlSrc.rawValues (r := s1.heap.objs.size) (d := d) (es := es) (ep := ep)) (I1.ok.hd hc) ⟨⟨_, Heap.get?_push_size _ rfl, rfl, rfl⟩, raw.at fun o e => up _ _ e⟩ (Nat.le_trans (show es.size ≤ 1000 by omega) (by decide)) fun h' tk acc c kp e it => ?_
  have ea : acc.toList = ys.map (·.2.2) := by
    have hl : acc.toList.length = ys.length := by rw [Array.length_toList, it.1]; exact l1
    apply List.ext_getElem?
    intro j
    rw [List.getElem?_map]
    cases hj : acc.toList[j]? with
    | none =>
      have hn1 := List.getElem?_eq_none_iff.mp hj
      rw [List.getElem?_eq_none (by omega)]; rfl
    | some v =>
      obtain ⟨hi, hv⟩ := it.2 j v (by rw [← Array.getElem?_toList]; exact hj)
      have qe : es.toList[j]? = some es[j] := by simp [hi]
      rw [he, List.getElem?_map] at qe
      cases hb : ys[j]? with
      | none =>
        rw [hb] at qe
        cases qe
      | some y =>
        rw [hb] at qe
        have e2 : entryOfKey (nestedKind X.prog X.w) y = es[j] := Option.some.inj qe
        rw [hv, ← e2]
        rfl
  have rv : Vals (rs.map (·.2.2)) acc.toList := by
    rw [ea]
    exact rows_vals pr
  rw [sz] at e ⊢
  refine ⟨.ref (s1.heap.objs.size + 1), _, I1.laid (t' := tk) (a := s1.heap.objs.size + 1) (o := .lst (rs.map (·.2.2))) (fun b u q => kp b u (up b u q)) (Nat.le_succ _) ?_, rfl, q _ (I1.hok.fresh (Nat.le_succ _)) (Nat.ne_of_gt (Nat.lt_succ_of_lt I1.big))⟩
  exact ⟨Nat.le_trans (show (rs.map (·.2.2)).length ≤ 1000 by rw [List.length_map]; exact few) (by decide), acc.toList, c, rv, by rw [Array.toArray_toList]; exact e⟩
end
end Ld
/-! sorted(xs, key=f), f a def of one's own. -/
namespace Ld
open PySem L2 PyProof.Rows
section
variable {fs : List Addr} {H H1 : Hp} {h h1 h2 : Heap} {it : Addr} {P : Program} {w : World}
/-- what is new and not tracked may change -/
theorem un_but (u : Un fs [] H H1 h h1) (new : h.get? it = none) (k : ∀ b o, b ≠ it → h1.get? b = some o → h2.get? b = some o) : Un fs [] H H1 h h2 := by
  have ne : ∀ {b : Addr} {o : Obj}, h.get? b = some o → b ≠ it := fun e z => by
    rw [z, new] at e
    cases e
  refine ⟨fun b o e n hb hx => k b o (ne e) (u.keep b o e n hb hx), fun b o e n hb hx => ?_, u.free, fun b o e hx => ?_, u.tups, u.frzs, u.tbls⟩
  · obtain ⟨sl, q⟩ := u.slot b o e n hb hx
    exact ⟨sl, k b _ (ne e) q⟩
  · obtain ⟨o', q⟩ := u.there b o e hx
    exact ⟨o', k b _ (ne e) q⟩
theorem hok_but (ok : HOk P w H h) (n : H it = none) (k : ∀ b o, b ≠ it → h.get? b = some o → h1.get? b = some o) : HOk P w H h1 := fun a o e =>
  (ok a o e).stay (fun b u hb q => k b u (fun z => by
    rcases hb with hb | hb
    · rw [← hb, z, n] at e
      cases e
    · rw [z, n] at hb
      cases hb) q) (fun _ e => e) (fun _ _ e => e)
theorem un_but2 {jt : Addr} (u : Un fs [] H H1 h h1) (n1 : h.get? it = none) (n2 : h.get? jt = none) (k : ∀ b o, b ≠ it → b ≠ jt → h1.get? b = some o → h2.get? b = some o) : Un fs [] H H1 h h2 := by
  have e1 : ∀ {b : Addr} {o : Obj}, h.get? b = some o → b ≠ it := fun e z => by
    rw [z, n1] at e
    cases e
  have e2 : ∀ {b : Addr} {o : Obj}, h.get? b = some o → b ≠ jt := fun e z => by
    rw [z, n2] at e
    cases e
  refine ⟨fun b o e n hb hx => k b o (e1 e) (e2 e) (u.keep b o e n hb hx), fun b o e n hb hx => ?_, u.free, fun b o e hx => ?_, u.tups, u.frzs, u.tbls⟩
  · obtain ⟨sl, q⟩ := u.slot b o e n hb hx
    exact ⟨sl, k b _ (e1 e) (e2 e) q⟩
  · obtain ⟨o', q⟩ := u.there b o e hx
    exact ⟨o', k b _ (e1 e) (e2 e) q⟩
theorem hok_but2 {jt : Addr} (ok : HOk P w H h) (n : H it = none) (m : H jt = none) (k : ∀ b o, b ≠ it → b ≠ jt → h.get? b = some o → h1.get? b = some o) : HOk P w H h1 := fun a o e => by
  have ne : ∀ {c x : Addr} {u : Obj}, H x = none → (c = a ∨ H c = some (.own a)) → c ≠ x := fun hx hb z => by
    rcases hb with hb | hb
    · rw [← hb, z, hx] at e
      cases e
    · rw [z, hx] at hb
      cases hb
  exact (ok a o e).stay (fun b u hb q => k b u (ne (u := u) n hb) (ne (u := u) m hb) q) (fun _ e => e) (fun _ _ e => e)
/-- .. and be tracked -/
theorem un_put {o : HO} (u : Un fs [] H H1 h h1) (new : h.get? it = none) (n : H1 it = none) : Un fs [] H (upd H1 it o) h h1 := by
  have ne : ∀ {b : Addr} {o : HO}, H1 b = some o → b ≠ it := fun e z => by
    rw [z, n] at e
    cases e
  refine ⟨u.keep, u.slot, fun b o e m hx => ?_, u.there, fun b xs e => ?_, fun b o v e => ?_, fun b ps e => ?_⟩
  · rw [upd_ne (fun z => by rw [z, new] at e; cases e)]
    exact u.free b o e m hx
  · have q := u.tups b xs e
    rw [upd_ne (ne q)]
    exact q
  · have q := u.frzs b o v e
    rw [upd_ne (ne q)]
    exact q
  · obtain ⟨m, q⟩ := u.tbls b ps e
    exact ⟨m, by rw [upd_ne (ne q)]; exact q⟩
theorem hok_put {ys : List V} (ok : HOk P w H h) (n : H it = none) (new : ObjOk P w (upd H it (.lst ys)) h it (.lst ys)) : HOk P w (upd H it (.lst ys)) h := fun b u e => by
  by_cases z : b = it
  · subst z
    rw [upd_same] at e
    cases e
    exact new
  · rw [upd_ne z] at e
    have ne : ∀ {c : Addr} {o : HO}, H c = some o → c ≠ it := fun e z => by
      rw [z, n] at e
      cases e
    exact (ok b u e).stay (fun _ _ _ q => q) (fun c q => by rw [upd_ne (ne q)]; exact q) (fun c xs q => by rw [upd_ne (ne q)]; exact q)
end
/-! data without lists and dicts -/
mutual
def bareB : PyData → Bool
  | .list _ => false
  | .dict _ => false
  | .tuple ds => bareAll ds
  | _ => true
def bareAll : List PyData → Bool
  | [] => true
  | d :: ds => bareB d && bareAll ds
end
section
variable {P : Program} {w : World} {K : PySem.W.Frag} {H : Hp} {h : Heap}
mutual
theorem dp_bare (ok : HOk P w H h) (kin : K.In h) : ∀ (d : PyData) (v : V) (u : Value), bareB d = true → Dp K H v d → RelV v u → Reads h u d []
  | .none, _, _, _, z, r => by cases z; cases r; exact .none
  | .bool b, _, _, _, z, r => by cases z; cases r; exact .bool b
  | .int i, _, _, _, z, r => by cases z; obtain ⟨t, rfl⟩ := r; exact .int i t
  | .str x, _, _, _, z, r => by cases z; obtain ⟨t, rfl⟩ := r; exact .str x t
  | .list ds, _, _, e, _, _ => by cases e
  | .dict ds, _, _, e, _, _ => by cases e
  | .tuple ds, _, _, e, z, r => by
    cases z with
    | tup hs ha =>
      cases r
      rcases hs with hs | ⟨o, its, n, hk, hc, hs, hz, rv⟩
      · obtain ⟨z, its, rv, o, e', c, n, dt⟩ := hs.ok ok
        exact .tuple e' c dt (dpAll_bare ok kin ds _ _ e ha rv)
      · exact .tuple (kin _ o hk) hc hs (dpAll_bare ok kin ds _ _ e ha rv)
theorem dpAll_bare (ok : HOk P w H h) (kin : K.In h) : ∀ (ds : List PyData) (vs : List V) (us : List Value), bareAll ds = true → DpAll K H vs ds → Vals vs us → ReadsAll h us ds []
  | [], _, _, _, z, r => by cases z; cases r; exact .nil
  | d :: ds, _, _, e, z, r => by
    have e2 := Bool.and_eq_true_iff.mp (show (bareB d && bareAll ds) = true from e)
    cases z with
    | cons a b =>
      cases r with
      | cons r1 r2 => exact .cons (as := []) (bs := []) (dp_bare ok kin d _ _ e2.1 a r1) (dpAll_bare ok kin ds _ _ e2.2 b r2)
end
end
/-! ### the sort goes on -/
/-- since s only new objects are tracked -/
structure Since (X : Cx) (H : Hp) (s : Shared) (H1 : Hp) (s1 : Shared) : Prop where
  os : s1.os = s.os
  bare : AllBare s1.gens
  un : Un (frs X.stack) [] H H1 s.heap s1.heap
  hok : HOk X.prog X.w H1 s1.heap
  same : Same H H1
theorem Since.inv {X : Cx} {pins : List (Addr × Obj)} {σ : L2.St} {H H1 : Hp} {s s1 : Shared} (J : Since X H s H1 s1) (I : Inv X pins σ H s) : Inv X pins σ H1 s1 := by
  obtain ⟨hp, g, d, t, os⟩ := s1
  obtain rfl : os = s.os := J.os
  exact I.call (h' := hp) (g' := g) (d' := d) (t' := t) (ch := []) J.un J.hok J.bare (fun b z => absurd z (by simp))
section
variable {X : Cx} {pins : List (Addr × Obj)} {σ : L2.St} {H H1 : Hp} {s s1 : Shared} {A : Around} {j : Nat} {f : Addr} {fd : FuncData} {p : Str} {sp : Sp}
theorem Since.call (J : Since X H s H1 s1) (I : Inv X pins σ H s) (F : FnOk X.prog X.w X.K X.mg X.base CX0 j f fd [p] sp) (hr : Room j A) (fr : A.frames = X.A.frames) (hb : Binds X.K fd [p] []) {x : V} {u : Value} {k : PyData} (rx : RelV x u)
    (hsp : sp [x] H1 (fun v H2 => Same H1 H2 ∧ Dp X.K H2 v k) E0) :
    wpAny (model X.prog X.w) A (call (.ref f) [u]) (fun v s2 => ∃ (H2 : Hp) (y : V), Since X H s H2 s2 ∧ Same H1 H2 ∧ (∀ b o, s1.heap.get? b = some o → H1 b = none → b ∉ frs X.stack → s2.heap.get? b = some o ∧ H2 b = none) ∧ RelV y v ∧ Dp X.K H2 y k) (fun _ _ => False) s1 := by
  have I1 := J.inv I
  have e1 := I1.env0
  have e0 : Env0 X.prog X.w X.K X.mg X.base A X.stack s1 H1 := ⟨fr.trans e1.frames, e1.mod, e1.bs, e1.bsz, e1.funs, e1.frf, e1.hok, e1.bare⟩
  have b := hb s1 [u] I1.kIn rfl
  refine wpAny_call (codeAny_mono (F.run A X.stack s1 H1 ⟨[u], []⟩ [u] [x] _ E0 hr e0 b (.cons rx .nil) hsp) fun z s2 hz => ?_)
  match z, hz with
  | .ok (.ret v), hz =>
    obtain ⟨y, H2, os, bare, un, hok, r, s12, dp⟩ := hz
    exact ⟨H2, y, ⟨os.trans J.os, bare, J.un.trans un, hok, J.same.trans s12⟩, s12, fun b o e n nf => ⟨un.keep b o e n nf (by simp), un.free b o e n (by simp)⟩, r, dp⟩
  | .ok .next, hz => exact False.elim hz
  | .ok .brk, hz => exact False.elim hz
  | .ok .cont, hz => exact False.elim hz
  | .error er, hz => exact False.elim hz
end
end Ld
/-! sorted(xs, key=f), f a def of one's own: the call. -/
namespace Ld
open PySem L2 PyProof.Rows PySem.W
/-- a key that is known: data that stands -/
def Kd (K : PySem.W.Frag) (H : Hp) (u : Value) (d : PyData) : Prop := ∃ y : V, RelV y u ∧ Dp K H y d
section
variable {X : Cx} {pins : List (Addr × Obj)} {σ : L2.St} {H : Hp} {s : Shared} {A : Around} {E : Value → Shared → Prop} {P : PySem.Fin → Shared → Prop} {f : Addr} {a kS : Addr} {vs : List Value} {kz : List PyData} {e1 : Nat}
/-- what a call of the key must do -/
def KeyTurn (X : Cx) (H : Hp) (s : Shared) (A : Around) (f : Addr) (v : Value) (k : PyData) : Prop := ∀ (H1 : Hp) (s1 : Shared), Since X H s H1 s1 →
  wpAny (model X.prog X.w) A (call (.ref f) [v]) (fun u s2 => ∃ (H2 : Hp) (y : V), Since X H s H2 s2 ∧ Same H1 H2 ∧ (∀ b o, s1.heap.get? b = some o → H1 b = none → b ∉ frs X.stack → s2.heap.get? b = some o ∧ H2 b = none) ∧ RelV y u ∧ Dp X.K H2 y k) (fun _ _ => False) s1
theorem key_rest {s0 : Shared} {H0 : Hp} (I : Inv X pins σ H s) (J0 : Since X H s H0 s0) (nS : s.heap.get? kS = none) (nA : s.heap.get? a = none) (fS : kS ∉ frs X.stack) (fA : a ∉ frs X.stack) (hS0 : H0 kS = none) (hA0 : H0 a = none)
    (oS : s0.heap.get? kS = some (seqObj "list" #[] 0)) (oA : s0.heap.get? a = some (seqObj "list" #[] e1)) (ne : kS ≠ a) (hlen : kz.length = vs.length) (hZ : vs.length ≤ sizeLine) (hal : AllAlike kz) (hsk : Sortable kz) (hbare : ∀ d ∈ kz, bareB d = true)
    (hu : ∀ d, d ∈ kz → A.units + d.depth < cLine) (turn : ∀ (i : Nat) (v : Value) (k : PyData), vs[i]? = some v → kz[i]? = some k → KeyTurn X H s A f v k)
    (fin : ∀ (H3 : Hp) (s3 : Shared) (out : List Value) (c : Nat), Since X H s H3 s3 → H3 a = none → s3.heap.get? a = some (seqObj "list" out.toArray c) → KeyedOut false kz vs out → P (.done (.ret .none)) s3) :
    wpAny (model X.prog X.w) A (ksk_rest a (.ref f) false vs.toArray e1 (.ref kS)) P E s0 := by
  unfold ksk_rest
  refine wpAny_bind (wpAny_rule ?keys); rw [List.forIn_toArray]
  refine wpAny_bind (ksk_fold (fun i s1 => ∃ (H1 : Hp) (kA : Array Value) (ep : Nat), Since X H s H1 s1 ∧ H1 kS = none ∧ H1 a = none ∧ s1.heap.get? kS = some (seqObj "list" kA ep) ∧ s1.heap.get? a = some (seqObj "list" #[] e1) ∧ EachIs (Kd X.K H1) kA.toList (kz.take i)) vs 0 s0
    ⟨H0, #[], 0, J0, hS0, hA0, oS, oA, by rw [List.take_zero]; exact .nil⟩ ?turnS ?endS)
  case turnS =>
    rintro i v s1 hx ⟨H1, kA, ep, J1, hS1, hA1, oS1, oA1, hk⟩
    simp only [Nat.zero_add] at hk ⊢; have hi : i < vs.length := (List.getElem?_eq_some_iff.mp hx).1
    obtain ⟨k, hki⟩ : ∃ k, kz[i]? = some k := ⟨_, List.getElem?_eq_getElem (by omega)⟩
    have hz : kA.size ≤ vs.length := by have n1 := hk.length; rw [Array.length_toList, List.length_take] at n1; omega
    refine wpAny_bind (wpAny_attempt (wpAny_mono (turn i v k hx hki H1 s1 J1) (fun u s2 hs2 => ?_) fun _ _ z => z.elim))
    obtain ⟨H2, y, J2, s12, same, ry, dy⟩ := hs2
    obtain ⟨oS2, hS2⟩ := same _ _ oS1 hS1 fS
    obtain ⟨oA2, hA2⟩ := same _ _ oA1 hA1 fA
    have up := Heap.SameBut.update s2.heap kS (Obj.mapSeq (·.push u))
    obtain ⟨c2, oS3⟩ : ∃ c2, (s2.heap.update kS (Obj.mapSeq (·.push u))).get? kS = some (seqObj "list" (kA.push u) c2) := ⟨_, get?_update_seq oS2 (·.push u)⟩
    refine wpAny_bind (listUpdate_at oS2 rfl ?_ (Nat.le_trans hz hZ) (Nat.le_trans (Nat.le_of_eq (Array.size_push ..)) (Nat.succ_le_succ (Nat.le_trans hz hZ))))
    have keep : ∀ b o, b ≠ kS → s2.heap.get? b = some o → (s2.heap.update kS (Obj.mapSeq (·.push u))).get? b = some o := fun b o hb q => (up.2 b hb).trans q
    refine wpAny_pure ⟨rfl, H2, kA.push u, c2, ⟨J2.os, J2.bare, un_but J2.un nS keep, hok_but J2.hok hS2 keep, J2.same⟩, hS2, hA2, oS3, keep _ _ ne.symm oA2, ?_⟩
    rw [show (kA.push u).toList = kA.toList ++ [u] by simp, show kz.take (i + 1) = kz.take i ++ [k] by rw [List.take_add_one, hki]; simp]
    exact each_snoc ⟨y, ry, dy⟩ (hk.mono fun _ _ ⟨z, rz, dz⟩ => ⟨z, rz, dp_same s12 dz⟩)
  case endS =>
    rintro s1 ⟨H1, kA, ep, J1, hS1, hA1, oS1, oA1, hk⟩
    rw [show kz.take (0 + vs.length) = kz from List.take_of_length_le (by omega)] at hk
    have hsz : kA.size = vs.length := by have n1 := hk.length; rw [Array.length_toList] at n1; omega
    have I1 := J1.inv I
    have hr : EachIs (fun u d => ∃ as, Reads s1.heap u d as) kA.toList kz := by
      refine EachIs.of_zip hk.length fun q hq => ?_
      obtain ⟨y, ry, dy⟩ := hk.zip q hq
      exact ⟨[], dp_bare I1.hok I1.kIn _ _ _ (hbare _ (List.of_mem_zip hq).2) dy ry⟩
    refine wpAny_bind (listItems_at oS1 rfl ?_)
    obtain ⟨G, g1, g2⟩ := restrict s1.heap fun b => decide (b ≠ kS)
    have gk : ∀ b o, b ≠ kS → s1.heap.get? b = some o → G.get? b = some o := fun b o hb q => (g1 b (decide_eq_true hb)).trans q
    have gn : G.get? kS = none := g2 kS (by simp)
    have kp : KeepsBut a G s1.heap := fun b o _ q => by
      by_cases hb : b = kS
      · rw [hb, gn] at q
        cases q
      · exact (g1 b (decide_eq_true hb)).symm.trans q
    refine keyH_end (κ := dataKind s1.heap kz) (h₁ := G) kp gn oS1 oA1 ne (SortsAt.data hr hal hsk hu) hsz hZ fun h3 tk3 c k3 n3 => ?_
    have keep : ∀ b o, b ≠ a → b ≠ kS → s1.heap.get? b = some o → h3.get? b = some o := fun b o ha hb q => k3 b o ha (gk b o hb q)
    exact fin H1 { s1 with heap := h3, toks := tk3 } _ c ⟨J1.os, J1.bare, un_but2 J1.un nA nS keep, hok_but2 J1.hok hA1 hS1 keep, J1.same⟩ hA1 n3 ⟨s1.heap, kA.toList, hal, rfl, hr⟩
/-- xs.sort(key=f), from the list's items on -/
theorem key_tree {s0 : Shared} {H0 : Hp} {n : Nat} (I : Inv X pins σ H s) (J0 : Since X H s H0 s0) (nA : s.heap.get? a = none) (fA : ∀ b, s.heap.objs.size ≤ b → b ∉ frs X.stack) (hA0 : H0 a = none) (sA : s.heap.objs.size ≤ a)
    (oA : s0.heap.get? a = some (seqObj "list" vs.toArray n)) (big : s.heap.objs.size ≤ s0.heap.objs.size) (hlen : kz.length = vs.length) (hZ : vs.length ≤ sizeLine) (hal : AllAlike kz) (hsk : Sortable kz) (hbare : ∀ d ∈ kz, bareB d = true)
    (hu : ∀ d, d ∈ kz → A.units + d.depth < cLine) (turn : ∀ (i : Nat) (v : Value) (k : PyData), vs[i]? = some v → kz[i]? = some k → KeyTurn X H s A f v k)
    (fin : ∀ (H3 : Hp) (s3 : Shared) (out : List Value) (c : Nat), Since X H s H3 s3 → H3 a = none → s3.heap.get? a = some (seqObj "list" out.toArray c) → KeyedOut false kz vs out → P (.done (.ret .none)) s3) :
    wpAny (model X.prog X.w) A (ksk_tree a (.ref f) false) P E s0 := by
  have ltA : a < s0.heap.objs.size := Heap.lt_size oA
  obtain ⟨e1, oA1⟩ : ∃ e1, (s0.heap.update a (Obj.mapSeq fun _ => (#[] : Array Value))).get? a = some (seqObj "list" #[] e1) := ⟨_, get?_update_seq oA fun _ => #[]⟩
  have szS : ((s0.heap.update a (Obj.mapSeq fun _ => (#[] : Array Value))).push (seqObj "tuple" vs.toArray 0)).objs.size = s0.heap.objs.size + 1 := by rw [size_push', Heap.size_update]
  have neS : ((s0.heap.update a (Obj.mapSeq fun _ => (#[] : Array Value))).push (seqObj "tuple" vs.toArray 0)).objs.size ≠ a := fun z => absurd (szS.symm.trans z) (Nat.ne_of_gt (Nat.lt_succ_of_lt ltA))
  have up := Heap.SameBut.update s0.heap a (Obj.mapSeq fun _ => (#[] : Array Value))
  unfold ksk_tree
  refine wpAny_bind (listItems_at oA rfl ?_)
  refine wpAny_bind (listUpdate_at oA rfl ?_ (by rw [List.size_toArray]; exact hZ) (Nat.zero_le _))
  refine wpAny_bind (seqEpoch_at oA1 rfl ?_)
  refine wpAny_bind (wpAny_newTuple (wpAny_bind (wpAny_newList (wpAny_holding ?held) (Nat.zero_le _))) (show vs.length ≤ _ from hZ))
  have keep : ∀ b o, b ≠ a → s0.heap.get? b = some o → (((s0.heap.update a (Obj.mapSeq fun _ => (#[] : Array Value))).push (seqObj "tuple" vs.toArray 0)).push (seqObj "list" #[] 0)).get? b = some o := fun b o hb q =>
    Heap.get?_push_of_some _ (Heap.get?_push_of_some _ ((up.2 b hb).trans q))
  have none0 : ∀ b, s0.heap.objs.size ≤ b → H0 b = none := fun b hb => J0.hok.fresh hb
  refine key_rest (kz := kz) (s0 := { s0 with heap := ((s0.heap.update a (Obj.mapSeq fun _ => (#[] : Array Value))).push (seqObj "tuple" vs.toArray 0)).push (seqObj "list" #[] 0) }) (H0 := H0) (kS := ((s0.heap.update a (Obj.mapSeq fun _ => (#[] : Array Value))).push (seqObj "tuple" vs.toArray 0)).objs.size)
    I ⟨J0.os, J0.bare, un_but J0.un nA keep, hok_but J0.hok hA0 keep, J0.same⟩ (Heap.get?_none_of_le (by rw [szS]; omega)) nA (fA _ (by rw [szS]; omega)) (fA a sA) (none0 _ (by rw [szS]; omega)) hA0
    (Heap.get?_push_size _ rfl) (Heap.get?_push_of_some _ (Heap.get?_push_of_some _ oA1)) neS hlen hZ hal hsk hbare hu turn fin
theorem vals_each : ∀ {zs : List (V × PyData)} {js : List Value}, Vals (zs.map Prod.fst) js → EachIs (fun (u : Value) (z : V × PyData) => RelV z.1 u) js zs
  | [], _, r => by cases r; exact .nil
  | z :: zs, _, r => by
    cases r with
    | cons a b => exact .cons a (vals_each b)
theorem each_vals : ∀ {zs : List (V × PyData)} {js : List Value}, EachIs (fun (u : Value) (z : V × PyData) => RelV z.1 u) js zs → Vals (zs.map Prod.fst) js
  | [], _, r => by cases r; exact .nil
  | z :: zs, _, r => by
    cases r with
    | cons a b => exact .cons a (each_vals b)
/-- sorted(xs, key=f): zs, the items with their keys -/
def rSortK (K : PySem.W.Frag) (f : Addr) (sp : Sp) : List V → List V → Hp → VK → Prop := fun vs ws H Q => ∃ (l : Addr) (zs : List (V × PyData)), vs = [.ref l] ∧ ws = [.ref f] ∧ SqL K H l (zs.map Prod.fst) ∧ zs.length ≤ 1000 ∧ AllAlike (zs.map Prod.snd) ∧ Sortable (zs.map Prod.snd) ∧
  (∀ z ∈ zs, bareB z.2 = true ∧ z.2.depth ≤ 8 ∧ ∀ H1, Same H H1 → sp [z.1] H1 (fun v H2 => Same H1 H2 ∧ Dp K H2 v z.2) E0) ∧
  ∀ H1 q, Same H H1 → H1 q = none → q ≠ sysModules → Q (.ref q) (upd H1 q (.lst ((zs.mergeSort (dataLe false Prod.snd)).map Prod.fst)))
theorem cr_sortK {j : Nat} {fd : FuncData} {p : Str} {sp : Sp} (F : FnOk X.prog X.w X.K X.mg X.base CX0 j f fd [p] sp) (hr : Room (j + 2) X.A) (hb : Binds X.K fd [p] []) : CallRK X (.builtin "sorted") [Str.ofString "key"] (rSortK X.K f sp) := by
  intro pins0 s0 σ0 H0 xs0 ws0 us0 vs0 Q0 I0 r0 r1 ⟨l, zs, e0, e1, hl, hn, hal, hsk, hz, q0⟩
  subst e0 e1
  obtain ⟨u0, rfl, rx0⟩ := vals1 r0
  obtain ⟨w0, rfl, rw0⟩ := vals1 r1
  cases rx0
  cases rw0
  obtain ⟨js, rj, tj, zj⟩ := I0.list hl
  have lj : js.length = zs.length := by rw [← rj.length, List.length_map]
  have line : zs.length ≤ sizeLine := Nat.le_trans hn (by decide)
  have rel : EachIs (fun (u : Value) (z : V × PyData) => RelV z.1 u) js zs := vals_each rj
  refine sorted_of_sort tj.isList (by rw [lj]; exact line) (ksk_s1 _ _) (fun _ => ksk_l1 _ _) fun E' => ?_
  show wpAny _ _ (Builtin.«list.sort» ⟨[.ref (s0.heap.objs.size + 1)], [(Str.ofString "key", .ref f)]⟩) _ _ _
  rw [ksk_t1]
  have bigger : s0.heap.objs.size ≤ (copyHeap s0.heap js).objs.size := Nat.le_of_lt (Nat.lt_of_succ_lt (Heap.lt_size (copyHeap_at s0.heap js)))
  have keep0 : ∀ b o, s0.heap.get? b = some o → (copyHeap s0.heap js).get? b = some o := fun b o q => copyHeap_old q
  have frN : ∀ b, s0.heap.objs.size ≤ b → b ∉ frs X.stack := fun b hb hm => by
    obtain ⟨_, o', e', _⟩ := I0.env0.funs.mem hm
    exact absurd (Heap.lt_size e') (Nat.not_lt.mpr hb)
  refine key_tree (X := X) (pins := pins0) (σ := σ0) (H := H0) (s := s0) (kz := zs.map Prod.snd) (H0 := H0) I0 ⟨rfl, I0.bare, Un.kept keep0, I0.hok.kept keep0, Same.refl H0⟩ (Heap.get?_none_of_le (Nat.le_succ _)) frN (I0.hok.fresh (Nat.le_succ _)) (Nat.le_succ _)
    (copyHeap_at s0.heap js) bigger (by rw [List.length_map, lj]) (by rw [lj]; exact line) hal hsk (fun d hd => ?_) (fun d hd => ?_) (fun i v k hv hk => ?_) fun H3 s3 out c J3 n3 o3 ko => ⟨rfl, ?_⟩
  · obtain ⟨z, hz1, rfl⟩ := List.mem_map.mp hd
    exact (hz z hz1).1
  · obtain ⟨z, hz1, rfl⟩ := List.mem_map.mp hd
    have := (hz z hz1).2.1
    have := hr.un
    show X.A.units + 1 + 1 + z.2.depth < cLine
    omega
  · rw [List.getElem?_map] at hk; obtain ⟨z, hz1, rfl⟩ := Option.map_eq_some_iff.mp hk
    have rz := rel.zip (v, z) (List.mem_of_getElem? (i := i) (by rw [List.getElem?_zip_eq_some]; exact ⟨hv, hz1⟩))
    exact fun H1 s1 J1 => J1.call I0 F hr.in1.in1 rfl hb rz ((hz z (List.mem_of_getElem? hz1)).2.2 H1 J1.same)
  · have ko' := keyedOut_each (R := fun (u : Value) (z : V × PyData) => RelV z.1 u) Prod.snd ko rel
    have ln : ((zs.mergeSort (dataLe false Prod.snd)).map Prod.fst).length ≤ sizeLine := by
      rw [List.length_map, List.length_mergeSort]
      exact line
    have J4 : Since X H0 s0 (upd H3 (s0.heap.objs.size + 1) (.lst ((zs.mergeSort (dataLe false Prod.snd)).map Prod.fst))) s3 :=
      ⟨J3.os, J3.bare, un_put J3.un (Heap.get?_none_of_le (Nat.le_succ _)) n3, hok_put J3.hok n3 ⟨ln, out, c, each_vals ko', o3⟩, J3.same.trans (Same.new n3)⟩
    exact ⟨.ref (s0.heap.objs.size + 1), _, J4.inv I0, rfl, q0 H3 _ J3.same n3 (Nat.ne_of_gt (Nat.lt_succ_of_lt I0.big))⟩
end
end Ld
/-! not in, {k: v} of dicts whose keys hold tuples. -/
namespace Ld
open PySem L2 PyProof.Rows
section
variable {X : Cx}
/-- key not in d -/
def rNotInN (P : Program) (w : World) (K : PySem.W.Frag) : R2 := fun x y H Q => ∃ (b d : Addr) (k : NestedKey) (xs : List Rw), x = .ref b ∧ y = .ref d ∧ NIs K H k (.ref b) ∧ k.depth ≤ 8 ∧ KD P w K H d xs ∧ Q (.bl (!(kGet xs k).isSome)) H
theorem op_notInN (hu : X.A.units + 16 < cLine) : OpR X (compareOp .NotIn) (rNotInN X.prog X.w X.K) := by
  intro pins0 s0 σ0 H0 x0 y0 v0 u0 Q0 I0 rx0 ry0 ⟨b, d, k, xs, e1, e2, hk, hd, z, q0⟩
  subst e1 e2
  cases rx0
  cases ry0
  obtain ⟨ys, p, m⟩ := z.dict I0.hok I0.kIn
  refine wpAny_notIn_heap (kroom hu) ⟨nis_is I0.hok I0.kIn hk rfl, hd⟩ z.low m ?_
  rw [(rows_get k p).1]
  exact ⟨.bl _, H0, I0.tok _, rfl, q0⟩
/-- {key: value} -/
def tDisp1N (P : Program) (w : World) (K : PySem.W.Frag) (trs : List (TE × TE)) : TE := fun σ H Q => ∀ p, H p = none → (p == sysModules) = false → tPairs trs σ (upd H p (kdO P w p [])) fun ps H2 => ∃ (kb : Addr) (k : NestedKey) (v : V), ps = [(.ref kb, v)] ∧ NIs K H2 k (.ref kb) ∧ k.depth ≤ 8 ∧
  H2 p = some (kdO P w p []) ∧ Q (.ref p) (upd H2 p (kdO P w p (kPut [] k kb v)))
theorem pe_disp1N {pos : Pos} {ke : Option Expr} {ve : Expr} {trs : List (TE × TE)} (hu : X.A.units + 16 < cLine) (h : PPs X pos [ke] [ve] trs) (hall : [ke].all (·.isSome) = true) : PE X (.Dict [ke] [ve] pos) (tDisp1N X.prog X.w X.K trs) := by
  refine ⟨fun pins0 s0 σ0 H0 Q0 I0 q0 => ?_⟩
  have low : (s0.heap.objs.size == sysModules) = false := beq_eq_false_iff_ne.mpr (Nat.ne_of_gt I0.big)
  have I1 := I0.laid (a := s0.heap.objs.size) (o := kdO X.prog X.w s0.heap.objs.size []) (t' := s0.toks) (h' := s0.heap.push { cls := .type "dict", data := .dict #[] }) (fun b0 o0 q => Heap.get?_push_of_some _ q) (Nat.le_refl _) (kdO_ok .nil (Heap.DictOfH.new s0.heap))
  refine wpAny_Dict_any hall rfl (by simp) (show 1 ≤ 15 by decide) (thn (h.run pins0 _ σ0 _ _ I1 (q0 _ I0.fresh low)) fun ws s2 ⟨ps, H2, I2, rel, kb, k, v, e, hk, hd, at2, q2⟩ => ?_)
  subst e
  cases rel with
  | @cons a b as bs r t =>
    cases t
    obtain ⟨b1, b2⟩ := b
    obtain ⟨r1, r2⟩ := r
    cases r1
    show wpAny _ _ (forIn [(Value.ref kb, b2)] PUnit.unit fun p r => do dictSet s0.heap.objs.size p.1 p.2; pure (ForInStep.yield PUnit.unit)) _ _ s2
    rw [List.forIn_cons]
    refine wpAny_bind (wpAny_bind (dset_kd hu I2 hk hd ⟨at2, low, Nat.zero_le _, fun x hx => nomatch hx⟩ r2 fun s3 I3 => wpAny_pure ?_))
    exact wpAny_pure ⟨.ref s0.heap.objs.size, _, I3, rfl, q2⟩
/-! ### such a dict walked, locked meanwhile -/
structure KDL (P : Program) (w : World) (K : PySem.W.Frag) (H : Hp) (o : Obj) (d : Addr) (xs : List Rw) : Prop where
  at_ : H d = some (.frz o (kdO P w d xs))
  low : (d == sysModules) = false -- apart from the modules
  few : xs.length ≤ 1000
  key : ∀ x ∈ xs, NIs K H x.1 (.ref x.2.1) ∧ x.1.depth ≤ 8
theorem KDL.dict {P : Program} {w : World} {K : PySem.W.Frag} {H : Hp} {h : Heap} {o : Obj} {d : Addr} {xs : List Rw} (z : KDL P w K H o d xs) (ok : HOk P w H h) (kin : K.In h) : ∃ ys, Paired KR xs ys ∧ h.DictOfH (nestedKind P w) d ys := by
  have q : ObjOk P w H h d (.frz o (kdO P w d xs)) := ok d _ z.at_
  obtain ⟨_, ⟨ys, p, o', es, ep, ho, hc, hd, he, hn⟩, _⟩ := q
  refine ⟨ys, p, o', es, ep, ho, hc, hd, he, fun y hy => ?_, hn⟩
  have key : ∀ {l : List Rw} {m : List (NestedKey × Addr × Value)}, Paired KR l m → ∀ y ∈ m, ∃ x ∈ l, KR x y := by
    intro l m q
    induction q with
    | nil => exact fun y hy => nomatch hy
    | cons a b ih =>
      intro y hy; rcases List.mem_cons.mp hy with e | e
      · rw [e]
        exact ⟨_, List.mem_cons_self, a⟩
      · obtain ⟨x, h1, h2⟩ := ih y e
        exact ⟨x, List.mem_cons_of_mem _ h1, h2⟩
  obtain ⟨x, hx, e1, e2, e3⟩ := key p y hy
  rw [← e1, ← e2]
  exact ⟨nis_is ok kin (z.key x hx).1 rfl, (z.key x hx).2⟩
/-- d[key], d locked -/
theorem ix_kdL (hu : X.A.units + 16 < cLine) : IxR X (fun x y H Q => ∃ (b d : Addr) (o : Obj) (k : NestedKey) (xs : List Rw) (v : V), x = .ref d ∧ y = .ref b ∧ NIs X.K H k (.ref b) ∧ k.depth ≤ 8 ∧ KDL X.prog X.w X.K H o d xs ∧ kGet xs k = some v ∧ Q v H) := by
  intro value slice pins0 s0 σ0 H0 x0 y0 v0 u0 Q0 I0 rx0 ry0 ⟨b, d, o, k, xs, v, e1, e2, hk, hd, z, hv, q0⟩ hs0
  subst e1 e2
  cases rx0
  cases ry0
  obtain ⟨ys, p, m⟩ := z.dict I0.hok I0.kIn
  obtain ⟨pp, hp, rp⟩ := (rows_get k p).2 v hv
  exact tail_any m.typeIs slot_dict_getitem.lookup (wpAny_getItem_heap (kroom hu) ⟨nis_is I0.hok I0.kIn hk rfl, hd⟩ m hp ⟨v, H0, I0.tok _, rp, q0⟩) hs0
theorem frzN {pins : List (Addr × Obj)} {σ : L2.St} {H : Hp} {s : Shared} {d : Addr} {o : Obj} {xs : List Rw} (I : Inv X pins σ H s) (h : H d = some (.frz o (kdO X.prog X.w d xs))) :
    s.heap.get? d = some o ∧ o.ExactDict ∧ ∃ (es : Array DictEntry) (ep : Nat), o.data = .dict es ep ∧ es.size = xs.length ∧ ∀ (i : Nat) (x : Rw), xs[i]? = some x → ∃ en : DictEntry, es[i]? = some en ∧ en.key = .ref x.2.1 := by
  have z : ObjOk X.prog X.w H s.heap d (.frz o (kdO X.prog X.w d xs)) := I.hok d _ h
  obtain ⟨hd, ⟨ys, p, o', es, ep, ho, hx, hdt, he, _⟩, _⟩ := z
  rw [hd] at ho
  cases ho
  have l1 : es.size = ys.length := size_of_entries he
  refine ⟨hd, hx, es, ep, hdt, l1.trans p.length.symm, fun i x e => ?_⟩
  obtain ⟨y, hy, e1, e2, _⟩ := L2.paired_get p e
  refine ⟨entryOfKey (nestedKind X.prog X.w) y, ?_, ?_⟩
  · rw [← Array.getElem?_toList, he, List.getElem?_map, hy]
    rfl
  · rw [e2]
    rfl
def ItN (P : Program) (w : World) (d : Addr) (o : Obj) (xs : List Rw) : It :=
  ⟨fun i H => H d = some (.frz o (kdO P w d xs)) ∧ i < xs.length, fun i H x H' => H' = H ∧ ∃ r, xs[i]? = some r ∧ x = .ref r.2.1, fun i H => H d = some (.frz o (kdO P w d xs)) ∧ xs.length ≤ i⟩
end
section
variable {tg : Expr} {P : Program} {w : World} {K : PySem.W.Frag} {d : Addr} {o : Obj} {es : Array DictEntry} {ep : Nat}
theorem turn_keysN {xs : List Rw} (it : Addr) (hod : o.data = .dict es ep) : Turn P w K tg (ItN P w d o xs) [it] it (fun i h => h.IsKeyIter it d i xs.length ep) where
  mem := List.mem_singleton.mpr rfl
  obj := fun i h st b hb => by
    obtain ⟨oi, e, c, dd⟩ := st
    rw [List.mem_singleton.mp hb]
    exact ⟨oi, e, fun v0 z0 => by rw [dd] at z0; cases z0⟩
  keep := fun i h h2 st k => st.at fun oi e => k it (List.mem_singleton.mpr rfl) oi e
  item := by
    intro X eP ew eK hc i pins s σ H E I hf st hg
    subst eP ew eK
    obtain ⟨hd, hi⟩ := hg
    obtain ⟨f0, f1, f2, f3, f4, f5⟩ := hf it (List.mem_singleton.mpr rfl)
    obtain ⟨hgd, hx, es2, ep2, hdt, hsz, ent⟩ := frzN I hd
    obtain ⟨rfl, rfl⟩ := dict_ep hod hdt; obtain ⟨r, hr⟩ : ∃ r, xs[i]? = some r := ⟨_, List.getElem?_eq_getElem hi⟩
    obtain ⟨en, hen, hkey⟩ := ent i r hr
    refine next_key_item st hgd hdt hsz hen fun h2 st2 sb => ?_
    have I1 : Inv X pins σ H { s with heap := h2 } := I.turned (t' := s.toks) (fun b ob hb e => (sb.2 b hb).trans e) f0 f1 f3 f4 f5
    obtain ⟨oi, e, c, dd⟩ := id st2
    exact ⟨en.key, rfl, go_of (s := { s with heap := h2 }) e c dd (by decide) ⟨.ref r.2.1, H, I1, hkey, ⟨rfl, r, hr, rfl⟩, st2, fun b hb => (hf b hb).1⟩⟩
  done := by
    intro X eP ew eK hc i pins s σ H E I hf st hg
    subst eP ew eK
    obtain ⟨hd, hi⟩ := hg
    obtain ⟨f0, f1, f2, f3, f4, f5⟩ := hf it (List.mem_singleton.mpr rfl)
    obtain ⟨hgd, hx, es2, ep2, hdt, hsz, ent⟩ := frzN I hd
    obtain ⟨rfl, rfl⟩ := dict_ep hod hdt; exact next_key_end (I.ok.hd hc) st hgd hdt hsz hi fun h2 eb => ⟨rfl, I.turned (t' := s.toks) (fun b ob hb e => eb b ob hb e) f0 f1 f3 f4 f5⟩
  self := fun _ _ _ _ _ st h => wpAny_pyIter_keyiter st h
end
section
variable {X : Cx} {tg e : Expr} {td : TE}
def iKeysN (P : Program) (w : World) (td : TE) : TI := fun σ H R => td σ H fun x H1 => ∃ d o xs, x = .ref d ∧ (d == sysModules) = false ∧ H1 d = some (.frz o (kdO P w d xs)) ∧ R (ItN P w d o xs) H1
/-- for k in d: the statement locks d (ps_lock) -/
theorem pi_keysN (he : PE X e td) : PI X tg e (iKeysN X.prog X.w td) := by
  refine ⟨fun pins0 s0 σ0 H0 R0 I0 h0 => thn (he.run pins0 s0 σ0 H0 _ I0 h0) fun u s1 ⟨x, H1, I1, rx, d, o, xs, ex, low, hd, q⟩ => ?_⟩
  subst ex
  obtain rfl : u = Value.ref d := rx; obtain ⟨hgd, hx, es, ep, hdt, hsz, ent⟩ := frzN I1 hd
  refine iter_keys low hgd hx hdt (pi_one (tk := s1.toks) I1 _ (turn_keysN _ hdt) ⟨_, Heap.get?_push_size _ rfl, rfl, ?_⟩ q)
  rw [hsz]; rfl
end
end Ld
/-! max of a list of whole numbers, with default=: the greatest, or the default where there is none -/
namespace Ld
open PySem L2 PySem.W
theorem maxOf_int : ∀ (ys : List Int) (y : Int), maxOf y ys ∈ y :: ys ∧ ∀ x ∈ y :: ys, x ≤ maxOf y ys
  | [], y => ⟨List.mem_cons_self, fun x h => by
      rw [List.mem_singleton.mp h]
      exact Int.le_refl _⟩
  | z :: ys, y => by
    have e : maxOf y (z :: ys) = maxOf (if y < z then z else y) ys := by
      show (z :: ys).foldl _ y = ys.foldl _ _
      rw [List.foldl_cons]
      congr 1
      show (if decide (y < z) = true then z else y) = _
      simp
    obtain ⟨h1, h2⟩ := maxOf_int ys (if y < z then z else y)
    rw [e]
    refine ⟨?_, fun x h => ?_⟩
    · rcases List.mem_cons.mp h1 with h | h
      · rw [h]
        split <;> simp
      · exact List.mem_cons_of_mem _ (List.mem_cons_of_mem _ h)
    · have h3 := h2 _ List.mem_cons_self
      generalize maxOf (if y < z then z else y) ys = M at h2 h3 ⊢
      have h4 : y ≤ M ∧ z ≤ M := by
        by_cases c : y < z
        · rw [if_pos c] at h3
          omega
        · rw [if_neg c] at h3
          omega
      rcases List.mem_cons.mp h with h | h
      · rw [h]
        exact h4.1
      · rcases List.mem_cons.mp h with h | h
        · rw [h]
          exact h4.2
        · exact h2 _ (List.mem_cons_of_mem _ h)
section
variable {X : Cx}
def rLenK (K : PySem.W.Frag) : List V → Hp → VK → Prop := fun xs H Q => ∃ p ys, xs = [.ref p] ∧ (SqL K H p ys ∨ SqT K H p ys) ∧ Q (.int (ys.length : Int)) H
theorem call_lenK {K : PySem.W.Frag} (h : X.K = K := by rfl) : CallR X (.builtin "len") (rLenK K) := by
  subst h
  exact call_len_seq
theorem ix_tupK {K : PySem.W.Frag} (h : X.K = K := by rfl) : IxR X (rIxT K) := by
  subst h
  exact ix_tup
def rMaxDf (K : PySem.W.Frag) : List V → List V → Hp → VK → Prop := fun vs ws H Q => ∃ (l : Addr) (ns : List Int) (d : Int), vs = [.ref l] ∧ ws = [.int d] ∧ SqL K H l (ns.map V.int) ∧ ∀ m, (ns = [] → m = d) → (ns ≠ [] → m ∈ ns) → (∀ y ∈ ns, y ≤ m) → Q (.int m) H
theorem cr_maxDf (hc : X.calm = true) (hu : X.A.units + 8 < cLine) : CallRK X (.builtin "max") [Str.ofString "default"] (rMaxDf X.K) := by
  intro pins0 s0 σ0 H0 xs0 ws0 us0 vs0 Q0 I0 r0 r1 ⟨l, ns, d, e0, e1, hl, q0⟩
  subst e0 e1
  obtain ⟨u0, rfl, rx0⟩ := vals1 r0
  obtain ⟨w0, rfl, rw0⟩ := vals1 r1
  cases rx0
  obtain ⟨its, rv, tl, _⟩ := I0.list hl
  refine max_list_datum_default (α := Int) (I0.ok.hd hc) tl.isList (xs := ns) ?_ ?_ (fun e h' tk hk => ⟨_, H0, I0.kept hk, rw0, q0 d (fun _ => rfl) (fun h => absurd e h) (fun y hy => by rw [e] at hy; cases hy)⟩) (fun y ys i v h' tk e hi hh hk => ?_)
  · have := HoldAll.of_ints (h := s0.heap) rv.ints
    simpa using this
  · show X.A.units + 1 + 0 < cLine
    omega
  · obtain ⟨as, r⟩ := hh
    have hm := maxOf_int ys y
    generalize hM : maxOf y ys = M at r hm
    change Reads h' v (.int M) as at r
    cases r
    refine ⟨.int M, H0, I0.kept hk, ⟨_, rfl⟩, q0 M (fun h => ?_) (fun _ => by rw [e]; exact hm.1) (fun z hz => by rw [e] at hz; exact hm.2 z hz)⟩
    rw [e] at h
    cases h
end
end Ld
/-! set(words): of a list or a tuple of texts. -/
namespace Ld
open PySem L2 PyProof.Rows
/-- the texts met so far, as a set of keys -/
def metK (xs : List Str) (i : Nat) : Key → Bool := fun k => (xs.take i).any fun z => decide (k = Sum.inr z)
theorem metK_succ {xs : List Str} {i : Nat} (h : i < xs.length) (k : Key) : metK xs (i + 1) k = (metK xs i k || decide (k = Sum.inr (xs.getD i Str.empty))) := by
  unfold metK
  rw [List.take_succ, List.getElem?_eq_getElem h, List.any_append, List.getD_eq_getElem?_getD, List.getElem?_eq_getElem h]
  simp
/-- of how many the set consists does not matter, as long as they are few -/
def FewOf (P : Program) (w : World) (h : Heap) (S : Addr) (xs : List Str) (i : Nat) : Prop := ∃ c, c ≤ i ∧ h.SetOf (mixKind P w) S (metK xs i) c
theorem FewOf.moved {P : Program} {w : World} {h h' : Heap} {S : Addr} {xs : List Str} {i : Nat} (f : FewOf P w h S xs i) (k : ∀ o, h.get? S = some o → h'.get? S = some o) : FewOf P w h' S xs i := by
  obtain ⟨c, hc, o, es, ep, t, e, r⟩ := f
  exact ⟨c, hc, o, es, ep, t, k o e, r⟩
section
variable {P : Program} {w : World} {A : Around} {R : Result → Shared → Prop} {I : Addr} {fp wr : List Addr} {G : Array GenState → Array GenState → Prop} {n : Nat} {PP : Nat → Value → Prop} {St : Nat → Shared → Prop}
theorem fill_texts (W : WalksS P w A.in1 I fp wr G n PP St) (S : Addr) (out : ¬ S ∈ fp) (xs : List Str) (hn : xs.length = n) (few : n + 1 < scanBound) (val : ∀ i v, PP i v → ∃ t, v = .str (xs.getD i Str.empty) t) (left : Nat) :
    ∀ (i : Nat) (s : Shared), left + i = n → St i s → FewOf P w s.heap S xs i → (∀ s', Moved (S :: wr) G s s' → FewOf P w s'.heap S xs n → R (.ok (.ret .none)) s') →
      codeAny (model P w) A (.builtin "set.update.loop" ⟨[.ref S, .ref I], []⟩) R s := by
  have notW : ¬ S ∈ wr := fun z => out (W.sub S z)
  have more : ∀ b ∈ wr, b ∈ S :: wr := fun b hb => List.mem_cons_of_mem S hb
  induction left with
  | zero =>
    intro i s e st f hR
    have e : i = n := by omega
    subst e
    refine codeAny_builtin F.entry_set_update_loop ?_
    rw [Around.under_plainId F.plain_set_update_loop _]
    show wpAny _ A.in1 (pyNext (.ref I) >>= _) _ _ s
    refine wpAny_bind (W.done s _ _ st fun s' mv => ?_)
    show wpAny _ A.in1 (ret Value.none) _ _ s'
    exact wpAny_pure (hR s' (mv.mono more) (f.moved fun o z => mv.heap S o notW z))
  | succ left ih =>
    intro i s e st f hR
    have lt : i < n := by omega
    refine codeAny_builtin F.entry_set_update_loop ?_
    rw [Around.under_plainId F.plain_set_update_loop _]
    show wpAny _ A.in1 (pyNext (.ref I) >>= _) _ _ s
    refine wpAny_bind (W.item i s _ _ lt st fun v s1 hv st1 mv => ?_)
    obtain ⟨t, rfl⟩ := val i v hv
    obtain ⟨c, hc, hS⟩ := f.moved fun o z => mv.heap S o notW z
    have rel : RelV (kV (Sum.inr (xs.getD i Str.empty))) (Value.str (xs.getD i Str.empty) t) := ⟨t, rfl⟩
    show wpAny _ A.in1 (holding [Value.str (xs.getD i Str.empty) t] (setAdd S (.str (xs.getD i Str.empty) t)) >>= _) _ _ s1
    refine wpAny_bind (wpAny_holding ?_)
    unfold setAdd
    refine wpAny_holding (wpAny_bind ((mixKind P w).pyHash (k := Sum.inr (xs.getD i Str.empty)) (kV_is rel) ?_))
    refine wpAny_setAddHashed_of (s := { s1 with toks := s1.toks + 1 }) (kV_is rel) (key_scan rel) hS (by omega) fun h2 same hS2 => ?_
    have f2 : FewOf P w h2 S xs (i + 1) := by
      refine ⟨if metK xs i (Sum.inr (xs.getD i Str.empty)) = true then c else c + 1, by split <;> omega, ?_⟩
      rw [show metK xs (i + 1) = fun k => metK xs i k || decide (k = Sum.inr (xs.getD i Str.empty)) from funext (metK_succ (by omega))]
      exact hS2
    refine wpAny_pure ⟨plainId_quiet F.plain_set_update_loop _, ih (i + 1) _ (by omega) (W.frame _ s1 _ _ st1 (Nat.le_succ _) fun b hb o z => ?_) f2 fun s3 mv3 f3 => hR s3 (Moved.trans W.gtrans ((mv.mono more).then_heap (Nat.le_succ _) fun b o nb z => ?_) mv3) f3⟩
    · rw [same.2 b fun (q : b = S) => out (q ▸ hb)]
      exact z
    · rw [same.2 b fun (q : b = S) => nb (by rw [q]; exact List.mem_cons_self)]
      exact z
end
section
variable {P : Program} {w : World} {A : Around} {E : Value → Shared → Prop} {s : Shared}
/-- a new set, as it is laid -/
abbrev newSet (led : Bool) : Obj := { cls := .type "set", dict := none, data := .set #[] 0 (.fresh 0 0 led) }
theorem fresh_few {h : Heap} {S : Addr} {led : Bool} {xs : List Str} (e : h.get? S = some (newSet led)) : FewOf P w h S xs 0 :=
  ⟨0, Nat.le_refl _, _, #[], 0, _, e, ⟨rfl, rfl, rfl⟩, rfl, (fun e he => by simp at he), (fun k => by simp [metK]), (by decide), (by cases led <;> rfl), rfl⟩
set_option maxHeartbeats 8000000 in
theorem set_of_list {l : Addr} {items : Array Value} {xs : List Str} {Q : Value → Shared → Prop} (hh : A.handled = none) (hl : s.heap.IsList l items) (hi : StrsAre items.toList xs) (few : xs.length + 1 < scanBound)
    (done : ∀ (h' : Heap) (tk : Nat), FewOf P w h' s.heap.objs.size xs xs.length → (∀ b o, s.heap.get? b = some o → h'.get? b = some o) → Q (.ref s.heap.objs.size) { s with heap := h', toks := tk }) :
    wpAny (model P w) A (call (.type "set") [.ref l]) Q E s := by
  obtain ⟨c, tl, hmro⟩ := PySem.F.called_set.mro
  have g1 := PySem.F.called_set.made
  have g2 := PySem.F.called_set.sub
  have g3 := PySem.F.called_set.notType
  have g4 := PySem.F.called_set.canCreate
  have g5 := PySem.F.typeCall_set_1 (.ref l)
  refine wpAny_call (codeAny_of_tree (show wpAny _ _ (callAny (.type "set") _) _ _ _ from wpAny_pure ⟨Code.quiet_builtin _ (by decide +kernel), codeAny_builtin PySem.F.entry_type_call ?_⟩))
  rw [Around.under_plain (weight_type_call_type "set" [.ref l] []) rfl]
  repeat (any_goals (first | assumption | wp_step))
  refine codeAny_mono (code_set_new_1 (.ref l) (E := E) (Q₁ := fun v z => ∃ led : Bool, v = .ref s.heap.objs.size ∧ z = { s with heap := s.heap.push (newSet led) }) fun led => ⟨led, rfl, rfl⟩) fun r s1 hr => ?_
  cases r with
  | error e => exact hr
  | ok fl =>
    cases fl with
    | next => exact hr.elim
    | brk => exact hr.elim
    | cont => exact hr.elim
    | ret v =>
      obtain ⟨led, rfl, rfl⟩ := hr
      have laid : (s.heap.push (newSet led)).get? s.heap.objs.size = some (newSet led) := Heap.get?_push_size _ rfl
      have tyS : Shared.TypeIs { s with heap := s.heap.push (newSet led) } (.ref s.heap.objs.size) "set" := ⟨_, laid, rfl⟩
      have g6 := PySem.F.called_set.init.lookup
      have g7 := PySem.F.called_set.init.bind (.ref s.heap.objs.size)
      repeat (any_goals (first | assumption | wp_step))
      refine codeAny_mono (codeAny_call_builtin (R := wants (fun v z => v = .none ∧ ∃ h' tk, z = { s with heap := h', toks := tk } ∧ FewOf P w h' s.heap.objs.size xs xs.length ∧ ∀ b o, b < s.heap.objs.size → s.heap.get? b = some o → h'.get? b = some o) E)
        PySem.F.called_set.init.plain PySem.F.entry_set_init (check_set_init_1 tyS ?_)) fun r2 s2 hr2 => ?_
      · obtain ⟨⟨oc, od, dt, sl⟩, ho, hc, nl, hd⟩ := hl
        simp only at hc hd
        subst hc
        subst hd
        have there : (s.heap.push (newSet led)).get? l = some { cls := .type "list", dict := od, data := .seq items nl, slots := sl } := Heap.get?_push_of_some _ ho
        have g8 := PySem.F.sub_list_set
        have g9 := PySem.F.sub_list_frozenset
        have g10 : (Value.type "list" == Value.type "dict") = false := by decide
        have isq : (s.heap.push (newSet led)).IsList l items := ⟨_, there, rfl, nl, rfl⟩
        unfold Builtin.«set.__init__» noKeywords Builtin.Frozenset.updateFrom
        generalize hPI : pyIter = PI
        wp_walk
        subst hPI
        refine wpAny_pyIter_list isq (wpAny_bind (wpAny_runValue ?_))
        have below : l < s.heap.objs.size := Heap.lt_size ho
        have handled3 : A.in1.in1.in1.handled = none := by simp [hh]
        have apart : l ≠ (s.heap.push (newSet led)).objs.size := by
          rw [Heap.size_push]
          exact Nat.ne_of_lt (Nat.lt_succ_of_lt below)
        have away : ¬ s.heap.objs.size ∈ [(s.heap.push (newSet led)).objs.size, l] := by
          rw [Heap.size_push]
          intro z
          rcases List.mem_cons.mp z with z | z
          · exact absurd z (Nat.ne_of_lt (Nat.lt_succ_self _))
          · exact absurd (List.mem_singleton.mp z) (Nat.ne_of_gt below)
        have many : xs.length = items.size := by rw [← StrsAre.len_eq hi, Array.length_toList]
        have val : ∀ (i : Nat) (v : Value), items[i]? = some v → ∃ t, v = .str (xs.getD i Str.empty) t := fun i v hv => SS.strs_at hi i v (by rw [Array.getElem?_toList]; exact hv)
        refine fill_texts ((Walks.list handled3 _ l apart items).toS) s.heap.objs.size away xs many (by omega) val items.size 0 _ rfl ⟨⟨_, Heap.get?_push_size _ rfl, rfl, rfl⟩, isq.push _⟩ ?_ fun s3 mv f3 => ?_
        · have still : ((s.heap.push (newSet led)).push { cls := .type "list_iterator", data := .fields #[.ref l, .int 0 0] }).get? s.heap.objs.size = some (newSet led) := Heap.get?_push_of_some _ laid
          exact fresh_few still
        · obtain ⟨h', g', d', tk', os'⟩ := s3
          obtain rfl : g' = s.gens := mv.gens
          obtain rfl : d' = s.drawn := mv.drawn
          obtain rfl : os' = s.os := mv.os
          show wpAny _ _ _ _ _ _
          refine wpAny_pure ?_
          show wpAny _ _ (ret Value.none) _ _ _
          refine wpAny_pure ⟨rfl, h', tk', rfl, by rw [many]; exact f3, fun b o hb e => mv.heap b o (fun z => ?_) (Heap.get?_push_of_some _ (Heap.get?_push_of_some _ e))⟩
          rcases List.mem_cons.mp z with z | z
          · exact absurd z (Nat.ne_of_lt hb)
          · rw [Heap.size_push] at z
            exact absurd (List.mem_singleton.mp z) (Nat.ne_of_lt (Nat.lt_succ_of_lt hb))
      · cases r2 with
        | error e => exact hr2
        | ok fl2 =>
          cases fl2 with
          | next => exact hr2.elim
          | brk => exact hr2.elim
          | cont => exact hr2.elim
          | ret v =>
            obtain ⟨rfl, h', tk, rfl, f, kp⟩ := hr2
            repeat (any_goals (first | assumption | wp_step))
            exact done _ _ f fun b o e => kp b o (Heap.lt_size e) e
set_option maxHeartbeats 8000000 in
theorem set_of_tuple {l : Addr} {items : Array Value} {xs : List Str} {Q : Value → Shared → Prop} (hh : A.handled = none) (hl : s.heap.IsTuple l items) (hi : StrsAre items.toList xs) (few : xs.length + 1 < scanBound)
    (done : ∀ (h' : Heap) (tk : Nat), FewOf P w h' s.heap.objs.size xs xs.length → (∀ b o, s.heap.get? b = some o → h'.get? b = some o) → Q (.ref s.heap.objs.size) { s with heap := h', toks := tk }) :
    wpAny (model P w) A (call (.type "set") [.ref l]) Q E s := by
  obtain ⟨c, tl, hmro⟩ := PySem.F.called_set.mro
  have g1 := PySem.F.called_set.made
  have g2 := PySem.F.called_set.sub
  have g3 := PySem.F.called_set.notType
  have g4 := PySem.F.called_set.canCreate
  have g5 := PySem.F.typeCall_set_1 (.ref l)
  refine wpAny_call (codeAny_of_tree (show wpAny _ _ (callAny (.type "set") _) _ _ _ from wpAny_pure ⟨Code.quiet_builtin _ (by decide +kernel), codeAny_builtin PySem.F.entry_type_call ?_⟩))
  rw [Around.under_plain (weight_type_call_type "set" [.ref l] []) rfl]
  repeat (any_goals (first | assumption | wp_step))
  refine codeAny_mono (code_set_new_1 (.ref l) (E := E) (Q₁ := fun v z => ∃ led : Bool, v = .ref s.heap.objs.size ∧ z = { s with heap := s.heap.push (newSet led) }) fun led => ⟨led, rfl, rfl⟩) fun r s1 hr => ?_
  cases r with
  | error e => exact hr
  | ok fl =>
    cases fl with
    | next => exact hr.elim
    | brk => exact hr.elim
    | cont => exact hr.elim
    | ret v =>
      obtain ⟨led, rfl, rfl⟩ := hr
      have laid : (s.heap.push (newSet led)).get? s.heap.objs.size = some (newSet led) := Heap.get?_push_size _ rfl
      have tyS : Shared.TypeIs { s with heap := s.heap.push (newSet led) } (.ref s.heap.objs.size) "set" := ⟨_, laid, rfl⟩
      have g6 := PySem.F.called_set.init.lookup
      have g7 := PySem.F.called_set.init.bind (.ref s.heap.objs.size)
      repeat (any_goals (first | assumption | wp_step))
      refine codeAny_mono (codeAny_call_builtin (R := wants (fun v z => v = .none ∧ ∃ h' tk, z = { s with heap := h', toks := tk } ∧ FewOf P w h' s.heap.objs.size xs xs.length ∧ ∀ b o, b < s.heap.objs.size → s.heap.get? b = some o → h'.get? b = some o) E)
        PySem.F.called_set.init.plain PySem.F.entry_set_init (check_set_init_1 tyS ?_)) fun r2 s2 hr2 => ?_
      · obtain ⟨⟨oc, od, dt, sl⟩, ho, hc, nl, hd⟩ := hl
        simp only at hc hd
        subst hc
        subst hd
        have there : (s.heap.push (newSet led)).get? l = some { cls := .type "tuple", dict := od, data := .seq items nl, slots := sl } := Heap.get?_push_of_some _ ho
        have g8 := PySem.F.sub_tuple_set
        have g9 := PySem.F.sub_tuple_frozenset
        have g10 : (Value.type "tuple" == Value.type "dict") = false := by decide
        have isq : (s.heap.push (newSet led)).IsTuple l items := ⟨_, there, rfl, nl, rfl⟩
        unfold Builtin.«set.__init__» noKeywords Builtin.Frozenset.updateFrom
        generalize hPI : pyIter = PI
        wp_walk
        subst hPI
        refine wpAny_pyIter_tuple isq (wpAny_bind (wpAny_runValue ?_))
        have below : l < s.heap.objs.size := Heap.lt_size ho
        have handled3 : A.in1.in1.in1.handled = none := by simp [hh]
        have apart : l ≠ (s.heap.push (newSet led)).objs.size := by
          rw [Heap.size_push]
          exact Nat.ne_of_lt (Nat.lt_succ_of_lt below)
        have away : ¬ s.heap.objs.size ∈ [(s.heap.push (newSet led)).objs.size, l] := by
          rw [Heap.size_push]
          intro z
          rcases List.mem_cons.mp z with z | z
          · exact absurd z (Nat.ne_of_lt (Nat.lt_succ_self _))
          · exact absurd (List.mem_singleton.mp z) (Nat.ne_of_gt below)
        have many : xs.length = items.size := by rw [← StrsAre.len_eq hi, Array.length_toList]
        have val : ∀ (i : Nat) (v : Value), items[i]? = some v → ∃ t, v = .str (xs.getD i Str.empty) t := fun i v hv => SS.strs_at hi i v (by rw [Array.getElem?_toList]; exact hv)
        refine fill_texts ((Walks.tuple handled3 _ l apart items).toS) s.heap.objs.size away xs many (by omega) val items.size 0 _ rfl ⟨⟨_, Heap.get?_push_size _ rfl, rfl, rfl⟩, isq.push _⟩ ?_ fun s3 mv f3 => ?_
        · have still : ((s.heap.push (newSet led)).push { cls := .type "tuple_iterator", data := .fields #[.ref l, .int 0 0] }).get? s.heap.objs.size = some (newSet led) := Heap.get?_push_of_some _ laid
          exact fresh_few still
        · obtain ⟨h', g', d', tk', os'⟩ := s3
          obtain rfl : g' = s.gens := mv.gens
          obtain rfl : d' = s.drawn := mv.drawn
          obtain rfl : os' = s.os := mv.os
          show wpAny _ _ _ _ _ _
          refine wpAny_pure ?_
          show wpAny _ _ (ret Value.none) _ _ _
          refine wpAny_pure ⟨rfl, h', tk', rfl, by rw [many]; exact f3, fun b o hb e => mv.heap b o (fun z => ?_) (Heap.get?_push_of_some _ (Heap.get?_push_of_some _ e))⟩
          rcases List.mem_cons.mp z with z | z
          · exact absurd z (Nat.ne_of_lt hb)
          · rw [Heap.size_push] at z
            exact absurd (List.mem_singleton.mp z) (Nat.ne_of_lt (Nat.lt_succ_of_lt hb))
      · cases r2 with
        | error e => exact hr2
        | ok fl2 =>
          cases fl2 with
          | next => exact hr2.elim
          | brk => exact hr2.elim
          | cont => exact hr2.elim
          | ret v =>
            obtain ⟨rfl, h', tk, rfl, f, kp⟩ := hr2
            repeat (any_goals (first | assumption | wp_step))
            exact done _ _ f fun b o e => kp b o (Heap.lt_size e) e
end
/-- the set of the words xs stands at p -/
def WordSet (P : Program) (w : World) (H : Hp) (p : Addr) (xs : List Str) : Prop := ∃ c, H p = some (SetK P w p (metK xs xs.length) c)
def rSetS (K : PySem.W.Frag) (P : Program) (w : World) : List V → Hp → VK → Prop := fun vs H Q => ∃ (a : Addr) (xs : List Str), vs = [.ref a] ∧ (SqL K H a (xs.map V.str) ∨ SqT K H a (xs.map V.str)) ∧ xs.length ≤ 1000 ∧ ∀ p H', Same H H' → WordSet P w H' p xs → Q (.ref p) H'
theorem strs_of : ∀ {xs : List Str} {us : List Value}, Vals (xs.map V.str) us → StrsAre us xs
  | [], _, .nil => .nil
  | x :: xs, _, .cons r t => by
    obtain ⟨k, rfl⟩ := r
    exact .cons x k (strs_of t)
theorem cr_setS {X : Cx} (hc : X.calm = true) : CallR X (.type "set") (rSetS X.K X.prog X.w) := by
  intro pins s σ H vs us Q I r h
  obtain ⟨a, xs, rfl, hq, hz, q⟩ := h
  obtain ⟨u, rfl, ru⟩ := vals1 r
  cases ru
  have few : xs.length + 1 < scanBound := Nat.lt_of_le_of_lt (Nat.succ_le_succ hz) (by decide)
  have fresh := I.hok.fresh (Nat.le_refl s.heap.objs.size)
  have fin : ∀ (h' : Heap) (tk : Nat), FewOf X.prog X.w h' s.heap.objs.size xs xs.length → (∀ b o, s.heap.get? b = some o → h'.get? b = some o) → EP X pins σ Q (.ref s.heap.objs.size) { s with heap := h', toks := tk } := fun h' tk ⟨c, _, hS⟩ kp =>
    ⟨.ref s.heap.objs.size, upd H s.heap.objs.size (SetK X.prog X.w s.heap.objs.size (metK xs xs.length) c), I.laid (t' := tk) kp (Nat.le_refl _) (setK_new hS), rfl, q _ _ (Ld.Same.new fresh) ⟨c, upd_same⟩⟩
  rcases hq with hq | hq
  · obtain ⟨its, rv, ⟨o, n, e, c, _, d⟩, _⟩ := I.list hq
    exact set_of_list (I.ok.hd hc) ⟨o, e, c, n, d⟩ (strs_of rv) few fin
  · obtain ⟨its, rv, ⟨o, e, c, n, d⟩, _⟩ := I.tuple hq
    exact set_of_tuple (I.ok.hd hc) ⟨o, e, c, n, d⟩ (strs_of rv) few fin
/-- word in set -/
def rInS (P : Program) (w : World) : R2 := fun x y H Q => ∃ (z : Str) (p : Addr) (xs : List Str), x = .str z ∧ y = .ref p ∧ WordSet P w H p xs ∧ Q (.bl (decide (z ∈ xs))) H
theorem metK_in (xs : List Str) (z : Str) : metK xs xs.length (Sum.inr z) = decide (z ∈ xs) := by
  unfold metK
  rw [List.take_length, Bool.eq_iff_iff]
  simp
theorem op_inWords {X : Cx} : OpR X (compareOp .In) (rInS X.prog X.w) := OpR.conv or_sinK fun x y H Q ⟨z, p, xs, e1, e2, ⟨c, h⟩, q⟩ => by
  refine ⟨Sum.inr z, p, _, c, e1, e2, h, ?_⟩
  show Q (.bl (metK xs xs.length (Sum.inr z))) H
  rw [metK_in]
  exact q
end Ld
/-! The least words, one behind the other. -/
namespace Ld
open PySem L2 PyProof.Rows
def abcS : Str := Str.ofString "abcdefghijklmnopqrstuvwxyz"
def lastOf (z : Str) : Nat := z.cps.toList.getLastD 0
def keptW (z : Str) : Str := Txt.rstripChars z (Str.ofString "z")
def nextW (z : Str) : Str := if z.length < 12 then z ++ Str.ofString "a" else cutS (keptW z) none (some (-1)) ++ ⟨#[lastOf (keptW z) + 1]⟩
def seqW : Nat → Str
  | 0 => Str.ofString "a"
  | i + 1 => nextW (seqW i)
/-- what the steps ask of the first forty words -/
def stepOk (z : Str) : Bool := decide (z.length ≤ 12) && (decide (z.length < 12) || (decide ((keptW z).length ≤ 12) && decide (0 < (keptW z).length) && decide (97 ≤ lastOf (keptW z)) && decide (lastOf (keptW z) < 122) &&
  decide (atI (keptW z).cps.toList (-1) = some (lastOf (keptW z))) && decide (Builtin.Str.occurrences abcS ⟨#[lastOf (keptW z)]⟩ 0 abcS.length 1 = [lastOf (keptW z) - 97]) && decide (atI abcS.cps.toList ((lastOf (keptW z) - 97 : Nat) + 1 : Int) = some (lastOf (keptW z) + 1))))
theorem steps_ok : (List.range 40).all (fun i => stepOk (seqW i)) = true := by decide +kernel
theorem step_ok {i : Nat} (h : i < 40) : stepOk (seqW i) = true := List.all_eq_true.mp steps_ok i (List.mem_range.mpr h)
theorem seq_apart : (List.range 41).all (fun i => (List.range 41).all fun j => decide (i = j) || !decide (seqW i = seqW j)) = true := by decide +kernel
theorem seq_inj {i j : Nat} (hi : i < 41) (hj : j < 41) (e : seqW i = seqW j) : i = j := by
  have h := List.all_eq_true.mp (List.all_eq_true.mp seq_apart i (List.mem_range.mpr hi)) j (List.mem_range.mpr hj)
  by_cases q : i = j
  · exact q
  · rw [decide_eq_false q, decide_eq_true e] at h
    cases h
structure Step (z : Str) : Prop where
  len : z.length ≤ 12
  far : ¬ z.length < 12 → (keptW z).length ≤ 12 ∧ atI (keptW z).cps.toList (-1) = some (lastOf (keptW z)) ∧ Builtin.Str.occurrences abcS ⟨#[lastOf (keptW z)]⟩ 0 abcS.length 1 = [lastOf (keptW z) - 97] ∧
    atI abcS.cps.toList ((lastOf (keptW z) - 97 : Nat) + 1 : Int) = some (lastOf (keptW z) + 1)
theorem step_of {i : Nat} (h : i < 40) : Step (seqW i) := by
  have q := step_ok h
  unfold stepOk at q
  simp only [Bool.and_eq_true, Bool.or_eq_true, decide_eq_true_eq] at q
  refine ⟨q.1, fun n => ?_⟩
  rcases q.2 with q | q
  · exact absurd q n
  · exact ⟨q.1.1.1.1.1.1, q.1.1.2, q.1.2, q.2⟩
theorem cutS_len {z : Str} (h : z.length ≤ 12) : (cutS z none (some (-1))).length ≤ 12 := Nat.le_trans (cutS_length z none (some (-1))) h
/-! as many different things as a list holds -/
theorem few_of {α : Type} [DecidableEq α] : ∀ (l m : List α), l.Nodup → (∀ x ∈ l, x ∈ m) → l.length ≤ m.length
  | [], _, _, _ => Nat.zero_le _
  | a :: l, m, nd, h => by
    obtain ⟨h1, h2⟩ := List.nodup_cons.mp nd
    have hm := h a List.mem_cons_self
    have q := few_of l (m.erase a) h2 fun x hx => by
      have ne : x ≠ a := fun e => h1 (e ▸ hx)
      exact (List.mem_erase_of_ne ne).mpr (h x (List.mem_cons_of_mem _ hx))
    have e := List.length_erase_of_mem hm
    have p : 0 < m.length := List.length_pos_of_mem hm
    simp only [List.length_cons]
    omega
theorem seq_nodup : ∀ n : Nat, n ≤ 41 → ((List.range n).map seqW).Nodup := fun n hn => by
  rw [List.nodup_iff_pairwise_ne, List.pairwise_map]
  have := List.nodup_range (n := n)
  rw [List.nodup_iff_pairwise_ne] at this
  refine this.imp_of_mem fun {i j} hi hj ne e => ne (seq_inj (Nat.lt_of_lt_of_le (List.mem_range.mp hi) hn) (Nat.lt_of_lt_of_le (List.mem_range.mp hj) hn) e)
/-- all words ahead of the i-th are in xs: then they are no more than xs has -/
theorem ahead_few {xs : List Str} {i : Nat} (hi : i ≤ 41) (h : ∀ j < i, seqW j ∈ xs) : i ≤ xs.length := by
  have := few_of ((List.range i).map seqW) xs (seq_nodup i hi) fun x hx => by
    obtain ⟨j, hj, rfl⟩ := List.mem_map.mp hx
    exact h j (List.mem_range.mp hj)
  simpa using this
/-- the strange word is told by what it is -/
structure Odd (xs : List Str) (m : Nat) : Prop where
  lt : m ≤ xs.length
  out : ¬ seqW m ∈ xs
  all : ∀ j < m, seqW j ∈ xs
theorem Odd.one {xs : List Str} {m n : Nat} (a : Odd xs m) (b : Odd xs n) : m = n := by
  rcases Nat.lt_trichotomy m n with h | h | h
  · exact absurd (b.all m h) a.out
  · exact h
  · exact absurd (a.all n h) b.out
end Ld
/-! sorted(t, key=f) of a tuple, f a def of one's own. -/
namespace Ld
open PySem PySem.W L2 PyProof.Rows
section
variable {prog : Program} {w : World} {A : Around} {E : Value → Shared → Prop} {s : Shared}
/-- the heap with one more list that holds the items -/
def heap1 (h : Heap) (vs : Array Value) : Heap := (h.push ⟨.type "list", none, .seq #[] 0, #[]⟩).update h.objs.size (Obj.mapSeq fun z => z ++ vs)
theorem heap1_size {h : Heap} {vs : Array Value} : (heap1 h vs).objs.size = h.objs.size + 1 := by
  unfold heap1
  rw [Heap.size_update, Heap.size_push]
theorem heap1_keep {h : Heap} {vs : Array Value} (b : Addr) (o : Obj) (e : h.get? b = some o) : (heap1 h vs).get? b = some o := by
  have lt := Heap.lt_size e
  unfold heap1
  rw [Heap.get?_update_other _ _ (Nat.ne_of_gt lt)]
  exact Heap.get?_push_of_some _ e
/-- the items of a tuple in a list of their own: the heap is one object larger -/
theorem items_of {l : Addr} {o : Obj} {vs : Array Value} {n : Nat} {Q : List Value → Shared → Prop} (at_ : s.heap.get? l = some o) (cls : o.cls = .type "tuple") (dat : o.data = .seq vs n) (fits : vs.size ≤ sizeLine)
    (q : Q vs.toList { s with heap := heap1 s.heap vs }) : wpAny (model prog w) A (collect (.ref l)) Q E s := by
  let M := s.heap.objs.size
  have new : (s.heap.push ⟨.type "list", none, .seq #[] 0, #[]⟩).get? M = some ⟨.type "list", none, .seq #[] 0, #[]⟩ := Heap.get?_push_size _ rfl
  have full := Heap.get?_update_self (Obj.mapSeq fun z => z ++ vs) new rfl
  have last : wpAny (model prog w) A (load M >>= fun b => match b.data with | .seq xs _ => pure xs.toList | _ => unsupported "internal:collect") Q E { s with heap := heap1 s.heap vs } :=
    wpAny_bind (wpAny_load full (wpAny_pure (by rw [show ((#[] : Array Value) ++ vs).toList = vs.toList by simp]; exact q)))
  have main := wpAny_extend_seq (A := A) (w := w) (prog := prog) (R := fun r z => r = .ok (.ret (.ref M)) ∧ z = { s with heap := heap1 s.heap vs }) (s := { s with heap := s.heap.push ⟨.type "list", none, .seq #[] 0, #[]⟩ })
    M l (.ref M) 0 (.inr rfl) new (Heap.get?_push_of_some _ at_) cls dat ⟨rfl, rfl⟩ fits
  delta collect
  apply wpAny_bind
  apply wpAny_runValue
  apply codeAny_builtin F.entry_proto_collect
  rw [Around.under_plainId F.plain_proto_collect]
  apply wpAny_bind
  refine wpAny_newObj_type ?_ (Nat.zero_le _)
  apply wpAny_pure
  refine ⟨plainId_quiet F.plain_list_iadd _, ?_⟩
  apply codeAny_builtin F.entry_list_iadd
  rw [Around.under_plainId F.plain_list_iadd]
  refine wpAny_mono main (fun f z y => ?_) fun _ _ y => nomatch y.1
  cases f with
  | done g =>
    obtain ⟨y, rfl⟩ := y
    cases y
    exact last
  | again c =>
    refine ⟨y.1, codeAny_mono y.2 fun _ _ y => ?_⟩
    obtain ⟨rfl, rfl⟩ := y
    exact last
end
section
variable {prog : Program} {w : World} {A : Around} {E : Value → Shared → Prop} {s : Shared}
/-- what sorted does with a tuple: its items in a new list, which is sorted -/
theorem sorted_tup {l : Addr} {vs : List Value} {kw : List (Str × Value)} {Q : Value → Shared → Prop} (tup : IsTup s.heap l vs.toArray) (fits : vs.length ≤ sizeLine) (ok1 : argsOk "sorted" ⟨[.ref l], kw⟩) (ok2 : ∀ x, argsOk "list.sort" ⟨[.ref x], kw⟩)
    (body : ∀ (h1 : Heap) (E' : Value → Shared → Prop), (∀ b o, s.heap.get? b = some o → h1.get? b = some o) → s.heap.objs.size ≤ h1.objs.size →
      wpAny (model prog w) A.in1.in1 (Builtin.«list.sort» ⟨[.ref h1.objs.size], kw⟩) (fun f s' => f = .done (.ret .none) ∧ Q (.ref h1.objs.size) s') E' { s with heap := h1.push (seqObj "list" vs.toArray 0) }) :
    wpAny (model prog w) A (call (.builtin "sorted") [.ref l] kw) Q E s := by
  obtain ⟨o, at_, cls, n, dat⟩ := tup
  refine call_function_entry_kw kind_sorted plain_sorted entry_sorted ok1 ?_
  unfold Builtin.«sorted»
  refine wpAny_bind (wpAny_pure (wpAny_bind (items_of at_ cls dat (by rw [List.size_toArray]; exact fits) ?_)))
  rw [show vs.toArray.toList = vs from rfl]
  refine wpAny_bind (wpAny_newList (wpAny_bind (wpAny_holding ?_)) fits)
  generalize eh1 : heap1 s.heap vs.toArray = h1
  have keep : ∀ b o, s.heap.get? b = some o → h1.get? b = some o := by rw [← eh1]; exact heap1_keep
  have big : s.heap.objs.size ≤ h1.objs.size := by rw [← eh1, heap1_size]; omega
  have at2 : (h1.push (seqObj "list" vs.toArray 0)).get? h1.objs.size = some (seqObj "list" vs.toArray 0) := Heap.get?_push_size _ rfl
  refine wpAny_call_entry_kw slot_list_sort ⟨_, at2, rfl⟩ entry_list_sort (wpAny_mono (body h1 _ keep big) (fun f s' z => ?_) fun _ _ e => e) (ok2 _)
  exact ⟨_, z.1, wpAny_pure ⟨_, rfl, z.2⟩⟩
end
section
variable {X : Cx}
/-- sorted(t, key=f): zs, the items with their keys -/
def rSortKT (K : PySem.W.Frag) (f : Addr) (sp : Sp) : List V → List V → Hp → VK → Prop := fun vs ws H Q => ∃ (l : Addr) (zs : List (V × PyData)), vs = [.ref l] ∧ ws = [.ref f] ∧ SqT K H l (zs.map Prod.fst) ∧ zs.length ≤ 1000 ∧ AllAlike (zs.map Prod.snd) ∧ Sortable (zs.map Prod.snd) ∧
  (∀ z ∈ zs, bareB z.2 = true ∧ z.2.depth ≤ 8 ∧ ∀ H1, Same H H1 → sp [z.1] H1 (fun v H2 => Same H1 H2 ∧ Dp K H2 v z.2) E0) ∧
  ∀ H1 q, Same H H1 → H1 q = none → q ≠ sysModules → Q (.ref q) (upd H1 q (.lst ((zs.mergeSort (dataLe false Prod.snd)).map Prod.fst)))
theorem cr_sortKT {j : Nat} {fd : FuncData} {p : Str} {sp : Sp} (F : FnOk X.prog X.w X.K X.mg X.base CX0 j f fd [p] sp) (hr : Room (j + 2) X.A) (hb : Binds X.K fd [p] []) : CallRK X (.builtin "sorted") [Str.ofString "key"] (rSortKT X.K f sp) := by
  intro pins0 s0 σ0 H0 xs0 ws0 us0 vs0 Q0 I0 r0 r1 ⟨l, zs, e0, e1, hl, hn, hal, hsk, hz, q0⟩
  subst e0 e1
  obtain ⟨u0, rfl, rx0⟩ := vals1 r0
  obtain ⟨w0, rfl, rw0⟩ := vals1 r1
  cases rx0
  cases rw0
  obtain ⟨js, rj, tj, zj⟩ := I0.tuple hl
  have lj : js.length = zs.length := by rw [← rj.length, List.length_map]
  have line : zs.length ≤ sizeLine := Nat.le_trans hn (by decide)
  have rel : EachIs (fun (u : Value) (z : V × PyData) => RelV z.1 u) js zs := vals_each rj
  refine sorted_tup tj (by rw [lj]; exact line) (ksk_s1 _ _) (fun _ => ksk_l1 _ _) fun h1 E' keep big => ?_
  show wpAny _ _ (Builtin.«list.sort» ⟨[.ref h1.objs.size], [(Str.ofString "key", .ref f)]⟩) _ _ _
  rw [ksk_t1]
  have sz : (h1.push (seqObj "list" js.toArray 0)).objs.size = h1.objs.size + 1 := size_push' ..
  have bigger : s0.heap.objs.size ≤ (h1.push (seqObj "list" js.toArray 0)).objs.size := by omega
  have keep0 : ∀ b o, s0.heap.get? b = some o → (h1.push (seqObj "list" js.toArray 0)).get? b = some o := fun b o q => Heap.get?_push_of_some _ (keep b o q)
  have frN : ∀ b, s0.heap.objs.size ≤ b → b ∉ frs X.stack := fun b hb hm => by
    obtain ⟨_, o', e', _⟩ := I0.env0.funs.mem hm
    exact absurd (Heap.lt_size e') (Nat.not_lt.mpr hb)
  refine key_tree (X := X) (pins := pins0) (σ := σ0) (H := H0) (s := s0) (kz := zs.map Prod.snd) (H0 := H0) (s0 := { s0 with heap := h1.push (seqObj "list" js.toArray 0) }) (a := h1.objs.size) I0 ⟨rfl, I0.bare, Un.kept keep0, I0.hok.kept keep0, Same.refl H0⟩ (Heap.get?_none_of_le big) frN (I0.hok.fresh big) big
    (Heap.get?_push_size _ rfl) bigger (by rw [List.length_map, lj]) (by rw [lj]; exact line) hal hsk (fun d hd => ?_) (fun d hd => ?_) (fun i v k hv hk => ?_) fun H3 s3 out c J3 n3 o3 ko => ⟨rfl, ?_⟩
  · obtain ⟨z, hz1, rfl⟩ := List.mem_map.mp hd
    exact (hz z hz1).1
  · obtain ⟨z, hz1, rfl⟩ := List.mem_map.mp hd
    have := (hz z hz1).2.1
    have := hr.un
    show X.A.units + 1 + 1 + z.2.depth < cLine
    omega
  · rw [List.getElem?_map] at hk; obtain ⟨z, hz1, rfl⟩ := Option.map_eq_some_iff.mp hk
    have rz := rel.zip (v, z) (List.mem_of_getElem? (i := i) (by rw [List.getElem?_zip_eq_some]; exact ⟨hv, hz1⟩))
    exact fun H1 s1 J1 => J1.call I0 F hr.in1.in1 rfl hb rz ((hz z (List.mem_of_getElem? hz1)).2.2 H1 J1.same)
  · have ko' := keyedOut_each (R := fun (u : Value) (z : V × PyData) => RelV z.1 u) Prod.snd ko rel
    have ln : ((zs.mergeSort (dataLe false Prod.snd)).map Prod.fst).length ≤ sizeLine := by
      rw [List.length_map, List.length_mergeSort]
      exact line
    have J4 : Since X H0 s0 (upd H3 h1.objs.size (.lst ((zs.mergeSort (dataLe false Prod.snd)).map Prod.fst))) s3 :=
      ⟨J3.os, J3.bare, un_put J3.un (Heap.get?_none_of_le big) n3, hok_put J3.hok n3 ⟨ln, out, c, each_vals ko', o3⟩, J3.same.trans (Same.new n3)⟩
    exact ⟨.ref h1.objs.size, _, J4.inv I0, rfl, q0 H3 _ J3.same n3 (Nat.ne_of_gt (Nat.lt_of_lt_of_le I0.big big))⟩
end
end Ld
namespace K7
open PySem L2 Ld PyProof.Rows
/-! ### rules -/
inductive An
  | gone
  | own (z : Str)
  | to (ws : List Str) (n : Int)
deriving DecidableEq
structure Rl where
  ex : Bool
  pl : List Str
  an : An
deriving DecidableEq
def sortS (b : Bool) : Str := if b then "exact" else "open"
def ownS (b : Bool) : Str := if b then "page" else "section"
def An.d (b : Bool) : An → PyData
  | .gone => .tuple [.str "gone"]
  | .own z => .tuple [.str (ownS b), .str z]
  | .to ws n => .tuple [.str "to", wt ws, .int n]
def Rl.d (r : Rl) : PyData := .tuple [.str (sortS r.ex), wt r.pl, r.an.d r.ex]
def kOf (b : Bool) (ws : List Str) : NestedKey := .tup [.text (sortS b), .tup (ws.map .text)]
def Rl.key (r : Rl) : NestedKey := kOf r.ex r.pl
/-- what it is sorted by -/
def Rl.kd (r : Rl) : PyData := .tuple [keyD r.pl, .str (sortS r.ex)]
def wds : List Str := ["a", "b", "aa", "c", "q", "home", "s", "zz"]
def Wd (z : Str) : Prop := z ∈ wds
theorem Wd.word {z : Str} (h : Wd z) : wordS z = true := List.all_eq_true.mp (show wds.all wordS = true by decide +kernel) z h
theorem Wd.asc {z : Str} (h : Wd z) : ascB z = true := List.all_eq_true.mp (show wds.all ascB = true by decide +kernel) z h
theorem Wd.low {z : Str} (h : Wd z) : ∀ c ∈ z.cps.toList, c < 128 := (asc_of h.asc).2
def An.Ok : An → Prop
  | .gone => True
  | .own z => Wd z
  | .to ws n => ws.length ≤ 4 ∧ (∀ z ∈ ws, Wd z) ∧ 0 ≤ n ∧ n ≤ 10000
structure Rl.Ok (r : Rl) : Prop where
  len : r.pl.length ≤ 4
  wds : ∀ z ∈ r.pl, Wd z
  an : r.an.Ok
theorem words_all {ws : List Str} (h : ∀ z ∈ ws, Wd z) : (ws.map PyData.str).all wordD = true := by
  rw [List.all_eq_true]
  intro d hd
  obtain ⟨z, hz, rfl⟩ := List.mem_map.mp hd
  exact (h z hz).word
theorem place_wt {ws : List Str} (hl : ws.length ≤ 4) (h : ∀ z ∈ ws, Wd z) : placeD (wt ws) = true := by
  show (decide ((ws.map PyData.str).length ≤ 4) && (ws.map PyData.str).all wordD) = true
  rw [words_all h, List.length_map, decide_eq_true hl]
  rfl
theorem fit_words : ∀ {ws : List Str}, (∀ z ∈ ws, Wd z) → fitAll (ws.map PyData.str) = true
  | [], _ => rfl
  | z :: ws, h => by
    show (ascB z && fitAll (ws.map PyData.str)) = true
    rw [(h z List.mem_cons_self).asc, fit_words fun y hy => h y (List.mem_cons_of_mem _ hy)]
    rfl
theorem fit_wt {ws : List Str} (hl : ws.length ≤ 4) (h : ∀ z ∈ ws, Wd z) : fitB (wt ws) = true := by
  show (decide ((ws.map PyData.str).length ≤ 1000) && fitAll (ws.map PyData.str)) = true
  rw [fit_words h, List.length_map, decide_eq_true (by omega)]
  rfl
theorem asc_sort (b : Bool) : ascB (sortS b) = true := by cases b <;> decide +kernel
theorem asc_own (b : Bool) : ascB (ownS b) = true := by cases b <;> decide +kernel
theorem asc_gone : ascB "gone" = true := by decide +kernel
theorem asc_to : ascB "to" = true := by decide +kernel
theorem fit3 (x y z : PyData) : fitB (.tuple [x, y, z]) = (fitB x && (fitB y && fitB z)) := by
  show (decide (3 ≤ 1000) && (fitB x && (fitB y && (fitB z && true)))) = _
  rw [Bool.and_true]
  rfl
theorem fit_an {a : An} (b : Bool) (h : a.Ok) : fitB (a.d b) = true := by
  cases a with
  | gone =>
    show (decide (1 ≤ 1000) && (ascB "gone" && true)) = true
    rw [asc_gone]
    rfl
  | own z =>
    show (decide (2 ≤ 1000) && (ascB (ownS b) && (ascB z && true))) = true
    rw [asc_own, Wd.asc h]
    rfl
  | to ws n =>
    obtain ⟨h1, h2, _⟩ := h
    rw [show An.d b (.to ws n) = .tuple [.str "to", wt ws, .int n] from rfl, fit3, fit_wt h1 h2]
    show (ascB "to" && (true && true)) = true
    rw [asc_to]
    rfl
theorem Rl.Ok.fit {r : Rl} (h : r.Ok) : fitB r.d = true := by
  unfold Rl.d
  rw [fit3, fit_wt h.len h.wds, fit_an r.ex h.an]
  show (ascB (sortS r.ex) && (true && true)) = true
  rw [asc_sort]
  rfl
theorem ans_ok {a : An} (b : Bool) (h : a.Ok) : answerD (ownS b) (a.d b) = true := by
  have n1 : ∀ b, txtD (.str (ownS b)) "gone" = false := fun b => by cases b <;> decide +kernel
  have n2 : ∀ b, txtD (.str (ownS b)) "to" = false := fun b => by cases b <;> decide +kernel
  have n3 : ∀ b, txtD (.str (ownS b)) (ownS b) = true := fun b => by cases b <;> decide +kernel
  cases a with
  | gone => exact (answerD_cons _ _ _).trans (if_pos (by decide +kernel))
  | own z =>
    refine (answerD_cons _ _ _).trans ?_
    rw [if_neg (by rw [n1]; decide), if_neg (by rw [n2]; decide), n3]
    exact Wd.word h
  | to ws n =>
    obtain ⟨h1, h2, h3, h4⟩ := h
    refine (answerD_cons _ _ _).trans ?_
    rw [if_neg (by decide +kernel), if_pos (by decide +kernel)]
    show (placeD (wt ws) && (decide (0 ≤ n) && decide (n ≤ 10000))) = true
    rw [place_wt h1 h2, decide_eq_true h3, decide_eq_true h4]
    rfl
theorem Rl.Ok.rule {r : Rl} (h : r.Ok) : ruleD r.d = true := by
  have pl := place_wt h.len h.wds
  have an := ans_ok r.ex h.an
  show ruleT (.str (sortS r.ex)) (wt r.pl) (r.an.d r.ex) = true
  cases e : r.ex with
  | true =>
    rw [e] at an
    show ruleT (.str "exact") (wt r.pl) (r.an.d true) = true
    rw [ruleT_exact, pl]
    exact an
  | false =>
    rw [e] at an
    show ruleT (.str "open") (wt r.pl) (r.an.d false) = true
    rw [ruleT_open, pl]
    exact an
/-! ### the order -/
theorem toks_inj : ∀ {ws us : List Str} {a b : List (Int ⊕ List Nat)}, PySem.W.keyToksAll (ws.map PyData.str) ++ a = PySem.W.keyToksAll (us.map PyData.str) ++ b → ws = us ∧ a = b
  | [], [], a, b, h => ⟨rfl, by simpa [PySem.W.keyToksAll] using h⟩
  | [], u :: us, a, b, h => by simp [PySem.W.keyToksAll] at h
  | w :: ws, [], a, b, h => by simp [PySem.W.keyToksAll] at h
  | w :: ws, u :: us, a, b, h => by
    simp only [List.map_cons, PySem.W.keyToksAll, PySem.W.keyToks, List.cons_append, List.nil_append, List.cons.injEq, true_and, Sum.inr.injEq] at h
    obtain ⟨h1, h2⟩ := h
    obtain ⟨rfl, e⟩ := toks_inj h2
    exact ⟨by rw [PySem.W.str_of_cps h1], e⟩
theorem sortS_inj {a b : Bool} (h : sortS a = sortS b) : a = b := by
  cases a <;> cases b <;> first | rfl | exact absurd h (by decide +kernel)
theorem kd_inj {r t : Rl} (h : PySem.W.keyToks r.kd = PySem.W.keyToks t.kd) : r.ex = t.ex ∧ r.pl = t.pl := by
  unfold Rl.kd keyD wt at h
  simp only [PySem.W.keyToksAll, PySem.W.keyToks, List.cons_append, List.nil_append, List.append_assoc, List.cons.injEq, true_and] at h
  obtain ⟨_, h⟩ := h
  obtain ⟨e1, e2⟩ := toks_inj h
  simp only [List.cons.injEq, true_and, Sum.inr.injEq, and_true] at e2
  exact ⟨sortS_inj (PySem.W.str_of_cps e2), e1⟩
def leR (a b : Rl) : Bool := PySem.W.dataLe false Rl.kd a b
theorem leR_tot : PySem.W.TotalLe leR := PySem.W.sortLe_total (listOrd itemOrd) false fun r => PySem.W.keyToks (Rl.kd r)
theorem leR_anti {a b : Rl} (h1 : leR a b = true) (h2 : leR b a = true) : a.ex = b.ex ∧ a.pl = b.pl := by
  refine kd_inj ?_
  have e1 : (!(listOrd itemOrd).blt (PySem.W.keyToks b.kd) (PySem.W.keyToks a.kd)) = true := h1
  have e2 : (!(listOrd itemOrd).blt (PySem.W.keyToks a.kd) (PySem.W.keyToks b.kd)) = true := h2
  rw [Bool.not_eq_true'] at e1 e2
  exact (listOrd itemOrd).total _ _ e2 e1
def sortR (rs : List Rl) : List Rl := rs.mergeSort leR
theorem sortR_perm (rs : List Rl) : (sortR rs).Perm rs := List.mergeSort_perm _ _
theorem leR_or (a b : Rl) : (leR a b || leR b a) = true := by
  rcases leR_tot.total a b with h | h <;> rw [h] <;> simp
theorem key_inj {a b : Rl} (h : a.key = b.key) : a.ex = b.ex ∧ a.pl = b.pl := by
  unfold Rl.key kOf at h
  simp only [NestedKey.tup.injEq, List.cons.injEq, NestedKey.text.injEq, and_true] at h
  obtain ⟨h1, h2⟩ := h
  refine ⟨sortS_inj h1, ?_⟩
  have : ∀ {ws us : List Str}, ws.map NestedKey.text = us.map NestedKey.text → ws = us := by
    intro ws us e
    induction ws generalizing us with
    | nil => cases us with
      | nil => rfl
      | cons _ _ => simp at e
    | cons w ws ih => cases us with
      | nil => simp at e
      | cons u us =>
        simp only [List.map_cons, List.cons.injEq, NestedKey.text.injEq] at e
        rw [e.1, ih e.2]
  exact this h2
theorem nodup_key {rs : List Rl} (h : (rs.map Rl.key).Nodup) {a b : Rl} (ha : a ∈ rs) (hb : b ∈ rs) (e : a.ex = b.ex ∧ a.pl = b.pl) : a = b := by
  have k : a.key = b.key := by unfold Rl.key; rw [e.1, e.2]
  induction rs with
  | nil => cases ha
  | cons x rs ih =>
    rw [List.map_cons, List.nodup_cons] at h
    rcases List.mem_cons.mp ha with ea | ha2
    · rcases List.mem_cons.mp hb with eb | hb2
      · rw [ea, eb]
      · exact absurd (by rw [← ea, k]; exact List.mem_map_of_mem hb2) h.1
    · rcases List.mem_cons.mp hb with eb | hb2
      · exact absurd (by rw [← eb, ← k]; exact List.mem_map_of_mem ha2) h.1
      · exact ih h.2 ha2 hb2
/-- what is sorted hangs on the rules alone -/
theorem sortR_eq {rs ts : List Rl} (h : (rs.map Rl.key).Nodup) (p : rs.Perm ts) : sortR rs = sortR ts := by
  refine List.Perm.eq_of_pairwise (le := fun a b => leR a b = true) (fun a b ha hb h1 h2 => ?_) (List.pairwise_mergeSort leR_tot.trans leR_or rs) (List.pairwise_mergeSort leR_tot.trans leR_or ts) ((sortR_perm rs).trans (p.trans (sortR_perm ts).symm))
  exact nodup_key h ((sortR_perm rs).mem_iff.mp ha) (p.mem_iff.mpr ((sortR_perm ts).mem_iff.mp hb)) (leR_anti h1 h2)
theorem sortR_nodup {rs : List Rl} (h : (rs.map Rl.key).Nodup) : ((sortR rs).map Rl.key).Nodup := ((sortR_perm rs).map Rl.key).nodup_iff.mpr h
theorem kd_alike (a b : Rl) : PySem.W.alike a.kd b.kd = true := by
  simp [Rl.kd, PySem.W.alike, PySem.W.alikeAll, alike_key]
theorem kd_bare (a : Rl) : bareB a.kd = true := by
  have h : ∀ ws : List Str, bareAll (ws.map PyData.str) = true := fun ws => by
    induction ws with
    | nil => rfl
    | cons w ws ih => exact ih
  simp [Rl.kd, keyD, wt, bareB, bareAll, h]
theorem kd_deep (a : Rl) : a.kd.depth ≤ 8 := by
  have h := depth_words a.pl
  simp only [Rl.kd, keyD, wt, PyData.depth, PyData.depthAll, h]
  omega
/-! ### rules that stand -/
section
variable {K : PySem.W.Frag} {H H' : Hp}
def AnAt (K : PySem.W.Frag) (H : Hp) (v : V) (b : Bool) : An → Prop
  | .gone => ∃ a, v = .ref a ∧ SqT K H a [.str "gone"]
  | .own z => ∃ a, v = .ref a ∧ SqT K H a [.str (ownS b), .str z]
  | .to ws n => ∃ a c, v = .ref a ∧ SqT K H a [.str "to", .ref c, .int n] ∧ SqT K H c (ws.map V.str)
def RuleAt (K : PySem.W.Frag) (H : Hp) (v : V) (r : Rl) : Prop := ∃ a p x, v = .ref a ∧ SqT K H a [.str (sortS r.ex), .ref p, x] ∧ SqT K H p (r.pl.map V.str) ∧ AnAt K H x r.ex r.an
theorem AnAt.mono {v : V} {b : Bool} {a : An} (z : AnAt K H v b a) (hT : ∀ a xs, SqT K H a xs → SqT K H' a xs) : AnAt K H' v b a := by
  cases a with
  | gone => exact let ⟨c, e, h⟩ := z; ⟨c, e, hT _ _ h⟩
  | own y => exact let ⟨c, e, h⟩ := z; ⟨c, e, hT _ _ h⟩
  | to ws n => exact let ⟨c, d, e, h, h2⟩ := z; ⟨c, d, e, hT _ _ h, hT _ _ h2⟩
theorem RuleAt.mono {v : V} {r : Rl} (z : RuleAt K H v r) (hT : ∀ a xs, SqT K H a xs → SqT K H' a xs) : RuleAt K H' v r :=
  let ⟨a, p, x, e, h1, h2, h3⟩ := z; ⟨a, p, x, e, hT _ _ h1, hT _ _ h2, h3.mono hT⟩
theorem RuleAt.same {v : V} {r : Rl} (z : RuleAt K H v r) (s : Same H H') : RuleAt K H' v r := z.mono fun _ _ q => same_T s q
theorem dp_ws {a : Addr} {ws : List Str} (h : SqT K H a (ws.map V.str)) : Dp K H (.ref a) (wt ws) := .tup h (dp_strs ws)
theorem AnAt.dp {v : V} {b : Bool} {a : An} (z : AnAt K H v b a) : Dp K H v (a.d b) := by
  cases a with
  | gone =>
    obtain ⟨c, rfl, h⟩ := z
    exact .tup h (.cons (.str _) .nil)
  | own y =>
    obtain ⟨c, rfl, h⟩ := z
    exact .tup h (.cons (.str _) (.cons (.str _) .nil))
  | to ws n =>
    obtain ⟨c, d, rfl, h, h2⟩ := z
    exact .tup h (.cons (.str _) (.cons (dp_ws h2) (.cons (.int _) .nil)))
theorem RuleAt.dp {v : V} {r : Rl} (z : RuleAt K H v r) : Dp K H v r.d := by
  obtain ⟨a, p, x, rfl, h1, h2, h3⟩ := z
  exact .tup h1 (.cons (.str _) (.cons (dp_ws h2) (.cons h3.dp .nil)))
theorem dd_strs : ∀ ws : List Str, DdAll K H (ws.map V.str) (ws.map PyData.str)
  | [] => .nil
  | w :: ws => .cons (.str w) (dd_strs ws)
theorem AnAt.dd {v : V} {b : Bool} {a : An} (z : AnAt K H v b a) : Dd K H v (a.d b) := by
  cases a with
  | gone =>
    obtain ⟨c, rfl, h⟩ := z
    exact .tup h (.cons (.str _) .nil)
  | own y =>
    obtain ⟨c, rfl, h⟩ := z
    exact .tup h (.cons (.str _) (.cons (.str _) .nil))
  | to ws n =>
    obtain ⟨c, d, rfl, h, h2⟩ := z
    exact .tup h (.cons (.str _) (.cons (.tup h2 (dd_strs ws)) (.cons (.int _) .nil)))
theorem RuleAt.dd {v : V} {r : Rl} (z : RuleAt K H v r) : Dd K H v r.d := by
  obtain ⟨a, p, x, rfl, h1, h2, h3⟩ := z
  exact .tup h1 (.cons (.str _) (.cons (.tup h2 (dd_strs _)) (.cons h3.dd .nil)))
abbrev Rules (K : PySem.W.Frag) (H : Hp) (xs : List V) (rs : List Rl) : Prop := Paired (RuleAt K H) xs rs
theorem Rules.mono {xs : List V} {rs : List Rl} (z : Rules K H xs rs) (hT : ∀ a xs, SqT K H a xs → SqT K H' a xs) : Rules K H' xs rs := Paired.mono (fun _ _ q => q.mono hT) z
theorem Rules.same {xs : List V} {rs : List Rl} (z : Rules K H xs rs) (s : Same H H') : Rules K H' xs rs := z.mono fun _ _ q => same_T s q
theorem Rules.dp : ∀ {xs : List V} {rs : List Rl}, Rules K H xs rs → DpAll K H xs (rs.map Rl.d)
  | _, _, .nil => .nil
  | _, _, .cons a b => .cons a.dp (Rules.dp b)
theorem Rules.get {xs : List V} {rs : List Rl} (z : Rules K H xs rs) {i : Nat} {v : V} (h : xs[i]? = some v) : ∃ r, rs[i]? = some r ∧ RuleAt K H v r := by
  induction z generalizing i with
  | nil => simp at h
  | cons a b ih =>
    cases i with
    | zero =>
      simp at h
      subst h
      exact ⟨_, rfl, a⟩
    | succ i => exact ih (by simpa using h)
theorem nis_key {p q : Addr} {b : Bool} {ws : List Str} (h : SqT K H p [.str (sortS b), .ref q]) (h2 : SqT K H q (ws.map V.str)) : NIs K H (kOf b ws) (.ref p) := .tup h (.cons (.text _) (.cons (.tup h2 (nall_strs ws)) .nil))
theorem key_deep (b : Bool) (ws : List Str) : (kOf b ws).depth ≤ 8 := by
  have h : ∀ ws : List Str, NestedKey.depthAll (ws.map NestedKey.text) = 0 := fun ws => by
    induction ws with
    | nil => rfl
    | cons w ws ih => simp [NestedKey.depthAll, NestedKey.depth, ih]
  simp only [kOf, NestedKey.depth, NestedKey.depthAll, h]
  omega
end
end K7
namespace K7
open PySem L2 Ld PyProof.Rows
abbrev sAddress : Stmt := top 33
abbrev sRuleOf : Stmt := top 34
def menu4 : List Str := ["a", "b", "aa", "c"]
/-- words of the menu, at most m -/
def Adr4 (m : Nat) (ws : List Str) : Prop := ws.length ≤ m ∧ ∀ z ∈ ws, z ∈ menu4
theorem wd4 {z : Str} (h : z ∈ menu4) : Wd z := show z ∈ wds from of_decide_eq_true (List.all_eq_true.mp (show menu4.all (fun z => decide (z ∈ wds)) = true by decide +kernel) z h)
section
variable {P : Program} {w : World} {K : PySem.W.Frag} {mg : Str → Option Value} {base : Heap} {f : Addr} {fd : FuncData}
def spAddress (K : PySem.W.Frag) : Sp := fun vs H Q _ => ∃ (wa : Addr) (m : Nat), vs = [.ref wa, .int (m : Int)] ∧ m ≤ 20 ∧ Well H wa ∧ ∀ (r : Addr) (ws : List Str) H', SqT K H' r (ws.map V.str) → Adr4 m ws → Well H' wa → Sb wa H H' → Q (.ref r) H'
theorem scAddress : FnScope ["_law_well_here", "_law_most", "_law_turn"] ["_law_well_here", "_law_most"] (defScope sAddress) := ⟨rfl, rfl, rfl, by decide +kernel, rfl, by decide +kernel, by decide +kernel⟩
theorem ok_address (Fd : Fun K "_law_address" "_law_address" sAddress f fd) (T : Tx mg) (D : Df P w K mg base 1 "_law_draw" ["_law_well_here", "_law_many"] spDraw) (C : Df P w K mg base 2 "_law_choose" ["_law_well_here", "_law_things"] (spChoose K)) :
    FnOk P w K mg base CX0 3 f fd ["_law_well_here", "_law_most"] (spAddress K) := by
  refine Fd.ok scAddress (fun vs H Q E h => ?_) (fun cdv A0 outer s H vs Q E hr h => ?_)
  · obtain ⟨wa, m, rfl, _⟩ := h
    rfl
  · obtain ⟨wa, m, rfl, hm, hw, q⟩ := h
    have nd := scAddress.nd
    refine ⟨_, pss_one (ps_ret (pe_callTy call_tuple_of (by rfl) T.tuple (by decide +kernel) (pa_cons (pe_lc (own := [("_law_turn", 2)]) (g := gName 2) (tt := tYes) (by rfl) nd
              (pi_range1 rfl T.range (pa_cons (pe_df D hr (pa_cons (pv 0) (pa_cons (pe_op op_add (pv 1) pe_int) pa_nil))) pa_nil)) (blkOk_by (own := [("_law_turn", 2)]) (N := ["_law_well_here", "_law_most", "_law_turn"]) (sc := defScope sAddress) (by decide +kernel))
              (fun _ _ _ _ _ => pg_name (i := 2) nd rfl (Or.inl rfl)) (fun _ _ _ _ _ => pts_nil) (fun _ _ _ _ _ => pe_df C hr (pa_cons (pv 0) (pa_cons (pe_lst (pa_cons pe_str (pa_cons pe_str (pa_cons pe_str (pa_cons pe_str pa_nil))))) pa_nil)))) pa_nil))), ?_⟩
    refine ⟨_, rfl, _, rfl, _, _, rfl, rfl, wa, (m : Int) + 1, rfl, hw, by omega, by omega, fun k G4 k0 k1 W4 s4 => ⟨k, rfl, by omega, by omega, fun D hD => ?_⟩⟩
    refine lc_range (lo := 0) (n := k.toNat) (fun i G => Sb wa G4 G ∧ Well G wa ∧ ∃ ws : List Str, G D = some (.lst (ws.map V.str)) ∧ (∀ z ∈ ws, z ∈ menu4) ∧ ws.length ≤ i) ⟨.of (Ld.Same.new hD), W4.same (Ld.Same.new hD), [], upd_same, (fun z hz => nomatch hz), Nat.le_refl _⟩ ?_ ?_
    · rintro e G hk ⟨sG4, WG, ws, hDl, hws, hwl⟩
      refine ⟨rfl, ?_⟩
      show tDf (spChoose K) (tCons (tVar 0) (tCons (tLst _) tNil)) _ _ _
      refine ⟨_, rfl, (show 4 ≤ sizeLine by decide), fun pm npm => ?_⟩
      have zm := Same.new (o := .lst (menu4.map V.str)) npm
      refine ⟨wa, pm, menu4.map V.str, rfl, WG.same zm, .of upd_same, by decide, (show 4 ≤ 1000 by decide), fun v G' hv W' s' => ?_⟩
      obtain ⟨z, hz, rfl⟩ := List.mem_map.mp hv
      have neD := WG.lst hDl
      have hD' := s' D _ neD (zm _ _ hDl)
      have hn : ws.length ≤ 20 := by omega
      refine ⟨_, hD', by rw [List.length_map]; exact Nat.lt_of_le_of_lt hn (by decide), fun b o nb eb => ?_, ?_, ws ++ [z], ?_, fun y hy => ?_, by simp; omega⟩
      · rw [upd_ne (ne_of_none eb hD)]
        exact s' b o nb (zm _ _ (sG4 b o nb eb))
      · obtain ⟨d, m, h1, h2⟩ := W'
        exact ⟨d, m, by rw [upd_ne neD.symm]; exact h1, h2⟩
      · rw [upd_same, List.map_append]
        rfl
      · rcases List.mem_append.mp hy with g | g
        · exact hws y g
        · rw [List.mem_singleton.mp g]
          exact hz
    · rintro G ⟨sG4, WG, ws, hDl, hws, hwl⟩
      refine ⟨D, _, rfl, .inl ⟨.of hDl, fun t nt => ?_⟩⟩
      have zt := Same.new (o := .tup (ws.map V.str)) nt
      exact q t ws _ (.of upd_same) ⟨by omega, hws⟩ (WG.same zt) (s4.trans (sG4.trans (.of zt)))
theorem kind_at (b : Bool) : atI [V.str "section", V.str "page"] (if (decide (V.str (sortS b) = V.str "exact")) = true then 1 else 0) = some (.str (ownS b)) := by
  cases b
  · exact at_of (j := 0) (by decide +kernel) rfl
  · exact at_of (j := 1) (by decide +kernel) rfl
theorem wd_home : Wd "home" := by unfold Wd; decide +kernel
theorem wd_s : Wd "s" := by unfold Wd; decide +kernel
def Rl.M4 (r : Rl) : Prop := (∀ z ∈ r.pl, z ∈ menu4) ∧ r.pl.length ≤ 2
def spRuleOf (K : PySem.W.Frag) : Sp := fun vs H Q _ => ∃ (wa : Addr) (m : Nat), vs = [.ref wa, .int (m : Int)] ∧ m ≤ 2 ∧ Well H wa ∧ ∀ (v : V) (r : Rl) H', RuleAt K H' v r → r.Ok → r.M4 → Well H' wa → Sb wa H H' → Q v H'
theorem scRuleOf : FnScope ["_law_well_here", "_law_most", "_law_sort", "_law_place", "_law_way"] ["_law_well_here", "_law_most"] (defScope sRuleOf) := ⟨rfl, rfl, rfl, by decide +kernel, rfl, by decide +kernel, by decide +kernel⟩
theorem ok_ruleOf (Fd : Fun K "_law_rule" "_law_rule" sRuleOf f fd) (T : Tx mg) (D : Df P w K mg base 1 "_law_draw" ["_law_well_here", "_law_many"] spDraw) (C : Df P w K mg base 2 "_law_choose" ["_law_well_here", "_law_things"] (spChoose K))
    (A : Df P w K mg base 3 "_law_address" ["_law_well_here", "_law_most"] (spAddress K)) : FnOk P w K mg base CX0 4 f fd ["_law_well_here", "_law_most"] (spRuleOf K) := by
  refine Fd.ok scRuleOf (fun vs H Q E h => ?_) (fun cdv A0 outer s H vs Q E hr h => ?_)
  · obtain ⟨wa, m, rfl, _⟩ := h
    rfl
  · obtain ⟨wa, m, rfl, hm2, hw, q⟩ := h
    have hm : m ≤ 4 := by omega
    have nd := scRuleOf.nd
    refine ⟨_, pss_cons (ps_par (i := 2) (j := 3) (by rfl) nd rfl rfl (by decide) rfl rfl (pa_cons (pe_df C hr (pa_cons (pv 0) (pa_cons (pe_lst (pa_cons pe_str (pa_cons pe_str (pa_cons pe_str pa_nil)))) pa_nil))) (pa_cons (pe_df A hr (pa_cons (pv 0) (pa_cons (pv 1) pa_nil))) pa_nil)) (by rfl))
      (pss_cons (ps_set (i := 4) nd rfl (Or.inl rfl) (pe_df D hr (pa_cons (pv 0) (pa_cons pe_int pa_nil))))
      (pss_cons (ps_if (pt_cmpR op_eq (pv 4) pe_int (nomark _)) (pss_one (ps_ret (pe_tup (pa_cons (pv 2) (pa_cons (pv 3) (pa_cons (pe_tup (pa_cons pe_str pa_nil)) pa_nil)))))) pss_nil)
      (pss_cons (ps_if (pt_cmpR op_eq (pv 4) pe_int (nomark _)) (pss_one (ps_ret (pe_tup (pa_cons (pv 2) (pa_cons (pv 3) (pa_cons (pe_tup (pa_cons
          (pe_ix ix_list (pe_lst (pa_cons pe_str (pa_cons pe_str pa_nil))) (pe_callTy call_int1 (by rfl) T.int (by decide +kernel) (pa_cons (pe_cmpR op_eq (pv 2) pe_str (nomark _)) pa_nil)) (fun _ _ => rfl))
          (pa_cons (pe_df C hr (pa_cons (pv 0) (pa_cons (pe_lst (pa_cons pe_str (pa_cons pe_str pa_nil))) pa_nil))) pa_nil))) pa_nil)))))) pss_nil)
      (pss_one (ps_ret (pe_tup (pa_cons (pv 2) (pa_cons (pv 3) (pa_cons (pe_tup (pa_cons pe_str (pa_cons (pe_df A hr (pa_cons (pv 0) (pa_cons (pv 1) pa_nil)))
          (pa_cons (pe_df C hr (pa_cons (pv 0) (pa_cons (pe_lst (pa_cons pe_int (pa_cons pe_int (pa_cons pe_int (pa_cons pe_int (pa_cons pe_int pa_nil)))))) pa_nil))) pa_nil)))) pa_nil))))))))), ?_⟩
    refine ⟨_, rfl, (show 3 ≤ sizeLine by decide), fun l hl => ?_⟩
    have yl := Same.new (o := .lst [.str "exact", .str "open", .str "open"]) hl
    refine ⟨wa, l, _, rfl, hw.same yl, .of upd_same, by simp, (show 3 ≤ 1000 by decide), fun v H1 hv W1 s1 => ?_⟩
    have hso : ∃ b : Bool, v = .str (sortS b) := by
      simp only [List.mem_cons, List.not_mem_nil, or_false] at hv
      rcases hv with rfl | rfl | rfl
      · exact ⟨true, rfl⟩
      · exact ⟨false, rfl⟩
      · exact ⟨false, rfl⟩
    obtain ⟨bb, rfl⟩ := hso
    have s01 := (Sb.of (wa := wa) yl).trans s1
    refine ⟨_, rfl, _, rfl, wa, m, rfl, (by omega), W1, fun r ws H2 hws had W2 s2 => ?_⟩
    have s02 := s01.trans s2
    refine ⟨_, _, rfl, _, rfl, wa, 6, rfl, W2, by decide, by decide, fun k H3 k0 k1 W3 s3 => ?_⟩
    have s03 := s02.trans s3
    have h3 := seqT W2 s3 hws
    refine ⟨_, rfl, rfl, _, rfl, ?_⟩
    refine ite2 (fun _ => ?_) (fun _ => ?_)
    · refine ⟨_, rfl, _, rfl, (show 1 ≤ sizeLine by decide), fun t ht => ⟨(show 3 ≤ sizeLine by decide), fun p hp => ?_⟩⟩
      have yt := Same.new (o := .tup [.str "gone"]) ht
      have yp := Same.new (o := .tup [.str (sortS bb), .ref r, .ref t]) hp
      have y := yt.trans yp
      exact q _ ⟨bb, ws, .gone⟩ _ ⟨p, r, .ref t, rfl, .of upd_same, same_T y h3, t, rfl, .of (yp _ _ upd_same)⟩ ⟨Nat.le_trans had.1 hm, fun z hz => wd4 (had.2 z hz), True.intro⟩ ⟨had.2, Nat.le_trans had.1 hm2⟩ (W3.same y) (s03.trans (.of y))
    · refine ⟨_, rfl, rfl, _, rfl, ?_⟩
      refine ite2 (fun _ => ?_) (fun _ => ?_)
      · refine ⟨_, rfl, _, rfl, (show 2 ≤ sizeLine by decide), fun l2 hl2 => ?_⟩
        have y2 := Same.new (o := .lst [.str "section", .str "page"]) hl2
        refine ⟨_, rfl, rfl, .inr ⟨_, rfl, l2, _, _, _, rfl, rfl, .of upd_same, kind_at bb, ?_⟩⟩
        refine ⟨_, rfl, (show 2 ≤ sizeLine by decide), fun l3 hl3 => ?_⟩
        have y3 := Same.new (o := .lst [.str "home", .str "s"]) hl3
        have y23 := y2.trans y3
        refine ⟨wa, l3, _, rfl, W3.same y23, .of upd_same, by simp, (show 2 ≤ 1000 by decide), fun v H5 hv W5 s5 => ?_⟩
        have hn : ∃ n : Str, v = .str n ∧ Wd n := by
          simp only [List.mem_cons, List.not_mem_nil, or_false] at hv
          rcases hv with rfl | rfl
          · exact ⟨_, rfl, wd_home⟩
          · exact ⟨_, rfl, wd_s⟩
        obtain ⟨n, rfl, hn⟩ := hn
        refine ⟨(show 2 ≤ sizeLine by decide), fun t ht => ⟨(show 3 ≤ sizeLine by decide), fun p hp => ?_⟩⟩
        have yt := Same.new (o := .tup [.str (ownS bb), .str n]) ht
        have yp := Same.new (o := .tup [.str (sortS bb), .ref r, .ref t]) hp
        have y := yt.trans yp
        exact q _ ⟨bb, ws, .own n⟩ _ ⟨p, r, .ref t, rfl, .of upd_same, same_T y (seqT (W3.same y23) s5 (same_T y23 h3)), t, rfl, .of (yp _ _ upd_same)⟩ ⟨Nat.le_trans had.1 hm, fun z hz => wd4 (had.2 z hz), hn⟩ ⟨had.2, Nat.le_trans had.1 hm2⟩ (W5.same y) (s03.trans ((Sb.of y23).trans (s5.trans (.of y))))
      · refine ⟨_, rfl, _, rfl, _, rfl, _, rfl, wa, m, rfl, (by omega), W3, fun r2 us H4 hus had2 W4 s4 => ?_⟩
        refine ⟨_, rfl, (show 5 ≤ sizeLine by decide), fun l3 hl3 => ?_⟩
        have y3 := Same.new (o := .lst [.int 0, .int 0, .int 1, .int 3, .int 10000]) hl3
        refine ⟨wa, l3, _, rfl, W4.same y3, .of upd_same, by simp, (show 5 ≤ 1000 by decide), fun v H5 hv W5 s5 => ?_⟩
        have hn : ∃ n : Int, v = .int n ∧ (n = 0 ∨ n = 1 ∨ n = 3 ∨ n = 10000) := by
          simp only [List.mem_cons, List.not_mem_nil, or_false] at hv
          rcases hv with rfl | rfl | rfl | rfl | rfl <;> exact ⟨_, rfl, by omega⟩
        obtain ⟨n, rfl, hn⟩ := hn
        refine ⟨(show 3 ≤ sizeLine by decide), fun t ht => ⟨(show 3 ≤ sizeLine by decide), fun p hp => ?_⟩⟩
        have yt := Same.new (o := .tup [.str "to", .ref r2, .int n]) ht
        have yp := Same.new (o := .tup [.str (sortS bb), .ref r, .ref t]) hp
        have y := yt.trans yp
        exact q _ ⟨bb, ws, .to us n⟩ _ ⟨p, r, .ref t, rfl, .of upd_same, same_T y (seqT (W4.same y3) s5 (same_T y3 (seqT W3 s4 h3))), t, r2, rfl, .of (yp _ _ upd_same), same_T y (seqT (W4.same y3) s5 (same_T y3 hus))⟩ ⟨Nat.le_trans had.1 hm, fun z hz => wd4 (had.2 z hz), Nat.le_trans had2.1 hm, (fun z hz => wd4 (had2.2 z hz)), by omega, by omega⟩ ⟨had.2, Nat.le_trans had.1 hm2⟩ (W5.same y) (s03.trans (s4.trans ((Sb.of y3).trans (s5.trans (.of y)))))
end
end K7
namespace K7
open PySem L2 Ld PyProof.Rows
def meth (i : Nat) : Stmt := match top 25 with
  | .ClassDef _ _ _ body _ _ _ _ _ _ _ => body.getD i (.Pass ⟨0, 0, 0, 0⟩)
  | s => s
abbrev sRK : Stmt := top 24
abbrev sInit : Stmt := meth 0
structure Ty (mg : Str → Option Value) : Prop where
  sorted : mg "sorted" = none
  rev : mg "reversed" = none
  mr : ∃ t, mg "MOST_RULES" = some (.int 40 t)
theorem cutV_two (x y z : V) : cutV [x, y, z] none (some 2) = [x, y] := by
  unfold cutV
  rw [HT.sIx_none, show (2 : Int) = ((2 : Nat) : Int) from rfl, HT.sIx_nat]
  rfl
theorem kGet_snoc (k j : NestedKey) (b : Addr) (v : V) : ∀ rows : List Rw, kGet (rows ++ [(k, b, v)]) j = match kGet rows j with
    | some u => some u
    | none => if k = j then some v else none
  | [] => by
    rw [List.nil_append, kGet_cons]
    rfl
  | x :: rows => by
    rw [List.cons_append, kGet_cons, kGet_cons]
    by_cases h : x.1 = j
    · rw [if_pos h, if_pos h]
    · rw [if_neg h, if_neg h]
      exact kGet_snoc k j b v rows
theorem dc_list {P : Program} {w : World} {K : PySem.W.Frag} {a : Addr} {xs : List V} {g : TG} {tk tv : TE} {vs : List Nat} {σ : L2.St} {H1 : Hp} {D : Addr} {Qd : Hp → Prop} (Pv : Nat → Hp → Prop) (h0 : Pv 0 (upd H1 D (kdO P w D []))) (hl : ∀ i G, i ≤ xs.length → Pv i G → SqL K G a xs)
    (hs : ∀ i x G, xs[i]? = some x → Pv i G → g x (wipe σ vs) G fun σ2 G2 => wipe σ2 vs = wipe σ vs ∧ tk σ2 G2 fun y G4 => tv σ2 G4 fun z G5 => moreN P w K D y z G5 (Pv (i + 1))) (hd : ∀ G, Pv xs.length G → Qd G) :
    ∃ W : Nat → Nat → Hp → Prop, (∃ m, W 0 m (upd H1 D (kdO P w D []))) ∧ ∀ i m G, W i m G → ((Itl K a).stop i G ∧ Qd G) ∨ ((Itl K a).go i G ∧ ∃ Nx : Hp → Prop, (∀ G', Nx G' → ∃ m', m' < m ∧ W (i + 1) m' G') ∧
      ∀ x G', (Itl K a).yld i G x G' → g x (wipe σ vs) G' fun σ2 G2 => wipe σ2 vs = wipe σ vs ∧ tk σ2 G2 fun y G4 => tv σ2 G4 fun z G5 => moreN P w K D y z G5 Nx) := by
  refine ⟨fun i m G => m + i = xs.length ∧ Pv i G, ⟨xs.length, rfl, h0⟩, fun i m G ⟨e, p⟩ => ?_⟩
  have q := hl i G (by omega) p
  by_cases hlt : i < xs.length
  · refine Or.inr ⟨⟨xs, xs[i], q, List.getElem?_eq_getElem hlt⟩, Pv (i + 1), fun G' p' => ⟨m - 1, by omega, by omega, p'⟩, fun x G' y => ?_⟩
    obtain ⟨rfl, y⟩ := y
    exact hs i x G' (y xs q) p
  · have e2 : i = xs.length := by omega
    subst e2
    exact Or.inl ⟨⟨xs, q, Nat.le_refl _⟩, hd G p⟩
theorem sqT_kd {P : Program} {w : World} {K : PySem.W.Frag} {G : Hp} {D p : Addr} {r1 r2 : List Rw} {xs : List V} (hD : G D = some (kdO P w D r1)) (h : SqT K G p xs) : SqT K (upd G D (kdO P w D r2)) p xs := by
  rcases h with (h | ⟨o, h⟩) | h
  · exact .inl (.inl ((upd_ne (ne_of h hD fun e => nomatch e)).trans h))
  · exact .inl (.inr ⟨o, (upd_ne (ne_of h hD fun e => nomatch e)).trans h⟩)
  · exact .inr h
theorem rules_zip {K : PySem.W.Frag} {H : Hp} : ∀ {xs : List V} {rs : List Rl}, Rules K H xs rs → ∀ q ∈ xs.zip rs, RuleAt K H q.1 q.2
  | _, _, .nil, q, h => nomatch h
  | _, _, .cons a b, q, h => by
    rcases List.mem_cons.mp h with rfl | h
    · exact a
    · exact rules_zip b q h
theorem rules_of {K : PySem.W.Frag} {H : Hp} : ∀ {l : List (V × Rl)}, (∀ q ∈ l, RuleAt K H q.1 q.2) → Rules K H (l.map (·.1)) (l.map (·.2))
  | [], _ => .nil
  | q :: l, h => .cons (h q List.mem_cons_self) (rules_of fun p hp => h p (List.mem_cons_of_mem _ hp))
def zOf (q : V × Rl) : V × PyData := (q.1, q.2.kd)
theorem zip_fst {α β : Type} : ∀ {xs : List α} {rs : List β}, xs.length = rs.length → (xs.zip rs).map (·.1) = xs ∧ (xs.zip rs).map (·.2) = rs
  | [], [], _ => ⟨rfl, rfl⟩
  | [], _ :: _, h => by simp at h
  | _ :: _, [], h => by simp at h
  | x :: xs, r :: rs, h => by
    obtain ⟨h1, h2⟩ := zip_fst (xs := xs) (rs := rs) (by simpa using h)
    exact ⟨congrArg (x :: ·) h1, congrArg (r :: ·) h2⟩
theorem sorted_rules {K : PySem.W.Frag} {H : Hp} {xs : List V} {rs : List Rl} (z : Rules K H xs rs) : Rules K H ((((xs.zip rs).map zOf).mergeSort (PySem.W.dataLe false Prod.snd)).map Prod.fst) (sortR rs) := by
  have e1 := List.map_mergeSort (r := fun a b : V × Rl => leR a.2 b.2) (s := PySem.W.dataLe false Prod.snd) (f := zOf) (l := xs.zip rs) (fun a _ b _ => rfl)
  have e2 := List.map_mergeSort (r := fun a b : V × Rl => leR a.2 b.2) (s := leR) (f := fun q => q.2) (l := xs.zip rs) (fun a _ b _ => rfl)
  rw [(zip_fst z.length).2] at e2
  unfold sortR
  rw [← e1, ← e2, List.map_map]
  exact rules_of fun q hq => rules_zip z q ((List.mergeSort_perm _ _).mem_iff.mp hq)
theorem sqT_ins {K : PySem.W.Frag} {G : Hp} {a C p dx : Addr} {f1 f2 : List (Str × V)} {xs : List V} (h0 : G a = some (.ins C dx f1)) (h : SqT K G p xs) : SqT K (upd G a (.ins C dx f2)) p xs := by
  rcases h with (h | ⟨o, h⟩) | h
  · exact .inl (.inl ((upd_ne (ne_of h h0 fun e => nomatch e)).trans h))
  · exact .inl (.inr ⟨o, (upd_ne (ne_of h h0 fun e => nomatch e)).trans h⟩)
  · exact .inr h
theorem boot_sorted : bootBuiltins "sorted" = some (.builtin "sorted") := by decide +kernel
section
variable {X : Cx}
theorem _root_.L2.FunD.ok0 {P : Program} {w : World} {K : PySem.W.Frag} {mg : Str → Option Value} {base : Heap} {x qual : Str} {params : Arguments} {body : List Stmt} {scope : Scope} {dvs : List V} {kws : List (Str × V)} {f : Addr} {fd : FuncData} {N ps : List Str} {k : Nat} {sp : Sp}
    (F : FunD K x qual params body scope dvs kws f fd) (S : FnScope N ps scope) (len : ∀ vs H Q E, sp vs H Q E → vs.length = ps.length)
    (hb : ∀ (cdv : Value) (A : Around) (outer : List Env) (s : Shared) (H : Hp) (vs : List V) (Q : VK) (E : XK), Room k (A.deeper (envOfC qual scope s.heap.objs.size f cdv)) → sp vs H Q E →
      ∃ t, PSs (cxOf CX0 P w K mg base N qual scope f cdv A outer s H E).nox body t ∧ t { nx := fun _ H' => Q .non H', rt := Q } (start N vs) H) : FnOk P w K mg base CX0 (k + 1) f fd ps sp :=
  F.ok S len fun cdv A outer s H vs Q E hr hsp => let ⟨t, h, q⟩ := hb cdv A outer s H vs Q E hr hsp; ⟨t, h.nox, q⟩
theorem pss_dead {sts : List Stmt} : PSs X sts (fun _ _ _ => False) := ⟨fun _ _ _ _ _ _ h => h.elim⟩
end
section
variable {P : Program} {w : World} {K : PySem.W.Frag} {mg : Str → Option Value} {base : Heap} {f : Addr} {fd : FuncData}
def spRK (K : PySem.W.Frag) : Sp := fun vs H Q _ => ∃ (v : V) (r : Rl), vs = [v] ∧ RuleAt K H v r ∧ ∀ y H', Same H H' → Dp K H' y r.kd → Q y H'
theorem scRK : FnScope ["rule"] ["rule"] (defScope sRK) := ⟨rfl, rfl, rfl, by decide +kernel, rfl, by decide +kernel, by decide +kernel⟩
theorem ok_ruleKey (Fd : Fun K "rule_key" "rule_key" sRK f fd) (T : Tx mg) (DK : Df P w K mg base 1 "address_key" ["address"] (spKey K)) : FnOk P w K mg base CX0 2 f fd ["rule"] (spRK K) := by
  refine Fd.ok scRK (fun vs H Q E h => ?_) (fun cdv A outer s H vs Q E hr h => ?_)
  · obtain ⟨v, r, rfl, _⟩ := h
    rfl
  · obtain ⟨v, r, rfl, ⟨a, p, x, rfl, h1, h2, h3⟩, q⟩ := h
    refine ⟨_, pss_one (ps_ret (pe_tup (pa_cons (pe_df DK hr (pa_cons (pe_ix ix_tup (pv 0) pe_int (fun _ _ => rfl)) pa_nil)) (pa_cons (pe_ix ix_tup (pv 0) pe_int (fun _ _ => rfl)) pa_nil)))), ?_⟩
    refine ⟨_, rfl, a, _, _, _, rfl, rfl, h1, at1, p, r.pl, rfl, h2, fun y H1 s1 d1 => ⟨_, rfl, a, _, _, _, rfl, rfl, same_T s1 h1, at0, (show 2 ≤ sizeLine by decide), fun t ht => ?_⟩⟩
    have s2 := Same.new (o := .tup [.ref y, .str (sortS r.ex)]) ht
    exact q _ _ (s1.trans s2) (.tup (.of upd_same) (.cons (dp_same s2 d1) (.cons (.str _) .nil)))
/-! ### a table that stands -/
def rowsFit (K : PySem.W.Frag) (H : Hp) (rows : List Rw) (rs : List Rl) : Prop := (∀ k v, kGet rows k = some v → ∃ r ∈ rs, r.key = k ∧ RuleAt K H v r) ∧ ∀ r ∈ rs, (kGet rows r.key).isSome = true
structure Good (rs : List Rl) : Prop where
  ok : ∀ r ∈ rs, r.Ok
  few : rs.length ≤ 40
  one : (rs.map Rl.key).Nodup
def Longest (rs : List Rl) (m : Int) : Prop := 0 ≤ m ∧ m ≤ 4 ∧ ∀ r ∈ rs, (r.pl.length : Int) ≤ m
def TabAt (P : Program) (w : World) (K : PySem.W.Frag) (CT : Addr) (H : Hp) (a : Addr) (rs : List Rl) : Prop := ∃ (dx t d : Addr) (xs : List V) (rows : List Rw) (m : Int), H a = some (.ins CT dx [("_rules", .ref t), ("_found", .ref d), ("_longest", .int m)]) ∧ SqT K H t xs ∧ Rules K H xs rs ∧ Good rs ∧ KD P w K H d rows ∧ rowsFit K H rows rs ∧ Longest rs m
theorem rowsFit.mono {H H' : Hp} {rows : List Rw} {rs : List Rl} (z : rowsFit K H rows rs) (hT : ∀ a xs, SqT K H a xs → SqT K H' a xs) : rowsFit K H' rows rs := ⟨fun k v e => let ⟨r, h1, h2, h3⟩ := z.1 k v e; ⟨r, h1, h2, h3.mono hT⟩, z.2⟩
theorem TabAt.same {H H' : Hp} {CT a : Addr} {rs : List Rl} (z : TabAt P w K CT H a rs) (s : Same H H') : TabAt P w K CT H' a rs :=
  let ⟨dx, t, d, xs, rows, m, h1, h2, h3, h4, h5, h6, h7⟩ := z; ⟨dx, t, d, xs, rows, m, s _ _ h1, same_T s h2, h3.same s, h4, h5.same s, (h6.mono fun _ _ q => same_T s q), h7⟩
/-- what the class is -/
structure Tcl (K : PySem.W.Frag) (CT : Addr) : Prop where
  cls : Cls K CT
  no1 : NoAttr K CT "_rules"
  no2 : NoAttr K CT "_found"
  no3 : NoAttr K CT "_longest"
def spInit (P : Program) (w : World) (K : PySem.W.Frag) (CT : Addr) : Sp := fun vs H Q _ => ∃ (a dx la : Addr) (xs : List V) (rs : List Rl), vs = [.ref a, .ref la] ∧ H a = some (.ins CT dx []) ∧ SqL K H la xs ∧ Rules K H xs rs ∧ Good rs ∧
  ∀ H', (∀ b o, b ≠ a → H b = some o → H' b = some o) → TabAt P w K CT H' a (sortR rs) → Q .non H'
theorem scTab : FnScope ["self", "rules", "rule", "found"] ["self", "rules"] (defScope sInit) := ⟨rfl, rfl, rfl, by decide +kernel, rfl, by decide +kernel, by decide +kernel⟩
theorem ok_init {CT : Addr} {dvs : List V} (Fd : FunD K "__init__" "Table.__init__" (defArgs sInit) (defBody sInit) (defScope sInit) dvs [] f fd) (T : Tx mg) (Y : Ty mg) (C : Tcl K CT) (DR : Df P w K mg base 5 "is_rule" ["value"] (spRule K)) (DK : Df P w K mg base 2 "rule_key" ["rule"] (spRK K)) :
    FnOk P w K mg base CX0 6 f fd ["self", "rules"] (spInit P w K CT) := by
  refine Fd.ok0 scTab (fun vs H Q E h => ?_) (fun cdv A outer s H vs Q E hr h => ?_)
  · obtain ⟨a, dx, la, xs, rs, rfl, _⟩ := h
    rfl
  · obtain ⟨a, dx, la, xs, rs, rfl, ha, hl, hR, hG, q⟩ := h
    obtain ⟨tm, hm⟩ := Y.mr
    obtain ⟨fk, fdk, gk, kk, bk, FK⟩ := DK.ex
    have hu : (A.deeper (envOfC "Table.__init__" (defScope sInit) s.heap.objs.size f cdv)).units + 64 < cLine := hr.units
    have nd := scTab.nd
    refine ⟨_, pss_cons (ps_for PassesOwn.never rfl (pi_list (pv 1)) (pg_name (i := 2) nd rfl (Or.inl rfl)) (pss_one (ps_if (pt_not (pt_val (pe_df DR hr (pa_cons (pv 2) pa_nil)))) pss_dead pss_nil)))
      (pss_cons (ps_setDcN (i := 3) (own := [("rule", 2)]) (g := gName 2) (Nat.lt_of_le_of_lt (Nat.add_le_add_left (by decide) _) hr.units) (by rfl) nd rfl rfl (sw_dict rfl rfl rfl rfl) (pi_list (pv 1)) (blkOk_by (own := [("rule", 2)]) (N := ["self", "rules", "rule", "found"]) (sc := defScope sInit) (by decide +kernel))
          (fun _ _ _ _ _ => pg_name (i := 2) nd rfl (Or.inl rfl)) (fun _ _ _ _ _ => pe_slice (r := rSlW K) sl_tupK (pv 2) po_none (po_some pe_int)) (fun _ _ _ _ _ => pv 2))
      (pss_cons (ps_if (PW.pt (pw_or (pt_cmpR op_gt (pe_callB call_len_seq (by rfl) T.len PySem.boot_len (pa_cons (pv 1) pa_nil)) (pe_glob (v := .int 40) (by rfl) hm ⟨_, rfl⟩) (nomark _))
          (pw_or1 (pt_cmpR op_lt (pe_callB call_lenN (by rfl) T.len PySem.boot_len (pa_cons (pv 3) pa_nil)) (pe_callB call_len_seq (by rfl) T.len PySem.boot_len (pa_cons (pv 1) pa_nil)) (nomark _))))) pss_dead pss_nil)
      (pss_cons (ps_fld (pv 0) (pe_callTy call_tuple_of (by rfl) T.tuple (by decide +kernel) (pa_cons (pe_callBK (cr_sortK FK (hr.mono (by decide)) bk) (by rfl) Y.sorted boot_sorted (pa_cons (pv 1) pa_nil) (pk_cons (pe_glob (v := .ref fk) (by rfl) gk rfl) pk_nil)) pa_nil)) rfl)
      (pss_cons (ps_fld (pv 0) (pv 3) rfl)
      (pss_one (ps_fld (pv 0) (pe_callBK (cr_maxDf rfl (Nat.lt_of_le_of_lt (Nat.add_le_add_left (by decide) _) hr.units)) (by rfl) T.max PyProof.Rows.boot_max (pa_cons (pe_lc (own := [("rule", 2)]) (g := gName 2) (tt := tYes) (by rfl) nd (pi_list (pv 1)) (blkOk_by (own := [("rule", 2)]) (N := ["self", "rules", "rule", "found"]) (sc := defScope sInit) (by decide +kernel))
        (fun _ _ _ _ _ => pg_name (i := 2) nd rfl (Or.inl rfl)) (fun _ _ _ _ _ => pts_nil) (fun _ _ _ _ _ => pe_callB (r := rLenK K) call_lenK (by rfl) T.len PySem.boot_len (pa_cons (pe_ix (r := rIxT K) ix_tupK (pv 2) pe_int (fun _ _ => rfl)) pa_nil))) pa_nil) (pk_cons pe_int pk_nil)) rfl)))))), ?_⟩
    refine ⟨_, rfl, la, rfl, ⟨_, hl⟩, for_list (K := K) (a := la) (xs := xs) (fun j σ G => G = H ∧ ∃ u, σ = [some (.ref a), some (.ref la), u, none]) ⟨rfl, none, rfl⟩ (fun j σ G _ h => by rw [h.1]; exact hl) ?_ ?_⟩
    · rintro j x σ G hx ⟨rfl, u, rfl⟩
      obtain ⟨r, h1, h2⟩ := hR.get hx
      have hk := hG.ok r (List.mem_of_getElem? h1)
      refine ⟨_, rfl, x, r.d, rfl, h2.dd, hk.fit, _, rfl, ?_⟩
      rw [hk.rule]
      exact iteF ⟨rfl, _, rfl⟩
    · rintro σ G ⟨rfl, u, rfl⟩
      refine ⟨_, rfl, la, rfl, ⟨_, hl⟩, fun D hD low => ?_⟩
      refine dc_list (K := K) (a := la) (xs := xs) (fun i G1 => Same G G1 ∧ ∃ rows, KD P w K G1 D rows ∧ rows.length = i ∧ rowsFit K G1 rows (rs.take i)) ⟨Same.new hD, [], ⟨upd_same, low, Nat.zero_le _, fun x hx => nomatch hx⟩, rfl, (fun k v e => nomatch e), fun r hr => by rw [List.take_zero] at hr; cases hr⟩
        (fun i G1 _ h => h.1.seq hl) ?_ ?_
      · rintro i x G1 hx ⟨s1, rows, kd, hn, fit⟩
        obtain ⟨r, h1, h2⟩ := hR.get hx
        have hi : i < rs.length := (List.getElem?_eq_some_iff.mp h1).1
        obtain ⟨ra, rp, ry, rfl, t1, t2, t3⟩ := h2.same s1
        refine ⟨rfl, ?_⟩
        refine ⟨_, rfl, _, rfl, ra, _, rfl, t1, fun kp G2 s2 k1 => ⟨_, rfl, ?_⟩⟩
        rw [cutV_two] at k1
        have t4 := same_T s2 t2
        have kd2 := kd.same s2
        have r2 : RuleAt K G2 (.ref ra) r := ⟨ra, rp, ry, rfl, same_T s2 t1, t4, AnAt.mono t3 fun _ _ q => same_T s2 q⟩
        have fit2 : rowsFit K G2 rows (rs.take i) := fit.mono fun _ _ q => same_T s2 q
        have no : kGet rows r.key = none := by
          cases e : kGet rows r.key with
          | none => rfl
          | some v =>
            obtain ⟨r', hr', ek, _⟩ := fit.1 _ _ e
            obtain ⟨j, hj⟩ := List.getElem?_of_mem hr'
            have hji : j < i := by
              have := (List.getElem?_eq_some_iff.mp hj).1
              rw [List.length_take] at this
              omega
            rw [List.getElem?_take, if_pos hji] at hj
            have e1 : (rs.map Rl.key)[j]? = some r.key := by rw [List.getElem?_map, hj]; exact congrArg some ek
            have e2 : (rs.map Rl.key)[i]? = some r.key := by rw [List.getElem?_map, h1]; rfl
            have := (List.getElem?_inj (by rw [List.length_map]; omega) hG.one).mp (e1.trans e2.symm)
            omega
        have put : kPut rows r.key kp (.ref ra) = rows ++ [(r.key, kp, .ref ra)] := by
          unfold kPut
          rw [no]
          rfl
        have hT : ∀ b ys, SqT K G2 b ys → SqT K (upd G2 D (kdO P w D (kPut rows r.key kp (.ref ra)))) b ys := fun b ys z => sqT_kd kd2.at_ z
        refine ⟨kp, r.key, rows, rfl, nis_key k1 t4, key_deep _ _, kd2, fun b o e => ?_, kPut rows r.key kp (.ref ra), ⟨upd_same, low, ?_, fun y hy => ?_⟩, by rw [put]; simp [hn], fun k v e => ?_, fun r' hr' => ?_⟩
        · rw [upd_ne (ne_of_none e hD)]
          exact s2 _ _ (s1 b o e)
        · have h40 := hG.few
          rw [put, List.length_append, hn]
          simp
          omega
        · rw [put] at hy
          rcases List.mem_append.mp hy with hy | hy
          · exact ⟨nis_mono hT (kd2.key y hy).1, (kd2.key y hy).2⟩
          · rw [List.mem_singleton.mp hy]
            exact ⟨nis_mono hT (nis_key k1 t4), key_deep _ _⟩
        · rw [put, kGet_snoc] at e
          have tk : rs.take (i + 1) = rs.take i ++ [r] := by rw [List.take_add_one, h1]; rfl
          cases e3 : kGet rows k with
          | some u =>
            rw [e3] at e
            cases e
            obtain ⟨r', m1, m2, m3⟩ := fit2.1 k v e3
            exact ⟨r', by rw [tk]; exact List.mem_append_left _ m1, m2, m3.mono hT⟩
          | none =>
            rw [e3] at e
            by_cases ek : r.key = k
            · rw [if_pos ek] at e
              cases e
              exact ⟨r, by rw [tk]; simp, ek, r2.mono hT⟩
            · rw [if_neg ek] at e
              cases e
        · rw [put, kGet_snoc]
          cases e3 : kGet rows r'.key with
          | some u => rfl
          | none =>
            rw [List.take_add_one, h1] at hr'
            rcases List.mem_append.mp hr' with m | m
            · have := fit.2 r' m
              rw [e3] at this
              cases this
            · have e4 : r' = r := by simpa using m
              rw [e4, if_pos rfl]
              rfl
      · rintro G1 ⟨s1, rows, kd, hn, fit⟩
        have ln := hR.length
        have few := hG.few
        rw [List.take_of_length_le (by omega)] at fit
        refine ⟨_, rfl, la, xs, rfl, .inl (s1.seq hl), _, _, rfl, rfl, _, rfl, ?_⟩
        rw [decide_eq_false (by omega)]
        refine iteF ⟨_, rfl, D, rows, rfl, kd, _, rfl, la, xs, rfl, .inl (s1.seq hl), _, _, rfl, rfl, _, rfl, ?_⟩
        rw [decide_eq_false (by omega)]
        have zz := zip_fst ln
        have hR1 := hR.same s1
        refine iteF ⟨_, rfl, la, (xs.zip rs).map zOf, rfl, rfl, ?_, ?_, ?_, ?_, ?_, fun H2 q1 s2 hq nq => ⟨q1, _, rfl, .inl ⟨.of upd_same, fun t ht => ⟨_, rfl, a, CT, dx, [], rfl, ?_, C.cls, C.no1, (by decide), ?_⟩⟩⟩⟩
        · rw [List.map_map]
          show SqL K G1 la ((xs.zip rs).map (·.1))
          rw [zz.1]
          exact s1.seq hl
        · rw [List.length_map, List.length_zip]
          omega
        · intro d hd d' hd'
          simp only [List.map_map, List.mem_map] at hd hd'
          obtain ⟨p1, _, rfl⟩ := hd
          obtain ⟨p2, _, rfl⟩ := hd'
          exact kd_alike _ _
        · refine .inl fun d hd => ?_
          simp only [List.map_map, List.mem_map] at hd
          obtain ⟨p1, _, rfl⟩ := hd
          exact ⟨_, _, rfl⟩
        · intro z hz
          obtain ⟨p1, hp, rfl⟩ := List.mem_map.mp hz
          exact ⟨kd_bare _, kd_deep _, fun H1 sH => ⟨p1.1, p1.2, rfl, (rules_zip hR1 p1 hp).same sH, fun y H' sy dy => ⟨sy, dy⟩⟩⟩
        · exact (Same.new ht) _ _ ((Same.new hq) _ _ (s2 _ _ (s1 _ _ ha)))
        have s3 := s2.trans ((Same.new (o := .lst ((((xs.zip rs).map zOf).mergeSort (PySem.W.dataLe false Prod.snd)).map Prod.fst)) hq).trans (Same.new (o := .tup ((((xs.zip rs).map zOf).mergeSort (PySem.W.dataLe false Prod.snd)).map Prod.fst)) ht))
        have ht3 := upd_same (H := upd H2 q1 (.lst ((((xs.zip rs).map zOf).mergeSort (PySem.W.dataLe false Prod.snd)).map Prod.fst))) (a := t) (o := .tup ((((xs.zip rs).map zOf).mergeSort (PySem.W.dataLe false Prod.snd)).map Prod.fst))
        have hR3 := sorted_rules (hR1.same s3)
        generalize (((xs.zip rs).map zOf).mergeSort (PySem.W.dataLe false Prod.snd)).map Prod.fst = ys at s3 ht3 hR3 ⊢
        generalize upd (upd H2 q1 (.lst ys)) t (.tup ys) = G3 at s3 ht3 hR3 ⊢
        have ha3 : G3 a = some (.ins CT dx []) := s3 _ _ (s1 _ _ ha)
        refine ⟨_, rfl, _, rfl, a, CT, dx, _, rfl, upd_same, C.cls, C.no2, (show 1 < 1000 by decide), ?_⟩
        have hT : ∀ b zs, SqT K G3 b zs → SqT K (upd (upd G3 a (.ins CT dx (putF "_rules" (.ref t) []))) a (.ins CT dx (putF "_found" (.ref D) (putF "_rules" (.ref t) [])))) b zs := fun b zs z => sqT_ins (upd_same) (sqT_ins ha3 z)
        have hD3 : G3 D = some (kdO P w D rows) := s3 _ _ kd.at_
        have nDa : D ≠ a := ne_of hD3 ha3 fun e => nomatch e
        have off : ∀ b o, b ≠ a → G3 b = some o → (upd (upd G3 a (.ins CT dx (putF "_rules" (.ref t) []))) a (.ins CT dx (putF "_found" (.ref D) (putF "_rules" (.ref t) [])))) b = some o := fun b o nb e => by
          rw [upd_ne nb, upd_ne nb]
          exact e
        have at4 := upd_same (H := upd G3 a (.ins CT dx (putF "_rules" (.ref t) []))) (a := a) (o := .ins CT dx (putF "_found" (.ref D) (putF "_rules" (.ref t) [])))
        have hl4 : SqL K (upd (upd G3 a (.ins CT dx (putF "_rules" (.ref t) []))) a (.ins CT dx (putF "_found" (.ref D) (putF "_rules" (.ref t) [])))) la xs := by
          rcases s3.seq (s1.seq hl) with (h | ⟨o, h⟩) | h
          · exact .inl (.inl (off _ _ (ne_of h ha3 fun e => nomatch e) h))
          · exact .inl (.inr ⟨o, off _ _ (ne_of h ha3 fun e => nomatch e) h⟩)
          · exact .inr h
        have hR4 := (hR1.same s3).mono hT
        generalize upd (upd G3 a (.ins CT dx (putF "_rules" (.ref t) []))) a (.ins CT dx (putF "_found" (.ref D) (putF "_rules" (.ref t) []))) = G4 at hT off at4 hl4 hR4 ⊢
        refine ⟨_, rfl, la, rfl, ⟨_, hl4⟩, fun L hL => ?_⟩
        refine lc_list (K := K) (a := la) (xs := xs) (fun i G5 => Same G4 G5 ∧ G5 L = some (.lst (((rs.take i).map fun r => (r.pl.length : Int)).map V.int))) ⟨Same.new hL, upd_same⟩ (fun i G5 _ h => h.1.seq hl4) ?_ ?_
        · rintro i x G5 hx ⟨s5, h5⟩
          obtain ⟨r, h1, h2⟩ := hR4.get hx
          have hi : i < rs.length := (List.getElem?_eq_some_iff.mp h1).1
          obtain ⟨ra, rp, ry, rfl, t1, t2, t3⟩ := h2.same s5
          refine ⟨rfl, ?_⟩
          show tCB (rLenK K) (tCons (tOp (rIxT K) (tVar 2) (tC (V.int 1))) tNil) _ _ _
          refine ⟨_, rfl, ra, _, _, _, rfl, rfl, t1, at1, rp, _, rfl, .inr t2, _, h5, ?_, ?_⟩
          · rw [List.length_map, List.length_map, List.length_take]
            exact Nat.lt_of_le_of_lt (show min i rs.length ≤ 40 by omega) (by decide)
          · have e : ((rs.take (i + 1)).map fun r => (r.pl.length : Int)).map V.int = ((rs.take i).map fun r => (r.pl.length : Int)).map V.int ++ [V.int ((r.pl.map V.str).length : Int)] := by
              rw [List.take_add_one, h1, List.length_map]
              simp
            refine ⟨fun b o eb => ?_, ?_⟩
            · rw [upd_ne (ne_of_none eb hL)]
              exact s5 _ _ eb
            · rw [upd_same, e]
        · rintro G5 ⟨s5, h5⟩
          rw [List.take_of_length_le (by omega)] at h5
          refine ⟨L, rs.map fun r => (r.pl.length : Int), 0, rfl, rfl, .of h5, fun m m0 m1 m2 => ?_⟩
          have hlong : Longest rs m := by
            refine ⟨?_, ?_, fun r hr => m2 _ (List.mem_map.mpr ⟨r, hr, rfl⟩)⟩
            · cases rs with
              | nil => rw [m0 rfl]; decide
              | cons r rs => exact Int.le_trans (Int.ofNat_nonneg _) (m2 _ (List.mem_map.mpr ⟨r, List.mem_cons_self, rfl⟩))
            · cases rs with
              | nil => rw [m0 rfl]; decide
              | cons r rs =>
                obtain ⟨r2, hr2, e2⟩ := List.mem_map.mp (m1 (by simp))
                rw [← e2]
                have := (hG.ok r2 hr2).len
                omega
          refine ⟨_, rfl, a, CT, dx, _, rfl, s5 _ _ at4, C.cls, C.no3, (show 2 < 1000 by decide), ?_⟩
          have hT5 : ∀ b zs, SqT K G3 b zs → SqT K (upd G5 a (.ins CT dx (putF "_longest" (.int m) (putF "_found" (.ref D) (putF "_rules" (.ref t) []))))) b zs := fun b zs z => sqT_ins (s5 _ _ at4) (same_T s5 (hT _ _ z))
          refine q _ (fun b o nb e => ?_) ⟨dx, t, D, ys, rows, m, ?_, hT5 _ _ (.of ht3), hR3.mono hT5, ⟨fun r hr => hG.ok r ((sortR_perm rs).mem_iff.mp hr), by rw [(sortR_perm rs).length_eq]; exact hG.few, sortR_nodup hG.one⟩, ⟨?_, low, kd.few, fun x hx => ⟨nis_mono (fun b zs z => hT5 b zs (same_T s3 z)) (kd.key x hx).1, (kd.key x hx).2⟩⟩, ?_, ⟨hlong.1, hlong.2.1, fun r hr => hlong.2.2 r ((sortR_perm rs).mem_iff.mp hr)⟩⟩
          · rw [upd_ne nb]
            exact s5 _ _ (off _ _ nb (s3 _ _ (s1 _ _ e)))
          · rw [upd_same]
            rfl
          · rw [upd_ne nDa]
            exact s5 _ _ (off _ _ nDa hD3)
          · have f3 := fit.mono fun b zs z => hT5 b zs (same_T s3 z)
            exact ⟨fun k v e => let ⟨r, m1, m2, m3⟩ := f3.1 k v e; ⟨r, (sortR_perm rs).mem_iff.mpr m1, m2, m3⟩, fun r hr => f3.2 r ((sortR_perm rs).mem_iff.mp hr)⟩
end
end K7
namespace K7
open PySem L2 Ld PyProof.Rows
abbrev sRules : Stmt := meth 1
abbrev sLen : Stmt := meth 2
abbrev sEq : Stmt := meth 4
abbrev sFor : Stmt := meth 6
/-! ### == of rules -/
theorem eqv_str (x y : Str) : PyData.eqv (.str x) (.str y) = decide (x = y) := by
  simp only [PyData.eqv]
  by_cases h : x = y
  · subst h
    simp
  · rw [decide_eq_false h]
    exact beq_eq_false_iff_ne.mpr h
theorem eqv_int (x y : Int) : PyData.eqv (.int x) (.int y) = decide (x = y) := by
  simp only [PyData.eqv]
  by_cases h : x = y
  · subst h
    simp
  · rw [decide_eq_false h]
    exact beq_eq_false_iff_ne.mpr h
theorem beq_str (x y : Str) : (x == y) = decide (x = y) := by
  by_cases h : x = y
  · subst h
    simp
  · rw [decide_eq_false h]
    exact beq_eq_false_iff_ne.mpr h
theorem beq_int (x y : Int) : (x == y) = decide (x = y) := by
  by_cases h : x = y
  · subst h
    simp
  · rw [decide_eq_false h]
    exact beq_eq_false_iff_ne.mpr h
theorem eqv_an (b : Bool) (x y : An) : PyData.eqv (x.d b) (y.d b) = decide (x = y) := by
  have w1 : ¬ (("gone" : Str) = ownS b) := by cases b <;> decide +kernel
  cases x <;> cases y <;> simp [An.d, PyData.eqv, PyData.eqvAll, eqv_wt, beq_str, beq_int]
theorem eqv_rl (x y : Rl) : PyData.eqv x.d y.d = decide (x = y) := by
  obtain ⟨e1, p1, a1⟩ := x
  obtain ⟨e2, p2, a2⟩ := y
  show (PyData.eqv (.str (sortS e1)) (.str (sortS e2)) && (PyData.eqv (wt p1) (wt p2) && (PyData.eqv (a1.d e1) (a2.d e2) && true))) = _
  rw [eqv_str, eqv_wt, Bool.and_true]
  by_cases h : e1 = e2
  · subst h
    rw [eqv_an, decide_eq_true rfl, Bool.true_and]
    by_cases h2 : p1 = p2
    · subst h2
      by_cases h3 : a1 = a2
      · subst h3
        simp
      · rw [decide_eq_false h3, Bool.and_false, decide_eq_false fun e => h3 (by injection e)]
    · rw [decide_eq_false h2, Bool.false_and, decide_eq_false fun e => h2 (by injection e)]
  · rw [decide_eq_false fun e => h (sortS_inj e), Bool.false_and, decide_eq_false fun e => h (by injection e)]
theorem eqv_rls : ∀ xs ys : List Rl, PyData.eqvAll (xs.map Rl.d) (ys.map Rl.d) = decide (xs = ys)
  | [], [] => rfl
  | [], _ :: _ => rfl
  | _ :: _, [] => rfl
  | x :: xs, y :: ys => by
    show (PyData.eqv x.d y.d && PyData.eqvAll (xs.map Rl.d) (ys.map Rl.d)) = _
    rw [eqv_rl, eqv_rls xs ys]
    by_cases h1 : x = y
    · subst h1
      by_cases h2 : xs = ys
      · subst h2
        simp
      · rw [decide_eq_false h2, Bool.and_false, decide_eq_false fun e => h2 (List.cons.inj e).2]
    · rw [decide_eq_false h1, Bool.false_and, decide_eq_false fun e => h1 (List.cons.inj e).1]
theorem ok_str {z : Str} (h : ascB z = true) : PyData.strOk z = true := by
  unfold PyData.strOk
  rw [arr_all]
  exact List.all_eq_true.mpr fun c hc => decide_eq_true (Nat.lt_trans ((asc_of h).2 c hc) (by decide))
theorem lay_wt {ws : List Str} (h : ∀ z ∈ ws, Wd z) : (wt ws).canLay0 = true := by
  unfold wt
  simp only [PyData.canLay0]
  exact lay_words fun z hz => (h z hz).low
theorem lay_an {a : An} (b : Bool) (h : a.Ok) : (a.d b).canLay0 = true := by
  cases a with
  | gone => simp [An.d, PyData.canLay0, PyData.canLayAll0, ok_str asc_gone]
  | own z => simp [An.d, PyData.canLay0, PyData.canLayAll0, ok_str (asc_own b), ok_str (Wd.asc h)]
  | to ws n =>
    obtain ⟨h1, h2, _⟩ := h
    simp [An.d, PyData.canLay0, PyData.canLayAll0, ok_str asc_to, lay_wt h2]
theorem lay_rl {r : Rl} (h : r.Ok) : r.d.canLay0 = true := by
  simp [Rl.d, PyData.canLay0, PyData.canLayAll0, ok_str (asc_sort r.ex), lay_wt h.wds, lay_an r.ex h.an]
theorem deep_an (a : An) (b : Bool) : (a.d b).depth ≤ 2 := by
  have h := depth_words
  cases a <;> simp [An.d, wt, PyData.depth, PyData.depthAll, h]
theorem deep_rl (r : Rl) : r.d.depth ≤ 3 := by
  have h := depth_words r.pl
  have h2 := deep_an r.an r.ex
  simp only [Rl.d, wt, PyData.depth, PyData.depthAll, h]
  omega
theorem lay_rls : ∀ {rs : List Rl}, (∀ r ∈ rs, r.Ok) → PyData.canLayAll0 (rs.map Rl.d) = true
  | [], _ => rfl
  | r :: rs, h => by
    simp only [List.map_cons, PyData.canLayAll0, lay_rl (h r List.mem_cons_self), lay_rls fun x hx => h x (List.mem_cons_of_mem _ hx), Bool.and_self]
theorem deep_rls : ∀ rs : List Rl, PyData.depthAll (rs.map Rl.d) ≤ 3
  | [] => Nat.zero_le _
  | r :: rs => by
    have h1 := deep_rl r
    have h2 := deep_rls rs
    simp only [List.map_cons, PyData.depthAll]
    omega
theorem shaped_rls {rs : List Rl} (h : ∀ r ∈ rs, r.Ok) : SeqAt.shaped (.tuple (rs.map Rl.d)) = true := by
  unfold SeqAt.shaped
  have h1 := deep_rls rs
  have h2 : (PyData.tuple (rs.map Rl.d)).depth ≤ 64 := by
    simp only [PyData.depth]
    omega
  rw [decide_eq_true h2]
  simp only [PyData.canLay0, lay_rls h, Bool.and_self]
/-! ### what a table says -/
section
variable {P : Program} {w : World} {K : PySem.W.Frag} {mg : Str → Option Value} {base : Heap} {f : Addr} {fd : FuncData} {CT : Addr}
def spRules (P : Program) (w : World) (K : PySem.W.Frag) (CT : Addr) : Sp := fun vs H Q _ => ∃ (a : Addr) (rs : List Rl), vs = [.ref a] ∧ TabAt P w K CT H a rs ∧ ∀ p xs H', Same H H' → SqT K H' p xs → Rules K H' xs rs → Q (.ref p) H'
theorem scRules : FnScope ["self"] ["self"] (defScope sRules) := ⟨rfl, rfl, rfl, by decide +kernel, rfl, by decide +kernel, by decide +kernel⟩
theorem ok_rules (Fd : Fun K "rules" "Table.rules" sRules f fd) (T : Tx mg) (C : Tcl K CT) : FnOk P w K mg base CX0 1 f fd ["self"] (spRules P w K CT) := by
  refine Fd.ok scRules (fun vs H Q E h => ?_) (fun cdv A outer s H vs Q E hr h => ?_)
  · obtain ⟨a, rs, rfl, _⟩ := h
    rfl
  · obtain ⟨a, rs, rfl, ⟨dx, t, d, xs, rows, mx, h1, h2, h3, h4, h5, h6, h7⟩, q⟩ := h
    refine ⟨_, pss_one (ps_ret (pe_callTy call_tuple_of (by rfl) T.tuple (by decide +kernel) (pa_cons (pe_callTy call_list_of (by rfl) T.list (by decide +kernel) (pa_cons (pe_fld (pv 0) rfl) pa_nil)) pa_nil))), ?_⟩
    refine ⟨_, rfl, a, CT, dx, _, .ref t, rfl, h1, C.cls, C.no1, rfl, t, _, rfl, .inr h2, fun l hl => ⟨l, _, rfl, .inl ⟨.of upd_same, fun p hp => ?_⟩⟩⟩
    have s1 := (Same.new (o := .lst xs) hl).trans (Same.new (o := .tup xs) hp)
    exact q p xs _ s1 (.of upd_same) (h3.same s1)
def spLen (P : Program) (w : World) (K : PySem.W.Frag) (CT : Addr) : Sp := fun vs H Q _ => ∃ (a : Addr) (rs : List Rl), vs = [.ref a] ∧ TabAt P w K CT H a rs ∧ Q (.int (rs.length : Int)) H
theorem scLen : FnScope ["self"] ["self"] (defScope sLen) := ⟨rfl, rfl, rfl, by decide +kernel, rfl, by decide +kernel, by decide +kernel⟩
theorem ok_len (Fd : Fun K "__len__" "Table.__len__" sLen f fd) (T : Tx mg) (C : Tcl K CT) : FnOk P w K mg base CX0 1 f fd ["self"] (spLen P w K CT) := by
  refine Fd.ok scLen (fun vs H Q E h => ?_) (fun cdv A outer s H vs Q E hr h => ?_)
  · obtain ⟨a, rs, rfl, _⟩ := h
    rfl
  · obtain ⟨a, rs, rfl, ⟨dx, t, d, xs, rows, mx, h1, h2, h3, h4, h5, h6, h7⟩, q⟩ := h
    refine ⟨_, pss_one (ps_ret (pe_callB call_len_seq (by rfl) T.len PySem.boot_len (pa_cons (pe_fld (pv 0) rfl) pa_nil))), ?_⟩
    refine ⟨_, rfl, a, CT, dx, _, .ref t, rfl, h1, C.cls, C.no1, rfl, t, xs, rfl, .inr h2, ?_⟩
    rw [h3.length]
    exact q
def spEq (P : Program) (w : World) (K : PySem.W.Frag) (CT : Addr) : Sp := fun vs H Q _ => ∃ (a b : Addr) (rs ts : List Rl), vs = [.ref a, .ref b] ∧ TabAt P w K CT H a rs ∧ TabAt P w K CT H b ts ∧ Q (.bl (decide (rs = ts))) H
theorem scEq : FnScope ["self", "other"] ["self", "other"] (defScope sEq) := ⟨rfl, rfl, rfl, by decide +kernel, rfl, by decide +kernel, by decide +kernel⟩
theorem ok_eq (Fd : Fun K "__eq__" "Table.__eq__" sEq f fd) (T : Tx mg) (C : Tcl K CT) (I : C8.InsC K CT) (gT : mg "Table" = some (.ref CT)) : FnOk P w K mg base CX0 1 f fd ["self", "other"] (spEq P w K CT) := by
  refine Fd.ok scEq (fun vs H Q E h => ?_) (fun cdv A outer s H vs Q E hr h => ?_)
  · obtain ⟨a, b, rs, ts, rfl, _⟩ := h
    rfl
  · obtain ⟨a, b, rs, ts, rfl, ⟨dx, t, d, xs, rows, mx, h1, h2, h3, h4, h5, h6, h7⟩, ⟨dy, u, d', ys, rows', my, g1, g2, g3, g4, g5, g6, g7⟩, q⟩ := h
    refine ⟨_, pss_one (ps_ret (pe_and (pe_callB (C8.call_isC I) (by rfl) T.isi bootN (pa_cons (pv 1) (pa_cons (pe_glob (v := .ref CT) (by rfl) gT rfl) pa_nil)))
      (pe_one (pe_cmpR (op_eqD hr.units) (pe_fld (pv 0) rfl) (pe_fld (pv 1) rfl) (nomark _))))), ?_⟩
    refine ⟨_, rfl, b, dy, _, rfl, g1, _, rfl, ?_⟩
    refine iteT ⟨_, rfl, a, CT, dx, _, .ref t, rfl, h1, C.cls, C.no1, rfl, _, rfl, b, CT, dy, _, .ref u, rfl, g1, C.cls, C.no1, rfl, .tuple (rs.map Rl.d), .tuple (ts.map Rl.d), .tup h2 h3.dp, .tup g2 g3.dp, shaped_rls h4.ok, shaped_rls g4.ok, ?_⟩
    simp only [PyData.eqv]
    rw [eqv_rls]
    exact q
end
end K7
namespace K7
open PySem L2 Ld PyProof.Rows
/-! ### the rule for an address -/
def findK (rs : List Rl) (k : Bool × List Str) : Option Rl := rs.find? fun r => decide (r.key = kOf k.1 k.2)
def openFor (rs : List Rl) (ws : List Str) : Nat → Option Rl
  | 0 => findK rs (false, [])
  | n + 1 => (findK rs (false, ws.take (n + 1))).or (openFor rs ws n)
def ruleFor (rs : List Rl) (ws : List Str) : Option Rl := (findK rs (true, ws)).or (openFor rs ws ws.length)
theorem openFor_some {rs : List Rl} {ws : List Str} {r : Rl} {k : Nat} (e : findK rs (false, ws.take k) = some r) : ∀ n, k ≤ n → (∀ j, k < j → j ≤ n → findK rs (false, ws.take j) = none) → openFor rs ws n = some r
  | 0, h, _ => by
    have : k = 0 := by omega
    subst this
    exact e
  | n + 1, h, nn => by
    unfold openFor
    by_cases hk : k = n + 1
    · rw [← hk, e]
      rfl
    · rw [nn (n + 1) (by omega) (Nat.le_refl _), Option.none_or]
      exact openFor_some e n (by omega) fun j h1 h2 => nn j h1 (by omega)
theorem openFor_none {rs : List Rl} {ws : List Str} : ∀ n, (∀ j, j ≤ n → findK rs (false, ws.take j) = none) → openFor rs ws n = none
  | 0, nn => nn 0 (Nat.le_refl _)
  | n + 1, nn => by
    unfold openFor
    rw [nn (n + 1) (Nat.le_refl _), Option.none_or]
    exact openFor_none n fun j h => nn j (by omega)
theorem openFor_mem {rs : List Rl} {ws : List Str} {r : Rl} : ∀ n, openFor rs ws n = some r → r ∈ rs
  | 0, h => List.mem_of_find?_eq_some h
  | n + 1, h => by
    unfold openFor at h
    cases e : findK rs (false, ws.take (n + 1)) with
    | none =>
      rw [e, Option.none_or] at h
      exact openFor_mem n h
    | some t =>
      rw [e] at h
      cases h
      exact List.mem_of_find?_eq_some e
theorem findK_long {rs : List Rl} {k : Bool × List Str} (h : ∀ r ∈ rs, r.pl.length < k.2.length) : findK rs k = none := by
  refine List.find?_eq_none.mpr fun r hr e => ?_
  have e := (key_inj (a := r) (b := ⟨k.1, k.2, .gone⟩) (of_decide_eq_true e)).2
  have := h r hr
  rw [e] at this
  exact absurd this (Nat.lt_irrefl _)
theorem rows_find {K : PySem.W.Frag} {H : Hp} {rows : List Rw} {rs : List Rl} (z : rowsFit K H rows rs) (one : (rs.map Rl.key).Nodup) (k : Bool × List Str) :
    (kGet rows (kOf k.1 k.2) = none ∧ findK rs k = none) ∨ ∃ v r, kGet rows (kOf k.1 k.2) = some v ∧ findK rs k = some r ∧ RuleAt K H v r := by
  cases e : kGet rows (kOf k.1 k.2) with
  | none =>
    refine .inl ⟨rfl, List.find?_eq_none.mpr fun r hr h => ?_⟩
    have h2 := z.2 r hr
    rw [of_decide_eq_true h, e] at h2
    cases h2
  | some v =>
    obtain ⟨r, h1, h2, h3⟩ := z.1 _ _ e
    refine .inr ⟨v, r, rfl, ?_, h3⟩
    cases e2 : findK rs k with
    | none => exact absurd (decide_eq_true h2) (List.find?_eq_none.mp e2 r h1)
    | some t =>
      have m := List.mem_of_find?_eq_some e2
      have kt : t.key = kOf k.1 k.2 := of_decide_eq_true (List.find?_some (p := fun r : Rl => decide (r.key = kOf k.1 k.2)) e2)
      rw [nodup_key one m h1 (key_inj (kt.trans h2.symm))]
section
variable {K : PySem.W.Frag} {H H' : Hp}
def KeyAt (K : PySem.W.Frag) (H : Hp) (v : V) (k : Bool × List Str) : Prop := ∃ a p, v = .ref a ∧ SqT K H a [.str (sortS k.1), .ref p] ∧ SqT K H p (k.2.map V.str)
theorem KeyAt.mono {v : V} {k : Bool × List Str} (z : KeyAt K H v k) (hT : ∀ a xs, SqT K H a xs → SqT K H' a xs) : KeyAt K H' v k := let ⟨a, p, e, h1, h2⟩ := z; ⟨a, p, e, hT _ _ h1, hT _ _ h2⟩
theorem strs_inv : ∀ {xs : List V} {ws : List Str}, DpAll K H xs (ws.map PyData.str) → xs = ws.map V.str
  | _, [], h => by cases h; rfl
  | _, w :: ws, h => by
    cases h with
    | cons a b =>
      cases a
      rw [strs_inv b]
      rfl
theorem wt_inv {v : V} {ws : List Str} (h : Dp K H v (wt ws)) : ∃ p, v = .ref p ∧ SqT K H p (ws.map V.str) := by
  cases h with
  | tup h1 h2 =>
    rw [strs_inv h2] at h1
    exact ⟨_, rfl, h1⟩
theorem dpAll_get : ∀ {xs : List V} {ds : List PyData}, DpAll K H xs ds → xs.length = ds.length ∧ ∀ (i : Nat) (x : V), xs[i]? = some x → ∃ d, ds[i]? = some d ∧ Dp K H x d
  | _, _, .nil => ⟨rfl, fun i x e => by simp at e⟩
  | _, _, .cons a b => by
    obtain ⟨h1, h2⟩ := dpAll_get b
    refine ⟨congrArg (· + 1) h1, fun i x e => ?_⟩
    cases i with
    | zero =>
      simp at e
      subst e
      exact ⟨_, rfl, a⟩
    | succ i => exact h2 i x (by simpa using e)
theorem sqT_off {G G2 : Hp} {D p : Addr} {ks xs : List V} (hD : G D = some (.lst ks)) (fr : ∀ c o, c ≠ D → G c = some o → G2 c = some o) (h : SqT K G p xs) : SqT K G2 p xs := by
  rcases h with (h | ⟨o, h⟩) | h
  · exact .inl (.inl (fr _ _ (ne_of h hD fun e => nomatch e) h))
  · exact .inl (.inr ⟨o, fr _ _ (ne_of h hD fun e => nomatch e) h⟩)
  · exact .inr h
theorem sqL_off {G G2 : Hp} {D p : Addr} {xs : List V} (ne : p ≠ D) (fr : ∀ c o, c ≠ D → G c = some o → G2 c = some o) (h : SqL K G p xs) : SqL K G2 p xs := by
  rcases h with (h | ⟨o, h⟩) | h
  · exact .inl (.inl (fr _ _ ne h))
  · exact .inl (.inr ⟨o, fr _ _ ne h⟩)
  · exact .inr h
end
section
variable {P : Program} {w : World} {K : PySem.W.Frag} {mg : Str → Option Value} {base : Heap} {f : Addr} {fd : FuncData} {CT : Addr}
def OutAt (K : PySem.W.Frag) (H : Hp) (v : V) : Option Rl → Prop
  | none => v = .non
  | some r => RuleAt K H v r
def spFor (P : Program) (w : World) (K : PySem.W.Frag) (CT : Addr) : Sp := fun vs H Q _ => ∃ (a b : Addr) (rs : List Rl) (ws : List Str), vs = [.ref a, .ref b] ∧ TabAt P w K CT H a rs ∧ SqT K H b (ws.map V.str) ∧ ∀ v H', Same H H' → OutAt K H' v (ruleFor rs ws) → Q v H'
theorem scFor : FnScope ["self", "address", "key", "size"] ["self", "address"] (defScope sFor) := ⟨rfl, rfl, rfl, by decide +kernel, rfl, by decide +kernel, by decide +kernel⟩
theorem key_cut {rs : List Rl} (ok : ∀ r ∈ rs, r.pl.length ≤ 4) (b : Bool) (ws : List Str) : findK rs (b, ws.take 5) = findK rs (b, ws) := by
  by_cases h : ws.length ≤ 5
  · rw [List.take_of_length_le h]
  · rw [findK_long (fun r hr => ?_), findK_long (fun r hr => ?_)]
    · have := ok r hr
      show r.pl.length < ws.length
      omega
    · have := ok r hr
      show r.pl.length < (ws.take 5).length
      rw [List.length_take]
      omega
/-- where the search is: the key k is to be looked for, n more beginnings behind it -/
def Seek (rs : List Rl) (ws : List Str) (k : Bool × List Str) (s : Int) : Prop :=
  (k = (true, ws.take 5) ∧ 0 ≤ s ∧ s ≤ ws.length ∧ s ≤ 4 ∧ ∀ j : Nat, s < (j : Int) → j ≤ ws.length → findK rs (false, ws.take j) = none) ∨
  (∃ n : Nat, s = (n : Int) - 1 ∧ n ≤ ws.length ∧ n ≤ 4 ∧ k = (false, ws.take n) ∧ findK rs (true, ws) = none ∧ ∀ j, n < j → j ≤ ws.length → findK rs (false, ws.take j) = none)
theorem Seek.found {rs : List Rl} {ws : List Str} {k : Bool × List Str} {s : Int} {r : Rl} (ok : ∀ r ∈ rs, r.pl.length ≤ 4) (z : Seek rs ws k s) (e : findK rs k = some r) : ruleFor rs ws = some r := by
  unfold ruleFor
  rcases z with ⟨rfl, _⟩ | ⟨n, rfl, h1, _, rfl, h2, h3⟩
  · rw [key_cut ok] at e
    rw [e]
    rfl
  · rw [h2, Option.none_or]
    exact openFor_some e _ h1 h3
theorem Seek.out {rs : List Rl} {ws : List Str} {k : Bool × List Str} {s : Int} (z : Seek rs ws k s) (e : findK rs k = none) (h : s < 0) : ruleFor rs ws = none := by
  rcases z with ⟨rfl, h1, _⟩ | ⟨n, rfl, h1, _, rfl, h2, h3⟩
  · omega
  · have : n = 0 := by omega
    subst this
    unfold ruleFor
    rw [h2, Option.none_or]
    refine openFor_none _ fun j hj => ?_
    by_cases hj0 : j = 0
    · subst hj0
      exact e
    · exact h3 j (by omega) hj
theorem Seek.on {rs : List Rl} {ws : List Str} {k : Bool × List Str} {s : Int} (ok : ∀ r ∈ rs, r.pl.length ≤ 4) (z : Seek rs ws k s) (e : findK rs k = none) (h : 0 ≤ s) : Seek rs ws (false, ws.take s.toNat) (s - 1) := by
  refine .inr ⟨s.toNat, by omega, ?_, ?_, rfl, ?_, fun j h1 h2 => ?_⟩
  · rcases z with ⟨_, _, h2, _⟩ | ⟨n, h1, h2, _⟩ <;> omega
  · rcases z with ⟨_, _, _, h2, _⟩ | ⟨n, h1, _, h2, _⟩ <;> omega
  · rcases z with ⟨rfl, _⟩ | ⟨n, _, _, _, _, h2, _⟩
    · rw [key_cut ok] at e
      exact e
    · exact h2
  · rcases z with ⟨_, _, _, _, h3⟩ | ⟨n, rfl, _, _, rfl, _, h3⟩
    · exact h3 j (by omega) h2
    · by_cases hj : j = n
      · subst hj
        exact e
      · exact h3 j (by omega) h2
theorem ok_for (Fd : Fun K "rule_for" "Table.rule_for" sFor f fd) (T : Tx mg) (C : Tcl K CT) : FnOk P w K mg base CX0 3 f fd ["self", "address"] (spFor P w K CT) := by
  refine Fd.ok scFor (fun vs H Q E h => ?_) (fun cdv A outer s H vs Q E hr h => ?_)
  · obtain ⟨a, b, rs, ws, rfl, _⟩ := h
    rfl
  · obtain ⟨a, b, rs, ws, rfl, hTab, hb, q⟩ := h
    obtain ⟨tp, hpw⟩ := T.pw
    have nd := scFor.nd
    have hu16 : (A.deeper (envOfC "Table.rule_for" (defScope sFor) s.heap.objs.size f cdv)).units + 16 < cLine := Nat.lt_of_le_of_lt (Nat.add_le_add_left (by decide) _) hr.units
    refine ⟨_, pss_cons (ps_set (i := 2) nd rfl (Or.inl rfl) (pe_tup (pa_cons pe_str (pa_cons (pe_callTy call_tuple_of (by rfl) T.tuple (by decide +kernel) (pa_cons (pe_slice (r := rSlW K) sl_tupK (pv 1) po_none (po_some (pe_op op_add (pe_glob (v := .int 4) (by rfl) hpw ⟨_, rfl⟩) pe_int))) pa_nil)) pa_nil))))
      (pss_cons (ps_set (i := 3) nd rfl (Or.inl rfl) (pe_callB (call_min2 rfl) (by rfl) T.min PyProof.Rows.boot_min (pa_cons (pe_callB call_len_seq (by rfl) T.len PySem.boot_len (pa_cons (pv 1) pa_nil)) (pa_cons (pe_fld (pv 0) rfl) pa_nil))))
      (pss_cons (ps_while PassesOwn.never (pt_cmpR (op_notInN hu16) (pv 2) (pe_fld (pv 0) rfl) (by rfl))
        (pss_cons (ps_if (pt_cmpR op_lt (pv 3) pe_int (nomark _)) (pss_one (ps_ret pe_non)) pss_nil)
        (pss_cons (ps_set (i := 2) nd rfl (Or.inl rfl) (pe_tup (pa_cons pe_str (pa_cons (pe_callTy call_tuple_of (by rfl) T.tuple (by decide +kernel) (pa_cons (pe_slice (r := rSlW K) sl_tupK (pv 1) po_none (po_some (pv 3))) pa_nil)) pa_nil))))
        (pss_one (ps_aug (i := 3) nd rfl (Or.inl rfl) pe_int ip_sub)))))
      (pss_one (ps_ret (pe_callTy call_tuple_of (by rfl) T.tuple (by decide +kernel) (pa_cons (pe_callTy call_list_of (by rfl) T.list (by decide +kernel) (pa_cons (pe_ix (ix_kd hu16) (pe_fld (pv 0) rfl) (pv 2) (fun _ _ => rfl)) pa_nil)) pa_nil)))))), ?_⟩
    obtain ⟨dx, t, d, ys, rows, m, h1, h2, h3, h4, h5, h6, m0, m4, hm⟩ := hTab
    have ok4 : ∀ r ∈ rs, r.pl.length ≤ 4 := fun r hr => (h4.ok r hr).len
    refine ⟨_, rfl, _, _, rfl, rfl, _, rfl, b, _, rfl, hb, fun p G1 s1 k1 => ⟨p, _, rfl, .inr ⟨k1, (show 2 ≤ sizeLine by decide), fun kt hkt => ?_⟩⟩⟩
    have s2 := s1.trans (Same.new (o := .tup [.str "exact", .ref p]) hkt)
    have k2 := upd_same (H := G1) (a := kt) (o := .tup [.str "exact", .ref p])
    have p2 := same_T (Same.new (o := .tup [.str "exact", .ref p]) hkt) k1
    generalize upd G1 kt (.tup [.str "exact", .ref p]) = G2 at s2 k2 p2 ⊢
    have hx : Same H G2 := s2
    refine ⟨_, rfl, b, _, rfl, .inr (same_T hx hb), _, rfl, a, CT, dx, _, .int m, rfl, hx _ _ h1, C.cls, C.no3, rfl, _, _, rfl, ?_⟩
    have seek0 : Seek rs ws (true, ws.take 5) (if m < (((ws.map V.str).length : Nat) : Int) then m else (((ws.map V.str).length : Nat) : Int)) := by
      rw [List.length_map]
      refine .inl ⟨rfl, ?_, ?_, ?_, fun j h1 h2 => findK_long fun r hr => ?_⟩
      · split <;> omega
      · split <;> omega
      · split <;> omega
      · have h3 := hm r hr
        show r.pl.length < (ws.take j).length
        rw [List.length_take]
        split at h1 <;> omega
    rw [show ((4 : Int) + 1) = ((5 : Nat) : Int) from rfl, cut_lo] at p2
    generalize (if m < (((ws.map V.str).length : Nat) : Int) then m else (((ws.map V.str).length : Nat) : Int)) = z0 at seek0 ⊢
    have z0p : 0 ≤ z0 := by
      rcases seek0 with ⟨_, h, _⟩ | ⟨n, _, _, _, h, _⟩
      · exact h
      · cases h
    refine ⟨fun m σ G => ∃ (ka : Addr) (k : Bool × List Str) (z : Int), σ = [some (.ref a), some (.ref b), some (.ref ka), some (.int z)] ∧ KeyAt K G (.ref ka) k ∧ Seek rs ws k z ∧ Same H G ∧ (m : Int) = z + 1, ⟨(z0 + 1).toNat, kt, (true, ws.take 5), z0, rfl, ⟨kt, p, rfl, .of k2, p2⟩, seek0, hx, by omega⟩, ?_⟩
    rintro mm σ G ⟨ka, k, z, rfl, ⟨kx, kp, ek, t1, t2⟩, sk, sG, em⟩
    cases ek
    refine ⟨_, rfl, _, rfl, a, CT, dx, _, .ref d, rfl, sG _ _ h1, C.cls, C.no2, rfl, ka, d, kOf k.1 k.2, rows, rfl, rfl, nis_key t1 t2, key_deep _ _, h5.same sG, _, rfl, ?_⟩
    have h6G := h6.mono (H' := G) fun _ _ q => same_T sG q
    rcases rows_find h6G h4.one k with ⟨e1, e2⟩ | ⟨v, r, e1, e2, rv⟩
    · rw [e1]
      refine iteT ⟨_, fun σ' G' h => h, ?_⟩
      refine ⟨_, rfl, z, 0, rfl, rfl, _, rfl, ?_⟩
      by_cases hz : z < 0
      · rw [decide_eq_true hz]
        refine iteT (q _ _ sG ?_)
        rw [sk.out e2 hz]
        rfl
      · rw [decide_eq_false hz]
        refine iteF ⟨_, rfl, _, rfl, _, rfl, b, _, rfl, same_T sG hb, fun p3 G3 s3 k3 => ⟨p3, _, rfl, .inr ⟨k3, (show 2 ≤ sizeLine by decide), fun kt2 hkt2 => ?_⟩⟩⟩
        have s4 := Same.new (o := .tup [.str "open", .ref p3]) hkt2
        refine ⟨_, rfl, _, _, rfl, rfl, mm - 1, by omega, kt2, _, z - 1, rfl, ⟨kt2, p3, rfl, .of upd_same, ?_⟩, sk.on ok4 e2 (by omega), sG.trans (s3.trans s4), by omega⟩
        have e3 : z = ((z.toNat : Nat) : Int) := by omega
        rw [e3, cut_lo] at k3
        exact same_T s4 k3
    · rw [e1]
      obtain ⟨ra, rp, ry, rfl, u1, u2, u3⟩ := rv
      refine iteF ?_
      refine ⟨_, rfl, a, CT, dx, _, .ref d, rfl, sG _ _ h1, C.cls, C.no2, rfl, _, rfl, ka, d, kOf k.1 k.2, rows, _, rfl, rfl, nis_key t1 t2, key_deep _ _, h5.same sG, e1, ra, _, rfl, .inr u1, fun l hl2 => ⟨l, _, rfl, .inl ⟨.of upd_same, fun p2 hp2 => ?_⟩⟩⟩
      have st := (Same.new (o := .lst [.str (sortS r.ex), .ref rp, ry]) hl2).trans (Same.new (o := .tup [.str (sortS r.ex), .ref rp, ry]) hp2)
      refine q _ _ (sG.trans st) ?_
      rw [sk.found ok4 e2]
      exact ⟨p2, rp, ry, rfl, .of upd_same, same_T st u2, AnAt.mono u3 fun _ _ q => same_T st q⟩
end
end K7
namespace K7
open PySem L2 Ld PyProof.Rows
abbrev sBy : Stmt := top 26
abbrev sAns : Stmt := meth 5
/-! ### the answer -/
def ansOf (r : Rl) (ws : List Str) : PyData := if r.ex = true then r.an.d true else match r.an with
  | .gone => .tuple [.str "gone"]
  | .own z => .tuple [.str "section", .str z, wt (ws.drop r.pl.length)]
  | .to t n => .tuple [.str "to", wt (t ++ ws.drop r.pl.length), .int n]
def answerOf (rs : List Rl) (ws : List Str) : PyData := match ruleFor rs ws with
  | none => .tuple [.str "nothing"]
  | some r => ansOf r ws
theorem shaped_an {a : An} (b : Bool) (h : a.Ok) : SeqAt.shaped (a.d b) = true := by
  unfold SeqAt.shaped
  rw [lay_an b h, decide_eq_true (Nat.le_trans (deep_an a b) (by decide))]
  rfl
theorem shaped_gone : SeqAt.shaped (.tuple [.str "gone"]) = true := by decide +kernel
theorem for_mem {rs : List Rl} {ws : List Str} {r : Rl} (h : ruleFor rs ws = some r) : r ∈ rs := by
  unfold ruleFor at h
  cases e : findK rs (true, ws) with
  | none =>
    rw [e, Option.none_or] at h
    exact openFor_mem _ h
  | some t =>
    rw [e] at h
    cases h
    exact List.mem_of_find?_eq_some e
theorem AnAt.seq {K : PySem.W.Frag} {H : Hp} {v : V} {b : Bool} {a : An} (z : AnAt K H v b a) : ∃ c xs ds, v = .ref c ∧ SqT K H c xs ∧ DpAll K H xs ds ∧ a.d b = .tuple ds := by
  have h := z.dp
  cases a with
  | gone => cases h with | tup h1 h2 => exact ⟨_, _, _, rfl, h1, h2, rfl⟩
  | own y => cases h with | tup h1 h2 => exact ⟨_, _, _, rfl, h1, h2, rfl⟩
  | to ws n => cases h with | tup h1 h2 => exact ⟨_, _, _, rfl, h1, h2, rfl⟩
theorem dpAll_same {K : PySem.W.Frag} {H H' : Hp} {vs : List V} {ds : List PyData} (s : Same H H') (h : DpAll K H vs ds) : DpAll K H' vs ds := dpAll_mono (fun _ _ q => s.seq q) (fun _ _ q => same_T s q) ds vs h
section
variable {P : Program} {w : World} {K : PySem.W.Frag} {mg : Str → Option Value} {base : Heap} {f : Addr} {fd : FuncData} {CT : Addr}
def spBy (K : PySem.W.Frag) : Sp := fun vs H Q _ => ∃ (v : V) (b : Addr) (r : Rl) (ws : List Str), vs = [v, .ref b] ∧ RuleAt K H v r ∧ r.Ok ∧ SqT K H b (ws.map V.str) ∧ ws.length ≤ 10000 ∧ ∀ y H', Same H H' → Dp K H' y (ansOf r ws) → Q y H'
theorem scBy : FnScope ["rule", "address", "sort", "place", "answer", "rest"] ["rule", "address"] (defScope sBy) := ⟨rfl, rfl, rfl, by decide +kernel, rfl, by decide +kernel, by decide +kernel⟩
theorem ok_by (Fd : Fun K "_answer_by" "_answer_by" sBy f fd) (T : Tx mg) (DR : Df P w K mg base 1 "rest_of" ["address", "beginning"] (spRest K)) : FnOk P w K mg base CX0 2 f fd ["rule", "address"] (spBy K) := by
  refine Fd.ok scBy (fun vs H Q E h => ?_) (fun cdv A outer s H vs Q E hr h => ?_)
  · obtain ⟨v, b, r, ws, rfl, _⟩ := h
    rfl
  · obtain ⟨v, b, r, ws, rfl, ⟨ra, rp, ry, rfl, t1, t2, t3⟩, hok, hb, hlw, q⟩ := h
    have nd := scBy.nd
    refine ⟨_, pss_cons (ps_asg (pv 0) (pg_tup rfl (pgs_cons (pg_name (i := 2) nd rfl (Or.inl rfl)) (pgs_cons (pg_name (i := 3) nd rfl (Or.inl rfl)) (pgs_cons (pg_name (i := 4) nd rfl (Or.inl rfl)) pgs_nil)))))
      (pss_cons (ps_if (PW.pt (pw_or (pt_cmpR op_eq (pv 2) pe_str (nomark _)) (pw_or1 (pt_cmpR (op_eqD hr.units) (pv 4) (pe_tup (pa_cons pe_str pa_nil)) (nomark _)))))
        (pss_one (ps_ret (pe_callTy call_tuple_of (by rfl) T.tuple (by decide +kernel) (pa_cons (pe_callTy call_list_of (by rfl) T.list (by decide +kernel) (pa_cons (pv 4) pa_nil)) pa_nil)))) pss_nil)
      (pss_cons (ps_set (i := 5) nd rfl (Or.inl rfl) (pe_df DR hr (pa_cons (pv 1) (pa_cons (pv 3) pa_nil))))
      (pss_cons (ps_if (pt_cmpR op_eq (pe_ix ix_tup (pv 4) pe_int (fun _ _ => rfl)) pe_str (nomark _))
        (pss_one (ps_ret (pe_tup (pa_cons pe_str (pa_cons (pe_ix ix_tup (pv 4) pe_int (fun _ _ => rfl)) (pa_cons (pv 5) pa_nil)))))) pss_nil)
      (pss_one (ps_ret (pe_tup (pa_cons pe_str (pa_cons (pe_op op_catW (pe_ix ix_tup (pv 4) pe_int (fun _ _ => rfl)) (pv 5)) (pa_cons (pe_ix ix_tup (pv 4) pe_int (fun _ _ => rfl)) pa_nil))))))))), ?_⟩
    refine ⟨_, rfl, ra, _, rfl, t1, rfl, _, _, rfl, _, _, rfl, _, _, rfl, ?_⟩
    refine ⟨rfl, ?_⟩
    obtain ⟨ex, pl, an⟩ := r
    obtain ⟨c, as, ds, rfl, u1, u2, ud⟩ := AnAt.seq t3
    have copy : ∀ (G : Hp), Same H G → (∀ y H', Same H H' → Dp K H' y (.tuple ds) → Q y H') → ∀ l, G l = none → ∀ p, (upd G l (.lst as)) p = none → Q (.ref p) (upd (upd G l (.lst as)) p (.tup as)) := fun G sG qq l hl p hp =>
      have st := (Same.new (o := .lst as) hl).trans (Same.new (o := .tup as) hp)
      qq _ _ (sG.trans st) (.tup (.of upd_same) (dpAll_same (sG.trans st) u2))
    refine ⟨_, rfl, rfl, _, rfl, ?_⟩
    cases ex with
    | true =>
      rw [show decide (V.str (sortS true) = V.str "exact") = true from decide_eq_true rfl]
      have q2 : ∀ y H', Same H H' → Dp K H' y (.tuple ds) → Q y H' := fun y H' s d => q y H' s (by
        have e : ansOf ⟨true, pl, an⟩ ws = an.d true := rfl
        rw [e, ud]
        exact d)
      exact iteT ⟨_, rfl, c, as, rfl, .inr u1, fun l hl => ⟨l, _, rfl, .inl ⟨.of upd_same, fun p hp => copy H (Same.refl H) q2 l hl p hp⟩⟩⟩
    | false =>
      rw [show decide (V.str (sortS false) = V.str "exact") = false from decide_eq_false fun e => open_exact (V.str.inj e)]
      refine iteF ⟨_, rfl, (show 1 ≤ sizeLine by decide), fun t ht => ?_⟩
      have s1 := Same.new (o := .tup [.str "gone"]) ht
      refine ⟨an.d false, .tuple [.str "gone"], AnAt.dp (AnAt.mono t3 fun _ _ q => same_T s1 q), .tup (.of upd_same) (.cons (.str _) .nil), shaped_an false hok.an, shaped_gone, _, rfl, ?_⟩
      rw [show PyData.eqv (an.d false) (.tuple [.str "gone"]) = decide (an = .gone) from eqv_an false an .gone]
      have b1 := same_T s1 hb
      have p1 := same_T s1 t2
      have c1 := same_T s1 u1
      generalize upd H t (.tup [.str "gone"]) = G1 at s1 b1 p1 c1 ⊢
      cases an with
      | gone =>
        have q2 : ∀ y H', Same H H' → Dp K H' y (.tuple ds) → Q y H' := fun y H' s d => q y H' s (by
          have e : ansOf ⟨false, pl, .gone⟩ ws = An.d false .gone := rfl
          rw [e, ud]
          exact d)
        exact iteT ⟨_, rfl, c, as, rfl, .inr c1, fun l hl => ⟨l, _, rfl, .inl ⟨.of upd_same, fun p hp => copy G1 s1 q2 l hl p hp⟩⟩⟩
      | own z =>
        obtain ⟨c', ec, v1⟩ := t3
        cases ec
        rw [decide_eq_false (by intro e; cases e)]
        have d1 := same_T s1 v1
        refine iteF ⟨_, rfl, _, rfl, b, rp, ws, pl, rfl, b1, p1, fun rr G2 s2 r2 => ?_⟩
        have d2 := same_T s2 d1
        refine ⟨_, rfl, c, _, _, _, rfl, rfl, d2, at0, rfl, _, rfl, ?_⟩
        rw [show decide (V.str (ownS false) = V.str "section") = true from decide_eq_true rfl]
        refine iteT ⟨_, rfl, c, _, _, _, rfl, rfl, d2, at1, _, rfl, (show 3 ≤ sizeLine by decide), fun u hu => ?_⟩
        have s3 := Same.new (o := .tup [.str "section", .str z, .ref rr]) hu
        exact q _ _ (s1.trans (s2.trans s3)) (.tup (.of upd_same) (.cons (.str _) (.cons (.str _) (.cons (dp_ws (same_T s3 r2)) .nil))))
      | to tg n =>
        obtain ⟨c', cw, ec, v1, v2⟩ := t3
        cases ec
        rw [decide_eq_false (by intro e; cases e)]
        have d1 := same_T s1 v1
        refine iteF ⟨_, rfl, _, rfl, b, rp, ws, pl, rfl, b1, p1, fun rr G2 s2 r2 => ?_⟩
        have d2 := same_T s2 d1
        refine ⟨_, rfl, c, _, _, _, rfl, rfl, d2, at0, rfl, _, rfl, ?_⟩
        rw [show decide (V.str "to" = V.str "section") = false from decide_eq_false fun e => absurd (V.str.inj e) (by decide +kernel)]
        obtain ⟨lt, _⟩ := hok.an
        refine iteF ⟨_, rfl, c, _, _, _, rfl, rfl, d2, at1, _, rfl, cw, rr, _, _, rfl, rfl, same_T (s1.trans s2) v2, r2, ?_, fun x G3 s3 x3 => ?_⟩
        · rw [List.length_map, List.length_map, List.length_drop]
          exact Nat.le_trans (show tg.length + (ws.length - pl.length) ≤ 20000 by omega) (by decide)
        · refine ⟨_, rfl, c, _, _, _, rfl, rfl, same_T s3 d2, at2, (show 3 ≤ sizeLine by decide), fun u hu => ?_⟩
          rw [← List.map_append] at x3
          have s4 := Same.new (o := .tup [.str "to", .ref x, .int n]) hu
          exact q _ _ (s1.trans (s2.trans (s3.trans s4))) (.tup (.of upd_same) (.cons (.str _) (.cons (dp_ws (same_T s4 x3)) (.cons (.int _) .nil))))
def spAns (P : Program) (w : World) (K : PySem.W.Frag) (CT : Addr) : Sp := fun vs H Q _ => ∃ (a b : Addr) (rs : List Rl) (ws : List Str), vs = [.ref a, .ref b] ∧ TabAt P w K CT H a rs ∧ SqT K H b (ws.map V.str) ∧ ws.length ≤ 10000 ∧ ∀ y H', Same H H' → Dp K H' y (answerOf rs ws) → Q y H'
theorem scAns : FnScope ["self", "address", "rule"] ["self", "address"] (defScope sAns) := ⟨rfl, rfl, rfl, by decide +kernel, rfl, by decide +kernel, by decide +kernel⟩
theorem ok_ans {fF : Addr} {fdF : FuncData} (Fd : Fun K "answer" "Table.answer" sAns f fd) (T : Tx mg) (C : Tcl K CT) (M : Meth K CT "rule_for" fF) (FF : FnOk P w K mg base CX0 3 fF fdF ["self", "address"] (spFor P w K CT)) (bF : Binds K fdF ["self", "address"] []) (DB : Df P w K mg base 2 "_answer_by" ["rule", "address"] (spBy K)) :
    FnOk P w K mg base CX0 4 f fd ["self", "address"] (spAns P w K CT) := by
  refine Fd.ok scAns (fun vs H Q E h => ?_) (fun cdv A outer s H vs Q E hr h => ?_)
  · obtain ⟨a, b, rs, ws, rfl, _⟩ := h
    rfl
  · obtain ⟨a, b, rs, ws, rfl, hTab, hb, hlw, q⟩ := h
    have nd := scAns.nd
    refine ⟨_, pss_cons (ps_set (i := 2) nd rfl (Or.inl rfl) (pe_meth (E := E0) (pv 0) C.cls M FF (hr.mono (by decide)) bF .nil (fun _ _ _ _ _ _ _ z => z) (pa_cons (pv 1) pa_nil)))
      (pss_cons (ps_if (pt_cmp (pc_isN (pv 2))) (pss_one (ps_ret (pe_callTy call_tuple_of (by rfl) T.tuple (by decide +kernel) (pa_cons (pe_lstN (pa_cons pe_str pa_nil)) pa_nil)))) pss_nil)
      (pss_one (ps_ret (pe_df DB hr (pa_cons (pv 2) (pa_cons (pv 1) pa_nil)))))), ?_⟩
    obtain ⟨dx, t, d, xs, rows, mx, h1, _, _, h4, _⟩ := id hTab
    refine ⟨_, rfl, a, dx, _, rfl, h1, (by first | rfl | (simp only [List.lookup]; rfl) | (simp only [List.lookup]; decide +kernel)), _, rfl, a, b, rs, ws, rfl, hTab, hb, fun v G s1 out => ?_⟩
    cases e : ruleFor rs ws with
    | none =>
      rw [e] at out
      have ev : v = .non := out
      subst ev
      refine ⟨_, rfl, _, rfl, iteT ⟨(show 1 ≤ sizeLine by decide), fun l hl _ => ⟨l, _, rfl, .inl ⟨.of upd_same, fun p hp => ?_⟩⟩⟩⟩
      have st := (Same.new (o := .lst [.str "nothing"]) hl).trans (Same.new (o := .tup [.str "nothing"]) hp)
      refine q _ _ (s1.trans st) ?_
      unfold answerOf
      rw [e]
      exact .tup (.of upd_same) (.cons (.str _) .nil)
    | some r =>
      rw [e] at out
      have hr2 : RuleAt K G v r := out
      have nv : ¬ v = .non := fun z => by
        obtain ⟨ra, _, _, ev, _⟩ := hr2
        rw [ev] at z
        cases z
      refine ⟨_, rfl, _, rfl, ?_⟩
      rw [decide_eq_false nv]
      refine iteF ⟨_, rfl, _, rfl, v, b, r, ws, rfl, hr2, h4.ok r (for_mem e), same_T s1 hb, hlw, fun y G2 s2 dy => ?_⟩
      refine q _ _ (s1.trans s2) ?_
      unfold answerOf
      rw [e]
      exact dy
end
end K7
namespace K7
open PySem L2 Ld PyProof.Rows
abbrev sWith : Stmt := meth 7
abbrev sOut : Stmt := meth 8
/-! ### tables made -/
structure Tmk (P : Program) (w : World) (K : PySem.W.Frag) (mg : Str → Option Value) (base : Heap) (CT : Addr) : Prop where
  gT : mg "Table" = some (.ref CT)
  ex : ∃ fI fdI, Mk K CT fI ∧ Binds K fdI ["self", "rules"] [] ∧ FnOk P w K mg base CX0 6 fI fdI ["self", "rules"] (spInit P w K CT)
theorem make_sp {P : Program} {w : World} {K : PySem.W.Frag} {CT la : Addr} {H1 : Hp} {xs : List V} {rs : List Rl} {Q : Addr → Hp → Prop} (hl : SqL K H1 la xs) (hR : Rules K H1 xs rs) (hG : Good rs) (q : ∀ a H', H1 a = none → Same H1 H' → TabAt P w K CT H' a (sortR rs) → Q a H') :
    ∀ x dx, H1 x = none → H1 dx = none → dx ≠ x → spInit P w K CT (.ref x :: ([.ref la] ++ [])) (upd (upd H1 dx (.own x)) x (.ins CT dx [])) (fun v H2 => v = .non ∧ Q x H2) E0 := fun x dx hx hd ne => by
  have s1 : Same H1 (upd (upd H1 dx (.own x)) x (.ins CT dx [])) := fun b o e => by
    rw [upd_ne (ne_of_none e hx), upd_ne (ne_of_none e hd)]
    exact e
  exact ⟨x, dx, la, xs, rs, rfl, upd_same, s1.seq hl, hR.same s1, hG, fun H' fr tb => ⟨rfl, q x H' hx (fun b o e => fr b o (ne_of_none e hx) (s1 _ _ e)) tb⟩⟩
section
variable {X : Cx} {CT : Addr} {e : Expr} {es : List Expr} {ta : TA} {p pos : Pos}
theorem op_neDK {X : Cx} {K : PySem.W.Frag} (hu : X.A.units + 64 < cLine) (hK : X.K = K := by rfl) : OpR X (compareOp .NotEq) (rNeD K) := by
  subst hK
  exact op_neD hu
theorem pe_table {j : Nat} (B : Tmk X.prog X.w X.K X.mg X.base CT) (hr : Room j X.A) (ha : PA X [e] ta) (hj : 7 ≤ j := by decide) (hg : Gl X "Table" := by rfl) (he : starEach [e] X.env = (false, eval e X.env) :: starEach [] X.env := by rfl) : PE X (.Call (.Name "Table" p) [e] [] pos) (tMake CT (spInit X.prog X.w X.K CT) [] E0 ta) :=
  let ⟨_, _, M, hb, F⟩ := B.ex
  pe_make (E := E0) (dvs := []) M F (hr.mono hj) hg B.gT hb .nil (fun _ _ _ _ _ _ _ z => False.elim z) ha (by decide) he rfl
end
/-! ### a rule more, a rule less -/
def sameK (b : Bool) (ws : List Str) (r : Rl) : Bool := decide (r.ex = b) && decide (r.pl = ws)
def others (b : Bool) (ws : List Str) (rs : List Rl) : List Rl := rs.filter fun r => !sameK b ws r
def headD (b : Bool) (ws : List Str) : PyData := .tuple [.str (sortS b), wt ws]
theorem others_snoc (b : Bool) (ws : List Str) (l : List Rl) (r : Rl) : others b ws (l ++ [r]) = others b ws l ++ (if sameK b ws r = true then [] else [r]) := by
  unfold others
  rw [List.filter_append]
  cases h : sameK b ws r <;> simp [List.filter, h]
theorem Good.out {rs : List Rl} (h : Good rs) (b : Bool) (ws : List Str) : Good (others b ws rs) :=
  ⟨fun r hr => h.ok r (List.mem_filter.mp hr).1, Nat.le_trans (List.length_filter_le _ _) h.few, List.Nodup.sublist (List.Sublist.map _ List.filter_sublist) h.one⟩
theorem Good.sort {rs : List Rl} (h : Good rs) : Good (sortR rs) :=
  ⟨fun r hr => h.ok r ((sortR_perm rs).mem_iff.mp hr), by rw [(sortR_perm rs).length_eq]; exact h.few, sortR_nodup h.one⟩
theorem Good.more {rs : List Rl} (h : Good rs) {r : Rl} (ok : r.Ok) (few : (others r.ex r.pl rs).length < 40) : Good (others r.ex r.pl rs ++ [r]) := by
  refine ⟨fun t ht => ?_, by simp; omega, ?_⟩
  · rcases List.mem_append.mp ht with ht | ht
    · exact (h.out r.ex r.pl).ok t ht
    · rw [List.mem_singleton.mp ht]
      exact ok
  · rw [List.map_append, List.nodup_append]
    refine ⟨(h.out r.ex r.pl).one, by simp, fun x hx y hy e => ?_⟩
    obtain ⟨t, ht, rfl⟩ := List.mem_map.mp hx
    have ey : y = r.key := by simpa using hy
    rw [ey] at e
    have k := key_inj e
    have n := (List.mem_filter.mp ht).2
    simp [sameK, k.1, k.2] at n
theorem sort_twice {rs : List Rl} (h : (rs.map Rl.key).Nodup) : sortR (sortR rs) = sortR rs := sortR_eq (sortR_nodup h) (sortR_perm rs)
theorem sort_sp {K : PySem.W.Frag} {H : Hp} {l fk : Addr} {xs : List V} {rs : List Rl} {Q : VK} (hl : SqL K H l xs) (hR : Rules K H xs rs) (few : rs.length ≤ 1000) (q : ∀ H1 p ys, Same H H1 → H1 p = none → Rules K H1 ys (sortR rs) → Q (.ref p) (upd H1 p (.lst ys))) :
    rSortK K fk (spRK K) [.ref l] [.ref fk] H Q := by
  have ln := hR.length
  have zz := zip_fst ln
  refine ⟨l, (xs.zip rs).map zOf, rfl, rfl, ?_, ?_, ?_, ?_, ?_, fun H1 p s1 hp _ => q H1 p _ s1 hp (sorted_rules (hR.same s1))⟩
  · rw [List.map_map]
    show SqL K H l ((xs.zip rs).map (·.1))
    rw [zz.1]
    exact hl
  · rw [List.length_map, List.length_zip]
    omega
  · intro d hd d' hd'
    simp only [List.map_map, List.mem_map] at hd hd'
    obtain ⟨p1, _, rfl⟩ := hd
    obtain ⟨p2, _, rfl⟩ := hd'
    exact kd_alike _ _
  · refine .inl fun d hd => ?_
    simp only [List.map_map, List.mem_map] at hd
    obtain ⟨p1, _, rfl⟩ := hd
    exact ⟨_, _, rfl⟩
  · intro z hz
    obtain ⟨p1, hp, rfl⟩ := List.mem_map.mp hz
    exact ⟨kd_bare _, kd_deep _, fun H1 sH => ⟨p1.1, p1.2, rfl, (rules_zip hR p1 hp).same sH, fun y H' sy dy => ⟨sy, dy⟩⟩⟩
theorem head_dp {K : PySem.W.Frag} {H : Hp} {p q : Addr} {b : Bool} {ws : List Str} (h : SqT K H p [.str (sortS b), .ref q]) (h2 : SqT K H q (ws.map V.str)) : Dp K H (.ref p) (headD b ws) := .tup h (.cons (.str _) (.cons (dp_ws h2) .nil))
theorem Rules.at {K : PySem.W.Frag} {G G2 : Hp} {D : Addr} {ks ys : List V} {rs : List Rl} (z : Rules K G ys rs) (hD : G D = some (.lst ks)) (fr : ∀ c o, c ≠ D → G c = some o → G2 c = some o) : Rules K G2 ys rs := z.mono fun _ _ q => sqT_off hD fr q
theorem eqv_head (b c : Bool) (ws us : List Str) : PyData.eqv (headD b ws) (headD c us) = (decide (b = c) && decide (ws = us)) := by
  show (PyData.eqv (.str (sortS b)) (.str (sortS c)) && (PyData.eqv (wt ws) (wt us) && true)) = _
  rw [eqv_str, eqv_wt, Bool.and_true]
  by_cases h : b = c
  · subst h
    simp
  · rw [decide_eq_false h, decide_eq_false fun e => h (sortS_inj e)]
theorem shaped_head (b : Bool) {ws : List Str} (h : ∀ z ∈ ws, Wd z) : SeqAt.shaped (headD b ws) = true := by
  unfold SeqAt.shaped
  have d := depth_words ws
  have h2 : (headD b ws).depth ≤ 64 := by
    simp only [headD, wt, PyData.depth, PyData.depthAll, d]
    omega
  rw [decide_eq_true h2]
  simp [headD, PyData.canLay0, PyData.canLayAll0, ok_str (asc_sort b), lay_wt h]
end K7
namespace K7
open PySem L2 Ld PyProof.Rows
/-! ### Table() -/
section
variable {P : Program} {w : World} {K : PySem.W.Frag} {mg : Str → Option Value} {base : Heap} {f : Addr} {fd : FuncData}
theorem dc_tup0 {e : Addr} {g : TG} {tk tv : TE} {vs : List Nat} {σ : L2.St} {H1 : Hp} {D : Addr} {Qd : Hp → Prop} (he : SqT K (upd H1 D (kdO P w D [])) e []) (hd : ∀ G, G = upd H1 D (kdO P w D []) → Qd G) :
    ∃ W : Nat → Nat → Hp → Prop, (∃ m, W 0 m (upd H1 D (kdO P w D []))) ∧ ∀ i m G, W i m G → ((Itt K e).stop i G ∧ Qd G) ∨ ((Itt K e).go i G ∧ ∃ Nx : Hp → Prop, (∀ G', Nx G' → ∃ m', m' < m ∧ W (i + 1) m' G') ∧
      ∀ x G', (Itt K e).yld i G x G' → g x (wipe σ vs) G' fun σ2 G2 => wipe σ2 vs = wipe σ vs ∧ tk σ2 G2 fun y G4 => tv σ2 G4 fun z G5 => moreN P w K D y z G5 Nx) :=
  ⟨fun _ _ G => G = upd H1 D (kdO P w D []), ⟨0, rfl⟩, fun i m G h => by
    subst h
    exact .inl ⟨⟨[], he, Nat.zero_le _⟩, hd _ rfl⟩⟩
def spInitE (P : Program) (w : World) (K : PySem.W.Frag) (CT : Addr) : Sp := fun vs H Q _ => ∃ (a dx e : Addr), vs = [.ref a, .ref e] ∧ H a = some (.ins CT dx []) ∧ SqT K H e [] ∧
  ∀ H', (∀ b o, b ≠ a → H b = some o → H' b = some o) → TabAt P w K CT H' a [] → Q .non H'
theorem good0 : Good [] := ⟨(fun r h => nomatch h), by decide, by decide⟩
theorem ok_initE {CT : Addr} {dvs : List V} (Fd : FunD K "__init__" "Table.__init__" (defArgs sInit) (defBody sInit) (defScope sInit) dvs [] f fd) (T : Tx mg) (Y : Ty mg) (C : Tcl K CT) (DR : Df P w K mg base 5 "is_rule" ["value"] (spRule K)) (DK : Df P w K mg base 2 "rule_key" ["rule"] (spRK K)) :
    FnOk P w K mg base CX0 6 f fd ["self", "rules"] (spInitE P w K CT) := by
  refine Fd.ok0 scTab (fun vs H Q E h => ?_) (fun cdv A outer s H vs Q E hr h => ?_)
  · obtain ⟨a, dx, e, rfl, _⟩ := h
    rfl
  · obtain ⟨a, dx, e, rfl, ha, he, q⟩ := h
    obtain ⟨tm, hm⟩ := Y.mr
    obtain ⟨fk, fdk, gk, kk, bk, FK⟩ := DK.ex
    have hu : (A.deeper (envOfC "Table.__init__" (defScope sInit) s.heap.objs.size f cdv)).units + 64 < cLine := hr.units
    have nd := scTab.nd
    refine ⟨_, pss_cons (ps_for PassesOwn.never rfl (pi_tup (pv 1)) (pg_name (i := 2) nd rfl (Or.inl rfl)) (pss_one (ps_if (pt_not (pt_val (pe_df DR hr (pa_cons (pv 2) pa_nil)))) pss_dead pss_nil)))
      (pss_cons (ps_setDcN (i := 3) (own := [("rule", 2)]) (g := gName 2) (Nat.lt_of_le_of_lt (Nat.add_le_add_left (by decide) _) hr.units) (by rfl) nd rfl rfl (sw_dict rfl rfl rfl rfl) (pi_tup (pv 1)) (blkOk_by (own := [("rule", 2)]) (N := ["self", "rules", "rule", "found"]) (sc := defScope sInit) (by decide +kernel))
          (fun _ _ _ _ _ => pg_name (i := 2) nd rfl (Or.inl rfl)) (fun _ _ _ _ _ => pe_slice (r := rSlW K) sl_tupK (pv 2) po_none (po_some pe_int)) (fun _ _ _ _ _ => pv 2))
      (pss_cons (ps_if (PW.pt (pw_or (pt_cmpR op_gt (pe_callB call_len_seq (by rfl) T.len PySem.boot_len (pa_cons (pv 1) pa_nil)) (pe_glob (v := .int 40) (by rfl) hm ⟨_, rfl⟩) (nomark _))
          (pw_or1 (pt_cmpR op_lt (pe_callB call_lenN (by rfl) T.len PySem.boot_len (pa_cons (pv 3) pa_nil)) (pe_callB call_len_seq (by rfl) T.len PySem.boot_len (pa_cons (pv 1) pa_nil)) (nomark _))))) pss_dead pss_nil)
      (pss_cons (ps_fld (pv 0) (pe_callTy call_tuple_of (by rfl) T.tuple (by decide +kernel) (pa_cons (pe_callBK (cr_sortKT FK (hr.mono (by decide)) bk) (by rfl) Y.sorted boot_sorted (pa_cons (pv 1) pa_nil) (pk_cons (pe_glob (v := .ref fk) (by rfl) gk rfl) pk_nil)) pa_nil)) rfl)
      (pss_cons (ps_fld (pv 0) (pv 3) rfl)
      (pss_one (ps_fld (pv 0) (pe_callBK (cr_maxDf rfl (Nat.lt_of_le_of_lt (Nat.add_le_add_left (by decide) _) hr.units)) (by rfl) T.max PyProof.Rows.boot_max (pa_cons (pe_lc (own := [("rule", 2)]) (g := gName 2) (tt := tYes) (by rfl) nd (pi_tup (pv 1)) (blkOk_by (own := [("rule", 2)]) (N := ["self", "rules", "rule", "found"]) (sc := defScope sInit) (by decide +kernel))
        (fun _ _ _ _ _ => pg_name (i := 2) nd rfl (Or.inl rfl)) (fun _ _ _ _ _ => pts_nil) (fun _ _ _ _ _ => pe_callB (r := rLenK K) call_lenK (by rfl) T.len PySem.boot_len (pa_cons (pe_ix (r := rIxT K) ix_tupK (pv 2) pe_int (fun _ _ => rfl)) pa_nil))) pa_nil) (pk_cons pe_int pk_nil)) rfl)))))), ?_⟩
    refine ⟨_, rfl, e, rfl, ⟨_, he⟩, for_tup (K := K) (a := e) (xs := []) (fun j σ G => G = H ∧ ∃ u, σ = [some (.ref a), some (.ref e), u, none]) ⟨rfl, none, rfl⟩ (fun j σ G _ h => by rw [h.1]; exact he) (fun i x σ G hx => by simp at hx) ?_⟩
    rintro σ G ⟨rfl, u, rfl⟩
    refine ⟨_, rfl, e, rfl, ⟨_, he⟩, fun D hD low => ?_⟩
    refine dc_tup0 (K := K) (same_T (Same.new hD) he) fun G1 e1 => ?_
    have s1 : Same G G1 := by rw [e1]; exact Same.new hD
    have he1 := same_T s1 he
    have hD1 : G1 D = some (kdO P w D []) := by rw [e1]; exact upd_same
    have ha1 := s1 _ _ ha
    clear e1
    have kd : KD P w K G1 D [] := ⟨hD1, low, Nat.zero_le _, fun x hx => nomatch hx⟩
    refine ⟨_, rfl, e, [], rfl, .inr he1, _, _, rfl, rfl, _, rfl, ?_⟩
    refine iteF ⟨_, rfl, D, [], rfl, kd, _, rfl, e, [], rfl, .inr he1, _, _, rfl, rfl, _, rfl, ?_⟩
    refine iteF ⟨_, rfl, e, [], rfl, rfl, he1, by decide, (fun d hd => nomatch hd), .inl (fun d hd => nomatch hd), (fun z hz => nomatch hz), fun H2 q1 s2 hq nq => ⟨q1, _, rfl, .inl ⟨.of upd_same, fun t ht => ⟨_, rfl, a, CT, dx, [], rfl, ?_, C.cls, C.no1, (by decide), ?_⟩⟩⟩⟩
    · exact (Same.new ht) _ _ ((Same.new hq) _ _ (s2 _ _ ha1))
    rw [List.mergeSort_nil, List.map_nil] at ht ⊢
    have s3 := s2.trans ((Same.new (o := .lst ([] : List V)) hq).trans (Same.new (o := .tup ([] : List V)) ht))
    have ht3 := upd_same (H := upd H2 q1 (.lst ([] : List V))) (a := t) (o := .tup ([] : List V))
    generalize upd (upd H2 q1 (.lst [])) t (.tup []) = G3 at s3 ht3 ⊢
    have ha3 : G3 a = some (.ins CT dx []) := s3 _ _ ha1
    refine ⟨_, rfl, _, rfl, a, CT, dx, _, rfl, upd_same, C.cls, C.no2, (show 1 < 1000 by decide), ?_⟩
    have hT : ∀ b zs, SqT K G3 b zs → SqT K (upd (upd G3 a (.ins CT dx (putF "_rules" (.ref t) []))) a (.ins CT dx (putF "_found" (.ref D) (putF "_rules" (.ref t) [])))) b zs := fun b zs z => sqT_ins (upd_same) (sqT_ins ha3 z)
    have hD3 : G3 D = some (kdO P w D []) := s3 _ _ hD1
    have nDa : D ≠ a := ne_of hD3 ha3 fun e => nomatch e
    have off : ∀ b o, b ≠ a → G3 b = some o → (upd (upd G3 a (.ins CT dx (putF "_rules" (.ref t) []))) a (.ins CT dx (putF "_found" (.ref D) (putF "_rules" (.ref t) [])))) b = some o := fun b o nb e => by
      rw [upd_ne nb, upd_ne nb]
      exact e
    have at4 := upd_same (H := upd G3 a (.ins CT dx (putF "_rules" (.ref t) []))) (a := a) (o := .ins CT dx (putF "_found" (.ref D) (putF "_rules" (.ref t) [])))
    have he4 := hT _ _ (same_T s3 he1)
    generalize upd (upd G3 a (.ins CT dx (putF "_rules" (.ref t) []))) a (.ins CT dx (putF "_found" (.ref D) (putF "_rules" (.ref t) []))) = G4 at hT off at4 he4 ⊢
    refine ⟨_, rfl, e, rfl, ⟨_, he4⟩, fun L hL => ?_⟩
    refine lc_tup (K := K) (a := e) (xs := []) (fun i G5 => Same G4 G5 ∧ G5 L = some (.lst [])) ⟨Same.new hL, upd_same⟩ (fun i G5 _ h => same_T h.1 he4) (fun i x G5 hx => by simp at hx) ?_
    rintro G5 ⟨s5, h5⟩
    refine ⟨L, [], 0, rfl, rfl, .of h5, fun m m0 m1 m2 => ?_⟩
    obtain rfl := m0 rfl
    refine ⟨_, rfl, a, CT, dx, _, rfl, s5 _ _ at4, C.cls, C.no3, (show 2 < 1000 by decide), ?_⟩
    have hT5 : ∀ b zs, SqT K G3 b zs → SqT K (upd G5 a (.ins CT dx (putF "_longest" (.int 0) (putF "_found" (.ref D) (putF "_rules" (.ref t) []))))) b zs := fun b zs z => sqT_ins (s5 _ _ at4) (same_T s5 (hT _ _ z))
    refine q _ (fun b o nb e => ?_) ⟨dx, t, D, [], [], 0, ?_, hT5 _ _ (.of ht3), .nil, good0, ⟨?_, low, Nat.zero_le _, fun x hx => nomatch hx⟩, ⟨fun k v e => (nomatch e), fun r hr => nomatch hr⟩, ⟨by decide, by decide, fun r hr => nomatch hr⟩⟩
    · rw [upd_ne nb]
      exact s5 _ _ (off _ _ nb (s3 _ _ (s1 _ _ e)))
    · rw [upd_same]
      rfl
    · rw [upd_ne nDa]
      exact s5 _ _ (off _ _ nDa hD3)
end
/-- Table(): rules is the empty tuple of the def -/
structure Tmk0 (P : Program) (w : World) (K : PySem.W.Frag) (mg : Str → Option Value) (base : Heap) (CT : Addr) : Prop where
  gT : mg "Table" = some (.ref CT)
  ex : ∃ fI fdI e ds, Mk K CT fI ∧ Vals [.ref e] ds ∧ Binds K fdI ["self", "rules"] ds ∧ FnOk P w K mg base CX0 6 fI fdI ["self", "rules"] (spInitE P w K CT) ∧ ∀ H, SqT K H e []
def tTable0 (P : Program) (w : World) (K : PySem.W.Frag) (CT : Addr) : TE := fun _ H Q => ∀ a H', H a = none → Same H H' → TabAt P w K CT H' a [] → Q (.ref a) H'
theorem pe_table0 {X : Cx} {CT : Addr} {p pos : Pos} {j : Nat} (B : Tmk0 X.prog X.w X.K X.mg X.base CT) (hr : Room j X.A) (hj : 7 ≤ j := by decide) (hg : Gl X "Table" := by rfl) : PE X (.Call (.Name "Table" p) [] [] pos) (tTable0 X.prog X.w X.K CT) :=
  let ⟨_, _, e, _, M, hd, hb, F, he⟩ := B.ex
  PE.conv (pe_make0 (E := E0) (dvs := [.ref e]) M F (hr.mono hj) hg B.gT hb hd (fun _ _ _ _ _ _ _ z => False.elim z)) fun σ H Q q x dx hx hd ne => by
    have s1 : Same H (upd (upd H dx (.own x)) x (.ins CT dx [])) := fun b o e => by
      rw [upd_ne (ne_of_none e hx), upd_ne (ne_of_none e hd)]
      exact e
    exact ⟨x, dx, e, rfl, upd_same, he _, fun H' fr tb => ⟨rfl, q x H' hx (fun b o e => fr b o (ne_of_none e hx) (s1 _ _ e)) tb⟩⟩
end K7
namespace K7
open PySem L2 Ld PyProof.Rows
abbrev sRulesOf : Stmt := top 35
/-! ### rules of one table, drawn -/
theorem sqT_well {K : PySem.W.Frag} {H H' : Hp} {wa a : Addr} {xs : List V} (W : Well H wa) (s : Sb wa H H') (h : SqT K H a xs) : SqT K H' a xs := seqT W s h
section
variable {P : Program} {w : World} {K : PySem.W.Frag} {mg : Str → Option Value} {base : Heap} {f : Addr} {fd : FuncData}
theorem RuleAt.sb {H H' : Hp} {wa : Addr} {v : V} {r : Rl} (z : RuleAt K H v r) (W : Well H wa) (s : Sb wa H H') : RuleAt K H' v r := z.mono fun _ _ q => seqT W s q
def RowR (K : PySem.W.Frag) (H : Hp) (x : Rw) (r : Rl) : Prop := x.1 = r.key ∧ RuleAt K H x.2.2 r
/-- the dict of the rules drawn so far -/
def Drawn (P : Program) (w : World) (K : PySem.W.Frag) (H : Hp) (D : Addr) (n : Nat) : Prop := ∃ (rows : List Rw) (rs : List Rl), KD P w K H D rows ∧ rows.length ≤ n ∧ Paired (RowR K H) rows rs ∧ (∀ r ∈ rs, r.Ok ∧ r.M4) ∧ (rs.map Rl.key).Nodup
theorem rows_rules {H : Hp} : ∀ {rows : List Rw} {rs : List Rl}, Paired (RowR K H) rows rs → Rules K H (rows.map (·.2.2)) rs
  | _, _, .nil => .nil
  | _, _, .cons a b => .cons a.2 (rows_rules b)
theorem kGet_not : ∀ {rows : List Rw} {k : NestedKey}, kGet rows k = none → ∀ x ∈ rows, x.1 ≠ k
  | [], _, _, x, h => nomatch h
  | y :: rows, k, e, x, h => by
    rw [kGet_cons] at e
    by_cases hk : y.1 = k
    · rw [if_pos hk] at e
      cases e
    · rw [if_neg hk] at e
      rcases List.mem_cons.mp h with z | h
      · rw [z]
        exact hk
      · exact kGet_not e x h
theorem row_key {H : Hp} : ∀ {rows : List Rw} {rs : List Rl}, Paired (RowR K H) rows rs → ∀ r ∈ rs, ∃ x ∈ rows, x.1 = r.key
  | _, _, .nil, r, h => nomatch h
  | _, _, .cons a b, r, h => by
    rcases List.mem_cons.mp h with z | h
    · rw [z]
      exact ⟨_, List.mem_cons_self, a.1⟩
    · obtain ⟨x, h1, h2⟩ := row_key b r h
      exact ⟨x, List.mem_cons_of_mem _ h1, h2⟩
def putR (r : Rl) (t : Rl) : Rl := if t.key = r.key then r else t
theorem putR_key (r t : Rl) : (putR r t).key = t.key := by
  unfold putR
  by_cases h : t.key = r.key
  · rw [if_pos h, h]
  · rw [if_neg h]
theorem rows_setR {H : Hp} {r : Rl} {v : V} (hv : RuleAt K H v r) : ∀ {rows : List Rw} {rs : List Rl}, Paired (RowR K H) rows rs → Paired (RowR K H) (rows.map (kSet r.key v)) (rs.map (putR r))
  | _, _, .nil => .nil
  | _, _, .cons (a := x) (b := t) a b => by
    refine .cons ?_ (rows_setR hv b)
    obtain ⟨a1, a2⟩ := a
    unfold kSet putR
    by_cases h : x.1 = r.key
    · rw [if_pos h, if_pos (a1 ▸ h)]
      exact ⟨h, hv⟩
    · rw [if_neg h, if_neg (a1 ▸ h)]
      exact ⟨a1, a2⟩
theorem RowR.mono {H H' : Hp} {x : Rw} {r : Rl} (z : RowR K H x r) (hT : ∀ a xs, SqT K H a xs → SqT K H' a xs) : RowR K H' x r := ⟨z.1, z.2.mono hT⟩
theorem Drawn.put {G : Hp} {D u : Addr} {n : Nat} {rows : List Rw} {rs : List Rl} {r : Rl} {v : V} (kd : KD P w K G D rows) (few : rows.length ≤ n) (n9 : n ≤ 900) (pr : Paired (RowR K G) rows rs) (ok : ∀ t ∈ rs, t.Ok ∧ t.M4) (one : (rs.map Rl.key).Nodup) (hr : r.Ok ∧ r.M4) (hv : RuleAt K G v r) (hk : NIs K G r.key (.ref u)) :
    Drawn P w K (upd G D (kdO P w D (kPut rows r.key u v))) D (n + 1) := by
  have hT : ∀ b ys, SqT K G b ys → SqT K (upd G D (kdO P w D (kPut rows r.key u v))) b ys := fun b ys z => sqT_kd kd.at_ z
  have ln := pr.length
  have l2 := kPut_len rows r.key u v
  by_cases h : (kGet rows r.key).isSome = true
  · have e : kPut rows r.key u v = rows.map (kSet r.key v) := by
      unfold kPut
      rw [if_pos h]
    refine ⟨_, rs.map (putR r), ⟨upd_same, kd.low, by omega, fun x hx => ?_⟩, by omega, ?_, fun t ht => ?_, ?_⟩
    · rw [e] at hx
      obtain ⟨y, hy, rfl⟩ := List.mem_map.mp hx
      have z := kd.key y hy
      unfold kSet
      split
      · exact ⟨nis_mono hT z.1, z.2⟩
      · exact ⟨nis_mono hT z.1, z.2⟩
    · have p2 := rows_setR hv pr
      rw [← e] at p2
      exact Paired.mono (fun _ _ z => z.mono hT) p2
    · obtain ⟨t', h1, rfl⟩ := List.mem_map.mp ht
      unfold putR
      split
      · exact hr
      · exact ok t' h1
    · rw [List.map_map]
      have e2 : (Rl.key ∘ putR r) = Rl.key := funext fun t => putR_key r t
      rw [e2]
      exact one
  · have hn : kGet rows r.key = none := by
      cases q : kGet rows r.key with
      | none => rfl
      | some _ => rw [q] at h; exact absurd rfl h
    have e : kPut rows r.key u v = rows ++ [(r.key, u, v)] := by
      unfold kPut
      rw [if_neg h]
    refine ⟨_, rs ++ [r], ⟨upd_same, kd.low, by omega, fun x hx => ?_⟩, by omega, ?_, fun t ht => ?_, ?_⟩
    · rw [e] at hx
      rcases List.mem_append.mp hx with hx | hx
      · exact ⟨nis_mono hT (kd.key x hx).1, (kd.key x hx).2⟩
      · rw [List.mem_singleton.mp hx]
        exact ⟨nis_mono hT hk, key_deep _ _⟩
    · have p1 : Paired (RowR K G) (rows ++ [(r.key, u, v)]) (rs ++ [r]) := pr.snoc ⟨rfl, hv⟩
      rw [← e] at p1
      exact Paired.mono (fun _ _ z => z.mono hT) p1
    · rcases List.mem_append.mp ht with ht | ht
      · exact ok t ht
      · rw [List.mem_singleton.mp ht]
        exact hr
    · rw [List.map_append, List.nodup_append]
      refine ⟨one, by simp, fun x hx y hy e2 => ?_⟩
      obtain ⟨t, ht, rfl⟩ := List.mem_map.mp hx
      have ey : y = r.key := by simpa using hy
      obtain ⟨x, hx2, ex⟩ := row_key pr t ht
      exact kGet_not hn x hx2 (ex.trans (e2.trans ey))
def spRulesOf (P : Program) (w : World) (K : PySem.W.Frag) : Sp := fun vs H Q _ => ∃ (wa : Addr) (n m : Nat), vs = [.ref wa, .int (n : Int), .int (m : Int)] ∧ n ≤ 8 ∧ m ≤ 2 ∧ Well H wa ∧ ∀ (l : Addr) (xs : List V) (rs : List Rl) H', H' l = some (.lst xs) → Rules K H' xs rs → Good rs → (∀ r ∈ rs, r.M4) → rs.length ≤ n → Well H' wa → Sb wa H H' → H l = none → Q (.ref l) H'
theorem scRulesOf : FnScope ["_law_well_here", "_law_many", "_law_most", "_law_found", "_law_turn", "_law_rule_here"] ["_law_well_here", "_law_many", "_law_most"] (defScope sRulesOf) := ⟨rfl, rfl, rfl, by decide +kernel, rfl, by decide +kernel, by decide +kernel⟩
theorem ok_rulesOf (Fd : Fun K "_law_rules" "_law_rules" sRulesOf f fd) (T : Tx mg) (D : Df P w K mg base 1 "_law_draw" ["_law_well_here", "_law_many"] spDraw) (R : Df P w K mg base 4 "_law_rule" ["_law_well_here", "_law_most"] (spRuleOf K)) :
    FnOk P w K mg base CX0 5 f fd ["_law_well_here", "_law_many", "_law_most"] (spRulesOf P w K) := by
  refine Fd.ok scRulesOf (fun vs H Q E h => ?_) (fun cdv A outer s H vs Q E hr h => ?_)
  · obtain ⟨wa, n, m, rfl, _⟩ := h
    rfl
  · obtain ⟨wa, n, m, rfl, hn, hm, hw, q⟩ := h
    have nd := scRulesOf.nd
    have hu16 : (A.deeper (envOfC "_law_rules" (defScope sRulesOf) s.heap.objs.size f cdv)).units + 16 < cLine := Nat.lt_of_le_of_lt (Nat.add_le_add_left (by decide) _) hr.units
    refine ⟨_, pss_cons (ps_set (i := 3) nd rfl (Or.inl rfl) pe_dnewN)
      (pss_cons (ps_for PassesOwn.never rfl (pi_range1 rfl T.range (pa_cons (pe_df D hr (pa_cons (pv 0) (pa_cons (pe_op op_add (pv 1) pe_int) pa_nil))) pa_nil)) (pg_name (i := 4) nd rfl (Or.inl rfl))
        (pss_cons (ps_set (i := 5) nd rfl (Or.inl rfl) (pe_df R hr (pa_cons (pv 0) (pa_cons (pv 2) pa_nil))))
        (pss_one (ps_asg (pv 5) (pg_sub (pv 3) (pe_tup (pa_cons (pe_ix ix_tup (pv 5) pe_int (fun _ _ => rfl)) (pa_cons (pe_ix ix_tup (pv 5) pe_int (fun _ _ => rfl)) pa_nil))) (pset_kd hu16))))))
      (pss_one (ps_ret (pe_listVals (by rfl) (by rfl) T.list (pv 3))))), ?_⟩
    refine fun D hD low => ?_
    have s0 := Same.new (o := kdO P w D []) hD
    refine ⟨_, rfl, _, rfl, _, _, rfl, rfl, wa, (n : Int) + 1, rfl, hw.same s0, by omega, by omega, fun k G4 k0 k1 W4 s4 => ⟨k, rfl, by omega, by omega, ?_⟩⟩
    have nDw : D ≠ wa := fun e => by
      obtain ⟨d, mm, h1, _⟩ := hw
      rw [e, h1] at hD
      cases hD
    have d0 : Drawn P w K G4 D 0 := ⟨[], [], ⟨s4 D _ nDw upd_same, low, Nat.zero_le _, fun x hx => nomatch hx⟩, Nat.le_refl _, .nil, (fun r hr => nomatch hr), List.Pairwise.nil⟩
    refine for_range (lo := 0) (n := k.toNat) (fun i σ G => Sb wa H G ∧ Well G wa ∧ Drawn P w K G D i ∧ ∃ u x, σ = [some (.ref wa), some (.int n), some (.int m), some (.ref D), u, x]) ⟨(Sb.of s0).trans s4, W4, d0, _, _, rfl⟩ ?_ ?_
    · rintro i σ G hi ⟨sG, WG, ⟨rows, rs, kd, few, pr, ok, one⟩, u, x, rfl⟩
      refine ⟨_, rfl, _, rfl, wa, m, rfl, hm, WG, fun v r G5 rv hr hr4 W5 s5 => ?_⟩
      obtain ⟨ra, rp, ry, rfl, t1, t2, t3⟩ := id rv
      refine ⟨_, rfl, _, rfl, _, rfl, ra, _, _, _, rfl, rfl, t1, at0, _, rfl, ra, _, _, _, rfl, rfl, t1, at1, (show 2 ≤ sizeLine by decide), fun u2 hu2 => ?_⟩
      have s6 := Same.new (o := .tup [.str (sortS r.ex), .ref rp]) hu2
      have pr6 : Paired (RowR K (upd G5 u2 (.tup [.str (sortS r.ex), .ref rp]))) rows rs := Paired.mono (fun _ _ z => z.mono fun _ _ q => same_T s6 (seqT WG s5 q)) pr
      have kd6 := (kd.sb WG s5).same s6
      have hk6 : NIs K (upd G5 u2 (.tup [.str (sortS r.ex), .ref rp])) r.key (.ref u2) := nis_key (.of upd_same) (same_T s6 t2)
      have rv6 := rv.same s6
      have W6 := W5.same s6
      have sG6 := sG.trans (s5.trans (.of s6))
      generalize upd G5 u2 (.tup [.str (sortS r.ex), .ref rp]) = G6 at pr6 kd6 hk6 rv6 W6 sG6 ⊢
      refine ⟨u2, D, r.key, rows, rfl, rfl, hk6, key_deep _ _, kd6, fun b o nb e => ?_, ?_, Drawn.put kd6 few (by omega) pr6 ok one ⟨hr, hr4⟩ rv6 hk6, _, _, rfl⟩
      · exact (upd_ne (ne_of_none e hD)).trans (sG6 b o nb e)
      · obtain ⟨d, mm, h1, h2⟩ := W6
        exact ⟨d, mm, (upd_ne nDw.symm).trans h1, h2⟩
    · rintro σ G ⟨sG, WG, ⟨rows, rs, kd, few, pr, ok, one⟩, u, x, rfl⟩
      have ln := pr.length
      refine ⟨_, rfl, D, rows, rfl, kd, fun l hl nl => ?_⟩
      have s6 := Same.new (o := .lst (rows.map (·.2.2))) hl
      refine q l _ rs _ upd_same ((rows_rules pr).same s6) ⟨fun r h => (ok r h).1, by omega, one⟩ (fun r h => (ok r h).2) (by omega) (WG.same s6) (sG.trans (.of s6)) ?_
      cases e : H l with
      | none => rfl
      | some o =>
        by_cases nl2 : l = wa
        · obtain ⟨d, mm, h1, _⟩ := WG
          rw [nl2, h1] at hl
          cases hl
        · rw [sG l o nl2 e] at hl
          cases hl
end
end K7
namespace K7
open PySem L2 Ld PyProof.Rows
abbrev sNextWords : Stmt := top 28
/-! ### addresses and the words behind them -/
def kA (ws : List Str) : NestedKey := .tup (ws.map .text)
theorem nis_ws {K : PySem.W.Frag} {H : Hp} {p : Addr} {ws : List Str} (h : SqT K H p (ws.map V.str)) : NIs K H (kA ws) (.ref p) := .tup h (nall_strs ws)
theorem kA_deep (ws : List Str) : (kA ws).depth ≤ 8 := by
  have h : ∀ ws : List Str, NestedKey.depthAll (ws.map NestedKey.text) = 0 := fun ws => by
    induction ws with
    | nil => rfl
    | cons w ws ih => simp [NestedKey.depthAll, NestedKey.depth, ih]
  simp only [kA, NestedKey.depth, h]
  omega
theorem kA_inj {ws us : List Str} (h : kA ws = kA us) : ws = us := by
  unfold kA at h
  simp only [NestedKey.tup.injEq] at h
  induction ws generalizing us with
  | nil => cases us with
    | nil => rfl
    | cons _ _ => simp at h
  | cons w ws ih => cases us with
    | nil => simp at h
    | cons u us =>
      simp only [List.map_cons, List.cons.injEq, NestedKey.text.injEq] at h
      rw [h.1, ih h.2]
section
variable {P : Program} {w : World} {K : PySem.W.Frag} {mg : Str → Option Value} {base : Heap} {f : Addr} {fd : FuncData}
theorem scNW : FnScope ["places", "found", "place", "start"] ["places"] (defScope sNextWords) := ⟨rfl, rfl, rfl, by decide +kernel, rfl, by decide +kernel, by decide +kernel⟩
/-! ### the dict of the words that follow -/
def RowW (H : Hp) (x : Rw) (e : List Str × List Str) : Prop := x.1 = kA e.1 ∧ ∃ l, x.2.2 = .ref l ∧ H l = some (.lst (e.2.map V.str))
def NW (P : Program) (w : World) (K : PySem.W.Frag) (H : Hp) (D : Addr) (es : List (List Str × List Str)) : Prop := ∃ rows : List Rw, KD P w K H D rows ∧ Paired (RowW H) rows es ∧ (rows.map (·.2.2)).Nodup ∧ (es.map (·.1)).Nodup
def keyIn (es : List (List Str × List Str)) (ws : List Str) : Bool := decide (ws ∈ es.map (·.1))
def addTo (k : List Str) (x : Str) (e : List Str × List Str) : List Str × List Str := if e.1 = k then (e.1, e.2 ++ [x]) else e
theorem NW.get {H : Hp} {D : Addr} {rows : List Rw} {es : List (List Str × List Str)} (ws : List Str) (z : Paired (RowW H) rows es) : (kGet rows (kA ws)).isSome = keyIn es ws := by
  induction z with
  | nil => rfl
  | @cons x e rows es a b ih =>
    rw [kGet_cons]
    unfold keyIn at ih ⊢
    by_cases h : e.1 = ws
    · rw [if_pos (by rw [a.1, h])]
      simp [h]
    · rw [if_neg (by rw [a.1]; exact fun q => h (kA_inj q)), ih]
      have n : ¬ ws = e.1 := fun q => h q.symm
      simp [n]
theorem rowW_mem {H : Hp} {rows : List Rw} {es : List (List Str × List Str)} (z : Paired (RowW H) rows es) : ∀ x ∈ rows, ∃ l us, x.2.2 = .ref l ∧ H l = some (.lst us) := by
  induction z with
  | nil => exact fun x h => nomatch h
  | cons a b ih =>
    intro x h
    rcases List.mem_cons.mp h with e | h2
    · obtain ⟨_, l, h1, h3⟩ := a
      exact ⟨l, _, by rw [e]; exact h1, h3⟩
    · exact ih x h2
/-- a list of one key grows -/
theorem rowW_grow {H : Hp} {l : Addr} {us : List V} {x : Str} : ∀ {rows : List Rw} {es : List (List Str × List Str)} {k : List Str}, Paired (RowW H) rows es → (rows.map (·.2.2)).Nodup → (es.map (·.1)).Nodup → kGet rows (kA k) = some (.ref l) →
    (∀ e ∈ es, e.1 = k → us = e.2.map V.str) ∧ Paired (RowW (upd H l (.lst (us ++ [.str x])))) rows (es.map (addTo k x)) ∨ ¬ H l = some (.lst us)
  | _, _, k, z, n1, n2, g => by
    by_cases hl : H l = some (.lst us)
    · refine .inl ?_
      induction z with
      | nil => cases g
      | @cons r e rows es a b ih =>
        rw [List.map_cons, List.nodup_cons] at n1 n2
        obtain ⟨a1, l2, a2, a3⟩ := a
        rw [kGet_cons] at g
        by_cases h : e.1 = k
        · rw [if_pos (by rw [a1, h]), a2] at g
          have e2 : l2 = l := by
            injection g with g
            injection g
          subst e2
          rw [hl] at a3
          have eu : us = e.2.map V.str := by
            injection a3 with a3
            injection a3
          have notk : ∀ t ∈ es, t.1 ≠ k := fun t ht q => n2.1 (by rw [h, ← q]; exact List.mem_map_of_mem ht)
          refine ⟨fun t ht q => ?_, ?_⟩
          · rcases List.mem_cons.mp ht with z | ht
            · rw [z]
              exact eu
            · exact absurd q (notk t ht)
          · refine .cons ⟨?_, l2, a2, ?_⟩ ?_
            · unfold addTo
              rw [if_pos h]
              exact a1
            · unfold addTo
              rw [if_pos h, upd_same, eu, List.map_append]
              rfl
            · have em : es.map (addTo k x) = es := by
                refine (List.map_congr_left fun t ht => ?_).trans (List.map_id _)
                unfold addTo
                rw [if_neg (notk t ht)]
                rfl
              rw [em]
              have out : ∀ y ∈ rows, y.2.2 ≠ .ref l2 := fun y hy q => n1.1 (by rw [a2, ← q]; exact List.mem_map_of_mem (f := fun z : Rw => z.2.2) hy)
              clear ih g
              induction b with
              | nil => exact .nil
              | @cons r2 e3 rows2 es2 c d ih2 =>
                obtain ⟨c1, l3, c2, c3⟩ := c
                refine .cons ⟨c1, l3, c2, ?_⟩ (ih2 (by
                  have := n1.1
                  refine ⟨fun hm => this (by rw [List.map_cons]; exact List.mem_cons_of_mem _ hm), ?_⟩
                  have n3 := n1.2
                  rw [List.map_cons, List.nodup_cons] at n3
                  exact n3.2) (by
                  have := n2.1
                  refine ⟨fun hm => this (by rw [List.map_cons]; exact List.mem_cons_of_mem _ hm), ?_⟩
                  have n3 := n2.2
                  rw [List.map_cons, List.nodup_cons] at n3
                  exact n3.2) (fun t ht => notk t (List.mem_cons_of_mem _ ht)) (by
                  rw [List.map_cons] at em
                  exact (List.cons.inj em).2) (fun y hy => out y (List.mem_cons_of_mem _ hy)))
                rw [upd_ne (fun q => out r2 List.mem_cons_self (by rw [c2, q]))]
                exact c3
        · rw [if_neg (by rw [a1]; exact fun q => h (kA_inj q))] at g
          obtain ⟨i1, i2⟩ := ih n1.2 n2.2 g
          refine ⟨fun t ht q => ?_, .cons ⟨?_, l2, a2, ?_⟩ i2⟩
          · rcases List.mem_cons.mp ht with z | ht
            · rw [z] at q
              exact absurd q h
            · exact i1 t ht q
          · unfold addTo
            rw [if_neg h]
            exact a1
          · unfold addTo
            rw [if_neg h]
            have ne : l2 ≠ l := fun q => by
              rw [q] at a2
              have hm : ∃ y ∈ rows, y.2.2 = .ref l := by
                unfold kGet at g
                obtain ⟨y, hy, e⟩ := Option.map_eq_some_iff.mp g
                exact ⟨y, List.mem_of_find?_eq_some hy, e⟩
              obtain ⟨y, hy, ey⟩ := hm
              exact n1.1 (by rw [a2, ← ey]; exact List.mem_map_of_mem (f := fun z : Rw => z.2.2) hy)
            rw [upd_ne ne]
            exact a3
    · exact .inr hl
/-- a key more -/
theorem nw_new {H : Hp} {D b l : Addr} {rows : List Rw} {es : List (List Str × List Str)} {ws : List Str} (kd : KD P w K H D rows) (few : rows.length ≤ 900) (z : Paired (RowW H) rows es) (n1 : (rows.map (·.2.2)).Nodup) (n2 : (es.map (·.1)).Nodup) (no : keyIn es ws = false) (hk : NIs K H (kA ws) (.ref b)) (hl : H l = some (.lst [])) (fr : ∀ x ∈ rows, x.2.2 ≠ .ref l) :
    NW P w K (upd H D (kdO P w D (kPut rows (kA ws) b (.ref l)))) D (es ++ [(ws, [])]) := by
  have hT : ∀ c ys, SqT K H c ys → SqT K (upd H D (kdO P w D (kPut rows (kA ws) b (.ref l)))) c ys := fun c ys q => sqT_kd kd.at_ q
  have e : kPut rows (kA ws) b (.ref l) = rows ++ [(kA ws, b, .ref l)] := by
    unfold kPut
    rw [if_neg (by rw [NW.get (D := D) ws z, no]; decide)]
  have hL : ∀ {c : Addr} {us : List V}, H c = some (.lst us) → (upd H D (kdO P w D (kPut rows (kA ws) b (.ref l)))) c = some (.lst us) := fun {c us} q => (upd_ne (ne_of q kd.at_ fun e => nomatch e)).trans q
  refine ⟨_, ⟨upd_same, kd.low, ?_, fun x hx => ?_⟩, ?_, ?_, ?_⟩
  · have := kPut_len rows (kA ws) b (.ref l)
    omega
  · rw [e] at hx
    rcases List.mem_append.mp hx with hx | hx
    · exact ⟨nis_mono hT (kd.key x hx).1, (kd.key x hx).2⟩
    · rw [List.mem_singleton.mp hx]
      exact ⟨nis_mono hT hk, kA_deep ws⟩
  · have p1 : Paired (RowW (upd H D (kdO P w D (kPut rows (kA ws) b (.ref l))))) rows es := Paired.mono (fun _ _ q => ⟨q.1, let ⟨c, h1, h2⟩ := q.2; ⟨c, h1, hL h2⟩⟩) z
    have p2 := p1.snoc (a := (kA ws, b, V.ref l)) (b := (ws, [])) ⟨rfl, l, rfl, hL hl⟩
    rw [← e] at p2
    exact p2
  · rw [e, List.map_append, List.nodup_append]
    refine ⟨n1, by simp, fun x hx y hy q => ?_⟩
    obtain ⟨t, ht, rfl⟩ := List.mem_map.mp hx
    have ey : y = .ref l := by simpa using hy
    exact fr t ht (q.trans ey)
  · rw [List.map_append, List.nodup_append]
    refine ⟨n2, by simp, fun x hx y hy q => ?_⟩
    have ey : y = ws := by simpa using hy
    rw [q, ey] at hx
    exact (of_decide_eq_false no) hx
/-! ### what _next_words makes of places -/
def stepW (es : List (List Str × List Str)) (ws : List Str) : List (List Str × List Str) := if keyIn es ws = true then es else (es ++ [(ws, [])]).map (addTo ws.dropLast (ws.getLast?.getD Str.empty))
def begsOf (ws : List Str) : List (List Str) := (List.range (ws.length + 1)).map ws.take
def nextOf (pls : List (List Str)) : List (List Str × List Str) := (pls.flatMap begsOf).foldl stepW [([], [])]
/-- what the walk keeps: lists that are new since H0 -/
def NWs (P : Program) (w : World) (K : PySem.W.Frag) (H0 H : Hp) (D : Addr) (es : List (List Str × List Str)) (n : Nat) : Prop := ∃ rows : List Rw, KD P w K H D rows ∧ Paired (RowW H) rows es ∧ (rows.map (·.2.2)).Nodup ∧ (es.map (·.1)).Nodup ∧ (∀ x ∈ rows, ∀ l, x.2.2 = .ref l → H0 l = none) ∧ keyIn es [] = true ∧ rows.length ≤ n
theorem kget_mem {rows : List Rw} {k : NestedKey} {v : V} (g : kGet rows k = some v) : ∃ y ∈ rows, y.2.2 = v := by
  unfold kGet at g
  obtain ⟨y, hy, e⟩ := Option.map_eq_some_iff.mp g
  exact ⟨y, List.mem_of_find?_eq_some hy, e⟩
theorem keyIn_grow {es : List (List Str × List Str)} {k : List Str} {x : Str} (us : List Str) : keyIn (es.map (addTo k x)) us = keyIn es us := by
  unfold keyIn
  have e : (es.map (addTo k x)).map (·.1) = es.map (·.1) := by
    rw [List.map_map]
    refine List.map_congr_left fun t _ => ?_
    show (addTo k x t).1 = t.1
    unfold addTo
    split <;> rfl
  rw [e]
theorem keyIn_more {es : List (List Str × List Str)} {ws us : List Str} (h : keyIn es us = true ∨ us = ws) : keyIn (es ++ [(ws, [])]) us = true := by
  unfold keyIn at h ⊢
  rcases h with h | h
  · exact decide_eq_true (by rw [List.map_append]; exact List.mem_append_left _ (of_decide_eq_true h))
  · exact decide_eq_true (by rw [h]; simp)
theorem kGet_put {rows : List Rw} {k j : NestedKey} {b : Addr} {v : V} (no : kGet rows k = none) (ne : j ≠ k) : kGet (kPut rows k b v) j = kGet rows j := by
  have e : kPut rows k b v = rows ++ [(k, b, v)] := by
    unfold kPut
    rw [no]
    rfl
  rw [e, kGet_snoc, if_neg ne.symm]
  cases kGet rows j <;> rfl
theorem nw_term (Fd : Fun K "_next_words" "_next_words" sNextWords f fd) (T : Tx mg) (DB : Df P w K mg base 1 "beginnings" ["address"] (spBegs K)) {cdv : Value} {A : Around} {outer : List Env} {s : Shared} {H : Hp} {E : XK} (hr : Room 4 (A.deeper (envOfC "_next_words" (defScope sNextWords) s.heap.objs.size f cdv))) :
    ∃ t, PSs (cxOf CX0 P w K mg base ["places", "found", "place", "start"] "_next_words" (defScope sNextWords) f cdv A outer s H E).nox (defBody sNextWords) t := by
  have nd := scNW.nd
  have hu16 : (A.deeper (envOfC "_next_words" (defScope sNextWords) s.heap.objs.size f cdv)).units + 16 < cLine := Nat.lt_of_le_of_lt (Nat.add_le_add_left (by decide) _) hr.units
  exact ⟨_, pss_cons (ps_set (i := 1) nd rfl (Or.inl rfl) (pe_disp1N hu16 (pps_cons (pe_tup pa_nil) (pe_lstN pa_nil) pps_nil) rfl))
    (pss_cons (ps_for PassesOwn.never rfl (pi_list (pv 0)) (pg_name (i := 2) nd rfl (Or.inl rfl)) (pss_one (ps_for PassesOwn.never rfl (pi_list (pe_df DB hr (pa_cons (pv 2) pa_nil))) (pg_name (i := 3) nd rfl (Or.inl rfl))
      (pss_one (ps_if (pt_cmpR (op_notInN hu16) (pv 3) (pv 1) (by rfl))
        (pss_cons (ps_asg (pe_lstN pa_nil) (pg_sub (pv 1) (pv 3) (pset_kd hu16)))
        (pss_one (ps_expr (pe_bm PySem.F.plainAttrs_list PySem.F.slot_list_append PySem.F.type_list_append mt_append (pe_ix (ix_kd hu16) (pv 1) (pe_slice (r := rSlW K) sl_tupK (pv 3) po_none (po_some (pe_un un_neg pe_int))) (fun _ _ => rfl))
          (pa_cons (pe_ix ix_tup (pv 3) (pe_un un_neg pe_int) (fun _ _ => rfl)) pa_nil))))) pss_nil)))))
    (pss_one (ps_ret (pv 1))))⟩
end
end K7
namespace K7
open PySem L2 Ld PyProof.Rows
section
variable {P : Program} {w : World} {K : PySem.W.Frag} {mg : Str → Option Value} {base : Heap} {f : Addr} {fd : FuncData}
theorem pe_disp1NK {X : Cx} {P : Program} {w : World} {K : PySem.W.Frag} {pos : Pos} {ke : Option Expr} {ve : Expr} {trs : List (TE × TE)} (hu : X.A.units + 16 < cLine) (h : PPs X pos [ke] [ve] trs) (hall : [ke].all (·.isSome) = true) (hP : X.prog = P := by rfl) (hw : X.w = w := by rfl) (hK : X.K = K := by rfl) : PE X (.Dict [ke] [ve] pos) (tDisp1N P w K trs) := by
  subst hP hw hK
  exact pe_disp1N hu h hall
theorem op_notInNK {X : Cx} {P : Program} {w : World} {K : PySem.W.Frag} (hu : X.A.units + 16 < cLine) (hP : X.prog = P := by rfl) (hw : X.w = w := by rfl) (hK : X.K = K := by rfl) : OpR X (compareOp .NotIn) (rNotInN P w K) := by
  subst hP hw hK
  exact op_notInN hu
theorem pset_kdK {X : Cx} {P : Program} {w : World} {K : PySem.W.Frag} (hu : X.A.units + 16 < cLine) (hP : X.prog = P := by rfl) (hw : X.w = w := by rfl) (hK : X.K = K := by rfl) : PSet X (putN P w K) := by
  subst hP hw hK
  exact pset_kd hu
def rIxN (P : Program) (w : World) (K : PySem.W.Frag) : R2 := fun x y H Q => ∃ (b d : Addr) (k : NestedKey) (xs : List Rw) (v : V), x = .ref d ∧ y = .ref b ∧ NIs K H k (.ref b) ∧ k.depth ≤ 8 ∧ KD P w K H d xs ∧ kGet xs k = some v ∧ Q v H
theorem ix_kdK {X : Cx} {P : Program} {w : World} {K : PySem.W.Frag} (hu : X.A.units + 16 < cLine) (hP : X.prog = P := by rfl) (hw : X.w = w := by rfl) (hK : X.K = K := by rfl) : IxR X (rIxN P w K) := by
  subst hP hw hK
  exact ix_kd hu
theorem pair_get {α β : Type} {F : α → β → Prop} : ∀ {xs : List α} {l : List β}, Paired F xs l → ∀ {i : Nat} {x : α}, xs[i]? = some x → ∃ k, l[i]? = some k ∧ F x k
  | _, _, .nil, i, x, h => by simp at h
  | _, _, .cons a b, 0, x, h => by
    simp at h
    subst h
    exact ⟨_, rfl, a⟩
  | _, _, .cons a b, i + 1, x, h => pair_get b (by simpa using h)
theorem begD_at (ws : List Str) {n j : Nat} (h : j < n) : (begD ws n)[j]? = some (wt (ws.take j)) := by
  unfold begD
  rw [List.getElem?_map, List.getElem?_range h]
  rfl
theorem begD_len (ws : List Str) (n : Nat) : (begD ws n).length = n := by
  unfold begD
  simp
theorem take_last {ws : List Str} {j : Nat} (h : j < ws.length) : ws.take (j + 1) = ws.take j ++ [ws[j]] := by
  rw [List.take_add_one, List.getElem?_eq_getElem h]
  rfl
theorem cut_last (us : List Str) (x : Str) : cutV ((us ++ [x]).map V.str) none (some (-1)) = us.map V.str := by
  unfold cutV
  have e : HT.sIx ((us ++ [x]).map V.str).length ((us ++ [x]).map V.str).length (some (-1)) = us.length := by
    show (if (-1 : Int) < 0 then ((-1 : Int) + ((((us ++ [x]).map V.str).length : Nat) : Int)).toNat else min (-1 : Int).toNat ((us ++ [x]).map V.str).length) = us.length
    rw [if_pos (by decide), List.length_map, List.length_append, List.length_singleton]
    omega
  rw [e, HT.sIx_none, List.drop_zero, Nat.sub_zero, List.map_append]
  have : us.length = (us.map V.str).length := by simp
  rw [this, List.take_left']
  rfl
/-- the dict of the words that follow; its lists lie apart from what av names -/
def NWa (P : Program) (w : World) (K : PySem.W.Frag) (av : Addr → Prop) (H : Hp) (D : Addr) (rows : List Rw) (es : List (List Str × List Str)) : Prop := KD P w K H D rows ∧ Paired (RowW H) rows es ∧ (rows.map (·.2.2)).Nodup ∧ (es.map (·.1)).Nodup ∧ (∀ x ∈ rows, ∀ l, x.2.2 = .ref l → ¬ av l)
theorem nwa_put {av : Addr → Prop} {H : Hp} {D b l : Addr} {rows : List Rw} {es : List (List Str × List Str)} {ws : List Str} (z0 : NWa P w K av H D rows es) (few : rows.length ≤ 900) (no : keyIn es ws = false) (hk : NIs K H (kA ws) (.ref b)) (hl : H l = some (.lst [])) (fr : ∀ x ∈ rows, x.2.2 ≠ .ref l) (nav : ¬ av l) :
    NWa P w K av (upd H D (kdO P w D (kPut rows (kA ws) b (.ref l)))) D (kPut rows (kA ws) b (.ref l)) (es ++ [(ws, [])]) := by
  obtain ⟨kd, z, n1, n2, n3⟩ := z0
  have hT : ∀ c ys, SqT K H c ys → SqT K (upd H D (kdO P w D (kPut rows (kA ws) b (.ref l)))) c ys := fun c ys q => sqT_kd kd.at_ q
  have e : kPut rows (kA ws) b (.ref l) = rows ++ [(kA ws, b, .ref l)] := by
    unfold kPut
    rw [if_neg (by rw [NW.get (D := D) ws z, no]; decide)]
  have hL : ∀ {c : Addr} {us : List V}, H c = some (.lst us) → (upd H D (kdO P w D (kPut rows (kA ws) b (.ref l)))) c = some (.lst us) := fun {c us} q => (upd_ne (ne_of q kd.at_ fun e => nomatch e)).trans q
  refine ⟨⟨upd_same, kd.low, ?_, fun x hx => ?_⟩, ?_, ?_, ?_, fun x hx c hc => ?_⟩
  · have := kPut_len rows (kA ws) b (.ref l)
    omega
  · rw [e] at hx
    rcases List.mem_append.mp hx with hx | hx
    · exact ⟨nis_mono hT (kd.key x hx).1, (kd.key x hx).2⟩
    · rw [List.mem_singleton.mp hx]
      exact ⟨nis_mono hT hk, kA_deep ws⟩
  · have p1 : Paired (RowW (upd H D (kdO P w D (kPut rows (kA ws) b (.ref l))))) rows es := Paired.mono (fun _ _ q => ⟨q.1, let ⟨c, h1, h2⟩ := q.2; ⟨c, h1, hL h2⟩⟩) z
    have p2 := p1.snoc (a := (kA ws, b, V.ref l)) (b := (ws, [])) ⟨rfl, l, rfl, hL hl⟩
    rw [← e] at p2
    exact p2
  · rw [e, List.map_append, List.nodup_append]
    refine ⟨n1, by simp, fun x hx y hy q => ?_⟩
    obtain ⟨t, ht, rfl⟩ := List.mem_map.mp hx
    have ey : y = .ref l := by simpa using hy
    exact fr t ht (q.trans ey)
  · rw [List.map_append, List.nodup_append]
    refine ⟨n2, by simp, fun x hx y hy q => ?_⟩
    have ey : y = ws := by simpa using hy
    rw [q, ey] at hx
    exact (of_decide_eq_false no) hx
  · rw [e] at hx
    rcases List.mem_append.mp hx with hx | hx
    · exact n3 x hx c hc
    · rw [List.mem_singleton.mp hx] at hc
      injection hc with hc
      rw [← hc]
      exact nav
theorem nwa_grow {av : Addr → Prop} {H : Hp} {D l : Addr} {rows : List Rw} {es : List (List Str × List Str)} {us : List V} {k : List Str} {x : Str} (z0 : NWa P w K av H D rows es) (g : kGet rows (kA k) = some (.ref l)) (hl : H l = some (.lst us)) :
    NWa P w K av (upd H l (.lst (us ++ [.str x]))) D rows (es.map (addTo k x)) := by
  obtain ⟨kd, z, n1, n2, n3⟩ := z0
  have hT : ∀ c ys, SqT K H c ys → SqT K (upd H l (.lst (us ++ [.str x]))) c ys := fun c ys q => sqT_list hl q
  rcases rowW_grow (x := x) z n1 n2 g with ⟨_, z2⟩ | h
  · refine ⟨⟨?_, kd.low, kd.few, fun y hy => ⟨nis_mono hT (kd.key y hy).1, (kd.key y hy).2⟩⟩, z2, n1, ?_, n3⟩
    · rw [upd_ne (fun e => by rw [← e] at hl; exact ne_of kd.at_ (hl) (fun e => nomatch e) rfl)]
      exact kd.at_
    · have e : (es.map (addTo k x)).map (·.1) = es.map (·.1) := by
        rw [List.map_map]
        refine List.map_congr_left fun t _ => ?_
        show (addTo k x t).1 = t.1
        unfold addTo
        split <;> rfl
      rw [e]
      exact n2
  · exact absurd hl h
theorem row_at {H : Hp} {k : List Str} : ∀ {rows : List Rw} {es : List (List Str × List Str)}, Paired (RowW H) rows es → keyIn es k = true → ∃ e l, e ∈ es ∧ e.1 = k ∧ kGet rows (kA k) = some (.ref l) ∧ H l = some (.lst (e.2.map V.str)) ∧ ∃ y ∈ rows, y.2.2 = .ref l
  | _, _, .nil, h => by cases h
  | x :: rows, e :: es, .cons a b, h => by
    obtain ⟨a1, l, a2, a3⟩ := a
    rw [kGet_cons]
    by_cases hk : e.1 = k
    · refine ⟨e, l, List.mem_cons_self, hk, ?_, a3, x, List.mem_cons_self, a2⟩
      rw [if_pos (by rw [a1, hk]), a2]
    · have h2 : keyIn es k = true := by
        unfold keyIn at h ⊢
        have := of_decide_eq_true h
        rw [List.map_cons] at this
        rcases List.mem_cons.mp this with q | q
        · exact absurd q.symm hk
        · exact decide_eq_true q
      obtain ⟨e2, l2, m1, m2, m3, m4, y, m5, m6⟩ := row_at b h2
      refine ⟨e2, l2, List.mem_cons_of_mem _ m1, m2, ?_, m4, y, List.mem_cons_of_mem _ m5, m6⟩
      rw [if_neg (by rw [a1]; exact fun q => hk (kA_inj q)), m3]
def addPl (es : List (List Str × List Str)) (ws : List Str) : List (List Str × List Str) := (begsOf ws).foldl stepW es
def nextP (pls : List (List Str)) : List (List Str × List Str) := pls.foldl addPl [([], [])]
/-- what the dict is at each turn -/
structure NxOk (es : List (List Str × List Str)) : Prop where
  nil : keyIn es [] = true
  few : ∀ e ∈ es, e.2.length ≤ es.length
theorem keyIn_step {es : List (List Str × List Str)} {ws us : List Str} (h : keyIn es us = true ∨ us = ws) : keyIn (stepW es ws) us = true := by
  unfold stepW
  by_cases k : keyIn es ws = true
  · rw [if_pos k]
    rcases h with h | h
    · exact h
    · rw [h]
      exact k
  · rw [if_neg k, keyIn_grow]
    exact keyIn_more h
theorem NxOk.step {es : List (List Str × List Str)} (z : NxOk es) (ws : List Str) : NxOk (stepW es ws) := by
  refine ⟨keyIn_step (.inl z.nil), fun e he => ?_⟩
  unfold stepW at he ⊢
  by_cases k : keyIn es ws = true
  · rw [if_pos k] at he ⊢
    exact z.few e he
  · rw [if_neg k] at he ⊢
    obtain ⟨t, ht, rfl⟩ := List.mem_map.mp he
    rw [List.length_map, List.length_append, List.length_singleton]
    have h1 : t.2.length ≤ es.length := by
      rcases List.mem_append.mp ht with h | h
      · exact z.few t h
      · rw [List.mem_singleton.mp h]
        exact Nat.zero_le _
    unfold addTo
    split
    · simp
      omega
    · omega
theorem NxOk.steps {es : List (List Str × List Str)} (z : NxOk es) : ∀ xs : List (List Str), NxOk (xs.foldl stepW es)
  | [] => z
  | x :: xs => by
    rw [List.foldl_cons]
    exact NxOk.steps (z.step x) xs
theorem begs_at (ws : List Str) {j : Nat} (h : j ≤ ws.length) : (begsOf ws)[j]? = some (ws.take j) := by
  unfold begsOf
  rw [List.getElem?_map, List.getElem?_range (by omega)]
  rfl
theorem step_len (es : List (List Str × List Str)) (ws : List Str) : (stepW es ws).length ≤ es.length + 1 := by
  unfold stepW
  split <;> simp
def Places (K : PySem.W.Frag) (H : Hp) (xs : List V) (pls : List (List Str)) : Prop := Paired (fun v ws => ∃ p, v = .ref p ∧ SqT K H p (ws.map V.str)) xs pls
def spNW (P : Program) (w : World) (K : PySem.W.Frag) : Sp := fun vs H Q _ => ∃ (a : Addr) (xs : List V) (pls : List (List Str)), vs = [.ref a] ∧ SqL K H a xs ∧ Places K H xs pls ∧ pls.length ≤ 100 ∧ (∀ ws ∈ pls, ws.length ≤ 4) ∧
  ∀ D H' rows, H D = none → Same H H' → NWa P w K (fun l => H l ≠ none) H' D rows (nextP pls) → rows.length ≤ 5 * pls.length + 1 → Q (.ref D) H'
theorem ok_nextWords (Fd : Fun K "_next_words" "_next_words" sNextWords f fd) (T : Tx mg) (DB : Df P w K mg base 1 "beginnings" ["address"] (spBegs K)) : FnOk P w K mg base CX0 4 f fd ["places"] (spNW P w K) := by
  refine Fd.ok scNW (fun vs H Q E h => ?_) (fun cdv A outer s H vs Q E hr h => ?_)
  · obtain ⟨a, xs, pls, rfl, _⟩ := h
    rfl
  · obtain ⟨a, xs, pls, rfl, hl, hp, hn, h4, q⟩ := h
    have nd := scNW.nd
    have hu16 : (A.deeper (envOfC "_next_words" (defScope sNextWords) s.heap.objs.size f cdv)).units + 16 < cLine := Nat.lt_of_le_of_lt (Nat.add_le_add_left (by decide) _) hr.units
    refine ⟨_, pss_cons (ps_set (i := 1) nd rfl (Or.inl rfl) (pe_disp1NK (P := P) (w := w) (K := K) hu16 (pps_cons (pe_tup pa_nil) (pe_lstN pa_nil) pps_nil) rfl))
      (pss_cons (ps_for PassesOwn.never rfl (pi_list (pv 0)) (pg_name (i := 2) nd rfl (Or.inl rfl)) (pss_one (ps_for PassesOwn.never rfl (pi_list (pe_df DB hr (pa_cons (pv 2) pa_nil))) (pg_name (i := 3) nd rfl (Or.inl rfl))
        (pss_one (ps_if (pt_cmpR (op_notInNK (P := P) (w := w) (K := K) hu16) (pv 3) (pv 1) (by rfl))
          (pss_cons (ps_asg (pe_lstN pa_nil) (pg_sub (pv 1) (pv 3) (pset_kdK (P := P) (w := w) (K := K) hu16)))
          (pss_one (ps_expr (pe_bm PySem.F.plainAttrs_list PySem.F.slot_list_append PySem.F.type_list_append mt_append (pe_ix (ix_kdK (P := P) (w := w) (K := K) hu16) (pv 1) (pe_slice (r := rSlW K) sl_tupK (pv 3) po_none (po_some (pe_un un_neg pe_int))) (fun _ _ => rfl))
            (pa_cons (pe_ix (r := rIxT K) ix_tupK (pv 3) (pe_un un_neg pe_int) (fun _ _ => rfl)) pa_nil))))) pss_nil)))))
      (pss_one (ps_ret (pv 1)))), ?_⟩
    intro D hD low
    have s1 : Same H (upd H D (kdO P w D [])) := Same.new hD
    have z1 : (upd H D (kdO P w D [])) D = some (kdO P w D []) := upd_same
    refine ⟨(show 0 ≤ sizeLine by decide), fun kb hkb => ?_⟩
    have s2 := Same.new (o := .tup []) hkb
    have k2 := upd_same (H := upd H D (kdO P w D [])) (a := kb) (o := .tup [])
    have z2 := s2 _ _ z1
    have s12 := s1.trans s2
    generalize upd (upd H D (kdO P w D [])) kb (.tup []) = G2 at s2 k2 z2 s12 ⊢
    refine ⟨(show 0 ≤ sizeLine by decide), fun l0 hl0 nl0 => ?_⟩
    have s3 := Same.new (o := .lst []) hl0
    have k3 := upd_same (H := G2) (a := l0) (o := .lst [])
    have z3 := s3 _ _ z2
    have kb3 := s3 _ _ k2
    have s13 := s12.trans s3
    have nl1 : H l0 = none := s12.free hl0
    generalize upd G2 l0 (.lst []) = G3 at s3 k3 z3 kb3 s13 ⊢
    have nk : NIs K G3 (kA []) (.ref kb) := nis_ws (.of kb3)
    have start : NWa P w K (fun l => H l ≠ none) G3 D [] [] := ⟨⟨z3, low, Nat.zero_le _, fun x hx => nomatch hx⟩, .nil, List.Pairwise.nil, List.Pairwise.nil, fun x hx => nomatch hx⟩
    have first := nwa_put (b := kb) (l := l0) (ws := []) start (Nat.zero_le _) rfl nk k3 (fun x hx => nomatch hx) (fun e => e nl1)
    refine ⟨kb, kA [], .ref l0, rfl, nk, kA_deep _, z3, ?_⟩
    have s4 : Same H (upd G3 D (kdO P w D (kPut [] (kA []) kb (.ref l0)))) := fun c o e => by
      rw [upd_ne (ne_of_none e hD)]
      exact s13 c o e
    have first : NWa P w K (fun l => H l ≠ none) (upd G3 D (kdO P w D (kPut [] (kA []) kb (.ref l0)))) D (kPut [] (kA []) kb (.ref l0)) (nextP (pls.take 0)) := first
    generalize upd G3 D (kdO P w D (kPut [] (kA []) kb (.ref l0))) = G4 at s4 first ⊢
    have len0 : (kPut [] (kA []) kb (.ref l0)).length ≤ 5 * 0 + 1 := kPut_len _ _ _ _
    have ok0 : NxOk (nextP (pls.take 0)) := ⟨rfl, fun e he => by
      rw [List.mem_singleton.mp (show e ∈ [([], [])] from he)]
      exact Nat.zero_le _⟩
    generalize kPut [] (kA []) kb (.ref l0) = rows0 at first len0
    have lx := hp.length
    refine ⟨_, rfl, a, rfl, ⟨_, s4.seq hl⟩, for_list (K := K) (a := a) (xs := xs) (fun i σ G => ∃ u2 u3 rows, σ = [some (.ref a), some (.ref D), u2, u3] ∧ Same H G ∧ NWa P w K (fun l => H l ≠ none) G D rows (nextP (pls.take i)) ∧ rows.length ≤ 5 * i + 1 ∧ NxOk (nextP (pls.take i)))
      ⟨_, _, rows0, rfl, s4, first, len0, ok0⟩ (fun i σ G _ h => by obtain ⟨_, _, _, _, sG, _⟩ := h; exact sG.seq hl) ?_ ?_⟩
    · rintro i x σ G hx ⟨u2, u3, rows, rfl, sG, nw, ln, ok⟩
      obtain ⟨ws, hws, p, rfl, tp⟩ := pair_get hp hx
      have hi : i < pls.length := (List.getElem?_eq_some_iff.mp hws).1
      have hw4 := h4 ws (List.mem_of_getElem? hws)
      have tk : nextP (pls.take (i + 1)) = addPl (nextP (pls.take i)) ws := by
        unfold nextP
        rw [List.take_add_one, hws, List.foldl_append]
        rfl
      refine ⟨_, rfl, p, ws, rfl, same_T sG tp, by omega, fun r bs G5 nr s5 hr5 lb db => ?_⟩
      have sG5 := sG.trans s5
      obtain ⟨kd0, pr0, nd1, nd2, av0⟩ := id nw
      have nw5 : NWa P w K (fun l => H l ≠ none ∨ l = r) G5 D rows (nextP (pls.take i)) := by
        refine ⟨kd0.same s5, Paired.mono (fun _ _ z => ⟨z.1, let ⟨l, h1, h2⟩ := z.2; ⟨l, h1, s5 _ _ h2⟩⟩) pr0, nd1, nd2, fun y hy l hl2 => ?_⟩
        rintro (h | h)
        · exact av0 y hy l hl2 h
        · obtain ⟨l', us, e1, e2⟩ := rowW_mem pr0 y hy
          rw [hl2] at e1
          injection e1 with e1
          rw [h] at e1
          rw [← e1, nr] at e2
          cases e2
      have hnr : H r = none := sG.free nr
      obtain ⟨bl, bg⟩ := dpAll_get db
      rw [begD_len] at bl
      have lb : bs.length = ws.length + 1 := lb
      refine ⟨r, rfl, ⟨_, .of hr5⟩, for_list (K := K) (a := r) (xs := bs) (fun j σ G' => ∃ u3 rows', σ = [some (.ref a), some (.ref D), some (.ref p), u3] ∧ Same H G' ∧ G' r = some (.lst bs) ∧ (∀ b ys, SqT K G5 b ys → SqT K G' b ys) ∧ NWa P w K (fun l => H l ≠ none ∨ l = r) G' D rows' (((begsOf ws).take j).foldl stepW (nextP (pls.take i))) ∧ rows'.length ≤ 5 * i + 1 + j ∧ (∀ k, k < j → keyIn (((begsOf ws).take j).foldl stepW (nextP (pls.take i))) (ws.take k) = true))
        ⟨_, rows, rfl, sG5, hr5, (fun _ _ z => z), nw5, ln, fun k hk => absurd hk (Nat.not_lt_zero k)⟩ (fun j σ G' _ h => by obtain ⟨_, _, _, _, h, _⟩ := h; exact .of h) ?_ ?_⟩
      · rintro j x σ G' hx' ⟨u3', rows', rfl, sG', hr', hT, nw', ln', cl⟩
        have hj : j < ws.length + 1 := by
          have := (List.getElem?_eq_some_iff.mp hx').1
          omega
        obtain ⟨d, hd1, hd2⟩ := bg j x hx'
        rw [begD_at _ hj] at hd1
        cases hd1
        obtain ⟨b, rfl, tb⟩ := wt_inv hd2
        have tb' := hT _ _ tb
        have e5 : ((begsOf ws).take (j + 1)).foldl stepW (nextP (pls.take i)) = stepW (((begsOf ws).take j).foldl stepW (nextP (pls.take i))) (ws.take j) := by
          rw [List.take_add_one, begs_at ws (by omega), List.foldl_append]
          rfl
        have ok' : NxOk (((begsOf ws).take j).foldl stepW (nextP (pls.take i))) := ok.steps _
        rw [e5]
        generalize ((begsOf ws).take j).foldl stepW (nextP (pls.take i)) = es at nw' cl ok' ⊢
        obtain ⟨kd', pr', nd1', nd2', av'⟩ := id nw'
        refine ⟨_, rfl, _, rfl, b, D, kA (ws.take j), rows', rfl, rfl, nis_ws tb', kA_deep _, kd', _, rfl, ?_⟩
        rw [NW.get (D := D) (ws.take j) pr']
        have cl2 : ∀ k, k < j + 1 → keyIn (stepW es (ws.take j)) (ws.take k) = true := fun k hk => by
          by_cases h : k = j
          · exact keyIn_step (.inr (by rw [h]))
          · exact keyIn_step (.inl (cl k (by omega)))
        by_cases hin : keyIn es (ws.take j) = true
        · rw [hin]
          refine iteF ⟨_, rows', rfl, sG', hr', hT, ?_, by omega, cl2⟩
          unfold stepW
          rw [if_pos hin]
          exact nw'
        · have hin : keyIn es (ws.take j) = false := by simpa using hin
          rw [hin]
          have hj0 : 0 < j := by
            cases j with
            | zero =>
              rw [List.take_zero, ok'.nil] at hin
              cases hin
            | succ j => exact Nat.succ_pos j
          obtain ⟨j, rfl⟩ : ∃ j2, j = j2 + 1 := ⟨j - 1, by omega⟩
          have tl := take_last (ws := ws) (j := j) (by omega)
          have hprev := cl j (by omega)
          refine iteT ⟨(show 0 ≤ sizeLine by decide), fun l hl nl => ?_⟩
          have s6 := Same.new (o := .lst []) hl
          have l6 := upd_same (H := G') (a := l) (o := .lst [])
          have nlH : H l = none := sG'.free hl
          have nlr : l ≠ r := fun e => by
            rw [e, hr'] at hl
            cases hl
          have fr6 : ∀ x ∈ rows', x.2.2 ≠ .ref l := fun x hx e => by
            obtain ⟨l', us, e1, e2⟩ := rowW_mem pr' x hx
            rw [e] at e1
            injection e1 with e1
            rw [← e1, hl] at e2
            cases e2
          have nw6 : NWa P w K (fun l => H l ≠ none ∨ l = r) (upd G' l (.lst [])) D rows' es := ⟨kd'.same s6, Paired.mono (fun _ _ z => ⟨z.1, let ⟨c, h1, h2⟩ := z.2; ⟨c, h1, s6 _ _ h2⟩⟩) pr', nd1', nd2', av'⟩
          have r6 := s6 _ _ hr'
          have hT6 : ∀ b ys, SqT K G5 b ys → SqT K (upd G' l (.lst [])) b ys := fun b ys q => same_T s6 (hT b ys q)
          have sG6 := sG'.trans s6
          have tb6 := same_T s6 tb'
          generalize upd G' l (.lst []) = G6 at s6 l6 nw6 r6 hT6 sG6 tb6 ⊢
          refine ⟨_, rfl, _, rfl, b, D, kA (ws.take (j + 1)), rows', rfl, rfl, nis_ws tb6, kA_deep _, nw6.1, ?_⟩
          have nw7 := nwa_put (b := b) (l := l) nw6 (by omega) hin (nis_ws tb6) l6 fr6 (fun h => by
            rcases h with h | h
            · exact h nlH
            · exact nlr h)
          have D6 := nw6.1.at_
          have nDr : r ≠ D := ne_of r6 D6 fun e => nomatch e
          have sG7 : Same H (upd G6 D (kdO P w D (kPut rows' (kA (ws.take (j + 1))) b (.ref l)))) := fun c o e => by
            rw [upd_ne (ne_of_none e hD)]
            exact sG6 c o e
          have hT7 : ∀ c ys, SqT K G5 c ys → SqT K (upd G6 D (kdO P w D (kPut rows' (kA (ws.take (j + 1))) b (.ref l)))) c ys := fun c ys q => sqT_kd D6 (hT6 c ys q)
          have r7 : (upd G6 D (kdO P w D (kPut rows' (kA (ws.take (j + 1))) b (.ref l)))) r = some (.lst bs) := (upd_ne nDr).trans r6
          have len7 : (kPut rows' (kA (ws.take (j + 1))) b (.ref l)).length ≤ 5 * i + 1 + (j + 1 + 1) := Nat.le_trans (kPut_len _ _ _ _) (by omega)
          generalize upd G6 D (kdO P w D (kPut rows' (kA (ws.take (j + 1))) b (.ref l))) = G7 at nw7 sG7 hT7 r7 ⊢
          generalize kPut rows' (kA (ws.take (j + 1))) b (.ref l) = rows7 at nw7 len7
          have tb7 := hT7 _ _ tb
          rw [tl] at tb7
          refine ⟨_, rfl, _, rfl, _, rfl, _, rfl, b, _, rfl, tb7, fun b8 G8 s8 h8 => ?_⟩
          rw [cut_last] at h8
          have nw8 : NWa P w K (fun l => H l ≠ none ∨ l = r) G8 D rows7 (es ++ [(ws.take (j + 1), [])]) := ⟨nw7.1.same s8, Paired.mono (fun _ _ z => ⟨z.1, let ⟨c, h1, h2⟩ := z.2; ⟨c, h1, s8 _ _ h2⟩⟩) nw7.2.1, nw7.2.2.1, nw7.2.2.2.1, nw7.2.2.2.2⟩
          obtain ⟨e, l8, m1, m2, g8, hl8, y, my, ey⟩ := row_at nw8.2.1 (keyIn_more (ws := ws.take (j + 1)) (.inl hprev))
          have few8 : (e.2.map V.str).length < sizeLine := by
            have e1 : e.2.length ≤ es.length := by
              rcases List.mem_append.mp m1 with m | m
              · exact ok'.few e m
              · rw [List.mem_singleton.mp m]
                exact Nat.zero_le _
            have e2 := pr'.length
            rw [List.length_map]
            exact Nat.lt_of_le_of_lt (show e.2.length ≤ 600 by omega) (by decide)
          have av8 := nw8.2.2.2.2 y my l8 ey
          have nl8 : H l8 = none := by
            cases h : H l8 with
            | none => rfl
            | some o => exact absurd (.inl (by rw [h]; simp)) av8
          have nr8 : r ≠ l8 := fun e => av8 (.inr e.symm)
          have tb8 := same_T s8 tb7
          rw [List.map_append] at tb8
          refine ⟨b8, D, kA (ws.take j), rows7, .ref l8, rfl, rfl, nis_ws h8, kA_deep _, nw8.1, g8, Or.inl ⟨rfl, _, Or.inl (Or.inl hl8)⟩, _, rfl, _, rfl, b, _, _, _, rfl, rfl, tb8, atI_last _ _, l8, _, _, rfl, rfl, hl8, few8, ?_⟩
          have nw9 := nwa_grow (x := ws[j]) nw8 g8 hl8
          have eS : stepW es (ws.take (j + 1)) = (es ++ [(ws.take (j + 1), [])]).map (addTo (ws.take j) ws[j]) := by
            unfold stepW
            rw [if_neg (by rw [hin]; decide), tl, List.dropLast_concat, List.getLast?_concat]
            rfl
          rw [← eS] at nw9
          refine ⟨_, rows7, rfl, fun c o e => ?_, ?_, fun c ys q => sqT_list hl8 (same_T s8 (hT7 c ys q)), nw9, len7, cl2⟩
          · rw [upd_ne (ne_of_none e nl8)]
            exact s8 _ _ (sG7 c o e)
          · rw [upd_ne nr8]
            exact s8 _ _ r7
      · rintro σ G' ⟨u3', rows', rfl, sG', hr', hT, nw', ln', cl⟩
        have e5 : (begsOf ws).length = ws.length + 1 := by
          unfold begsOf
          simp
        rw [show (begsOf ws).take bs.length = begsOf ws from List.take_of_length_le (by omega)] at nw'
        have ln2 : rows'.length ≤ 5 * (i + 1) + 1 := by omega
        refine ⟨_, _, rows', rfl, sG', ?_, ln2, ?_⟩
        · rw [tk]
          exact ⟨nw'.1, nw'.2.1, nw'.2.2.1, nw'.2.2.2.1, fun y hy l hl2 h => nw'.2.2.2.2 y hy l hl2 (.inl h)⟩
        · rw [tk]
          exact ok.steps _
    · rintro σ G ⟨u2, u3, rows, rfl, sG, nw, ln, ok⟩
      rw [List.take_of_length_le (by omega)] at nw
      exact ⟨_, rfl, q D G rows hD sG nw (by omega)⟩
end
end K7
namespace K7
open PySem L2 Ld
abbrev sStrange : Stmt := top 16
abbrev sNext : Stmt := top 17
structure Ts (mg : Str → Option Value) : Prop where
  set : mg "set" = none
  ls : ∃ t, mg "LETTERS" = some (.str abcS t)
section
variable {P : Program} {w : World} {K : PySem.W.Frag} {mg : Str → Option Value} {base : Heap} {f : Addr} {fd : FuncData}
def spNext : Sp := fun vs H Q _ => ∃ i : Nat, vs = [.str (seqW i)] ∧ i < 40 ∧ Q (.str (seqW (i + 1))) H
theorem scNext : FnScope ["word", "kept"] ["word"] (defScope sNext) := ⟨rfl, rfl, rfl, by decide +kernel, rfl, by decide +kernel, by decide +kernel⟩
theorem one_a : (⟨#[97]⟩ : Str) = Str.ofString "a" := by decide +kernel
theorem one_z : (⟨#[122]⟩ : Str) = Str.ofString "z" := by decide +kernel
theorem abc_0 : atI abcS.cps.toList 0 = some 97 := by decide +kernel
theorem abc_1 : atI abcS.cps.toList (-1) = some 122 := by decide +kernel
theorem abc_len : abcS.length ≤ sizeLine := by decide +kernel
theorem next_near {z : Str} (h : z.length < 12) : nextW z = z ++ Str.ofString "a" := if_pos h
theorem next_far {z : Str} (h : ¬ z.length < 12) : nextW z = cutS (keptW z) none (some (-1)) ++ ⟨#[lastOf (keptW z) + 1]⟩ := if_neg h
theorem a_len : (Str.ofString "a").length = 1 := by decide +kernel
theorem ok_next (Fd : Fun K "_next_word" "_next_word" sNext f fd) (T : Tx mg) (U : Ts mg) : FnOk P w K mg base CX0 1 f fd ["word"] spNext := by
  refine Fd.ok scNext (fun vs H Q E h => ?_) (fun cdv A outer s H vs Q E hr h => ?_)
  · obtain ⟨i, rfl, _⟩ := h
    rfl
  · obtain ⟨i, rfl, hi, q⟩ := h
    obtain ⟨t1, hl⟩ := U.ls
    obtain ⟨t2, hw⟩ := T.wl
    have S := step_of hi
    have q : Q (.str (nextW (seqW i))) H := q
    generalize seqW i = z at S q
    refine ⟨_, pss_cons (ps_if (pt_cmpR op_lt (pe_callB call_len_str (by rfl) T.len PySem.boot_len (pa_cons (pv 0) pa_nil)) (pe_glob (v := .int 12) (by rfl) hw ⟨_, rfl⟩) (nomark _))
        (pss_one (ps_ret (pe_op op_add_str (pv 0) (pe_ix ix_str (pe_glob (v := .str abcS) (by rfl) hl ⟨_, rfl⟩) pe_int (fun _ _ => rfl))))) pss_nil)
      (pss_cons (ps_set (i := 1) scNext.nd rfl (Or.inl rfl) (pe_m1 PySem.F.slot_str_rstrip PySem.F.type_str_rstrip mt_rstripChars (pv 0) (pe_ix ix_str (pe_glob (v := .str abcS) (by rfl) hl ⟨_, rfl⟩) (pe_un un_neg pe_int) (fun _ _ => rfl))))
      (pss_one (ps_ret (pe_op op_add_str (pe_slice sl_str (pv 1) po_none (po_some (pe_un un_neg pe_int))) (pe_ix ix_str (pe_glob (v := .str abcS) (by rfl) hl ⟨_, rfl⟩) (pe_op op_add (pe_m1 PySem.F.slot_str_index PySem.F.type_str_index mt_sindex
          (pe_glob (v := .str abcS) (by rfl) hl ⟨_, rfl⟩) (pe_ix ix_str (pv 1) (pe_un un_neg pe_int) (fun _ _ => rfl))) pe_int) (fun _ _ => rfl)))))), ?_⟩
    have big : z.length ≤ sizeLine := Nat.le_trans S.len (by decide)
    refine ⟨_, rfl, _, rfl, big, _, _, rfl, rfl, _, rfl, ?_⟩
    by_cases hz : (z.length : Int) < 12
    · rw [decide_eq_true hz]
      refine iteT ⟨_, rfl, _, _, _, rfl, rfl, abc_len, abc_0, ?_⟩
      rw [one_a]
      refine ⟨_, _, rfl, rfl, ?_, ?_⟩
      · have := S.len
        rw [a_len, sizeLine_eq]
        omega
      · rw [next_near (by omega)] at q
        exact q
    · rw [decide_eq_false hz]
      have hz : ¬ z.length < 12 := by omega
      obtain ⟨k1, k2, k3, k4⟩ := S.far hz
      have kbig : (keptW z).length ≤ sizeLine := Nat.le_trans k1 (by decide)
      refine iteF ⟨_, rfl, ⟨_, rfl⟩, _, rfl, _, _, _, rfl, rfl, abc_len, abc_1, ?_⟩
      rw [one_z]
      refine ⟨_, _, rfl, rfl, big, ?_⟩
      refine ⟨_, rfl, _, rfl, _, rfl, _, rfl, kbig, ⟨_, rfl⟩, _, rfl, _, rfl, _, _, _, rfl, rfl, kbig, k2, ?_⟩
      refine ⟨_, _, _, [], rfl, rfl, k3, _, _, rfl, rfl, _, _, _, rfl, rfl, abc_len, k4, ?_⟩
      refine ⟨_, _, rfl, rfl, ?_, ?_⟩
      · have := cutS_len k1
        have e : (⟨#[lastOf (keptW z) + 1]⟩ : Str).length = 1 := rfl
        rw [e, sizeLine_eq]
        exact Nat.le_trans (Nat.add_le_add_right this 1) (by decide)
      · rw [next_far hz] at q
        exact q
def spStrange (K : PySem.W.Frag) : Sp := fun vs H Q _ => ∃ (a : Addr) (xs : List Str), vs = [.ref a] ∧ (SqL K H a (xs.map V.str) ∨ SqT K H a (xs.map V.str)) ∧ xs.length ≤ 39 ∧ ∀ m H', Odd xs m → Same H H' → Q (.str (seqW m)) H'
theorem scStrange : FnScope ["words", "taken", "word"] ["words"] (defScope sStrange) := ⟨rfl, rfl, rfl, by decide +kernel, rfl, by decide +kernel, by decide +kernel⟩
theorem ok_strange (Fd : Fun K "strange_word" "strange_word" sStrange f fd) (T : Tx mg) (U : Ts mg) (N : Df P w K mg base 1 "_next_word" ["word"] spNext) : FnOk P w K mg base CX0 2 f fd ["words"] (spStrange K) := by
  refine Fd.ok scStrange (fun vs H Q E h => ?_) (fun cdv A outer s H vs Q E hr h => ?_)
  · obtain ⟨a, xs, rfl, _⟩ := h
    rfl
  · obtain ⟨a, xs, rfl, hx, hl, q⟩ := h
    obtain ⟨t1, hg⟩ := U.ls
    refine ⟨_, pss_cons (ps_set (i := 1) scStrange.nd rfl (Or.inl rfl) (pe_callTy (cr_setS rfl) (by rfl) U.set (by decide +kernel) (pa_cons (pv 0) pa_nil)))
      (pss_cons (ps_set (i := 2) scStrange.nd rfl (Or.inl rfl) (pe_ix ix_str (pe_glob (v := .str abcS) (by rfl) hg ⟨_, rfl⟩) pe_int (fun _ _ => rfl)))
      (pss_cons (ps_while PassesOwn.never (pt_cmpR op_inWords (pv 2) (pv 1) (by rfl)) (pss_one (ps_set (i := 2) scStrange.nd rfl (Or.inl rfl) (pe_df N hr (pa_cons (pv 2) pa_nil)))))
      (pss_one (ps_ret (pv 2))))), ?_⟩
    refine ⟨_, rfl, a, xs, rfl, hx, Nat.le_trans hl (by decide), fun p G s1 ws => ?_⟩
    refine ⟨_, _, _, rfl, rfl, abc_len, abc_0, ?_⟩
    rw [one_a]
    refine ⟨fun m σ G2 => G2 = G ∧ ∃ i, m + i = 40 ∧ (∀ j < i, seqW j ∈ xs) ∧ σ = [some (.ref a), some (.ref p), some (.str (seqW i))], ⟨40, rfl, 0, rfl, (fun j hj => absurd hj (Nat.not_lt_zero j)), rfl⟩, ?_⟩
    rintro m σ G2 ⟨rfl, i, hm, hall, rfl⟩
    have hi := ahead_few (by omega) hall
    refine ⟨_, rfl, _, rfl, _, p, xs, rfl, rfl, ws, _, rfl, ?_⟩
    by_cases hin : seqW i ∈ xs
    · rw [decide_eq_true hin]
      refine iteT ⟨fun σ' G' => G' = G2 ∧ σ' = [some (.ref a), some (.ref p), some (.str (seqW (i + 1)))], fun σ' G' ⟨e1, e2⟩ => ⟨m - 1, by omega, e1, i + 1, by omega, fun j hj => ?_, e2⟩, ?_⟩
      · by_cases h : j = i
        · rw [h]
          exact hin
        · exact hall j (by omega)
      · exact ⟨_, rfl, i, rfl, by omega, rfl, rfl⟩
    · rw [decide_eq_false hin]
      exact iteF ⟨_, rfl, q i G2 ⟨hi, hin, hall⟩ s1⟩
end
end K7
namespace K7
open PySem L2 Ld PyProof.Rows
abbrev sAD : Stmt := top 27
/-! ### where two tables may differ -/
def oddN (xs : List Str) : Nat := ((List.range (xs.length + 1)).find? fun j => !decide (seqW j ∈ xs)).getD 0
theorem oddN_eq {xs : List Str} {m : Nat} (h : Odd xs m) : oddN xs = m := by
  unfold oddN
  have e : (List.range (xs.length + 1)).find? (fun j => !decide (seqW j ∈ xs)) = some m := by
    rw [List.find?_range_eq_some]
    refine ⟨by simp [h.out], List.mem_range.mpr (by have := h.lt; omega), fun j hj => ?_⟩
    simp [h.all j hj]
  rw [e]
  rfl
theorem oddN_le (xs : List Str) : oddN xs ≤ xs.length := by
  unfold oddN
  cases h : (List.range (xs.length + 1)).find? (fun j => !decide (seqW j ∈ xs)) with
  | none => exact Nat.zero_le _
  | some m =>
    have := List.mem_range.mp (List.mem_of_find?_eq_some h)
    show m ≤ _
    omega
def susp (e : List Str × List Str) : List (List Str) := [e.1, e.1 ++ [seqW (oddN e.2)]]
def suspects (es : List (List Str × List Str)) : List (List Str) := es.flatMap susp
def leA (a b : List Str) : Bool := PySem.W.dataLe false id (keyD a) (keyD b)
def sortA (ss : List (List Str)) : List (List Str) := ss.mergeSort leA
def entr (rs ts : List Rl) : List (List Str × List Str) := nextP ((rs ++ ts).map Rl.pl)
def difOf (rs ts : List Rl) : Option (List Str) := (sortA (suspects (entr rs ts))).find? fun ws => !PyData.eqv (answerOf rs ws) (answerOf ts ws)
def LowW (ws : List Str) : Prop := ∀ z ∈ ws, ∀ c ∈ z.cps.toList, c < 128
theorem lowA : (List.range 41).all (fun m => (seqW m).cps.toList.all fun c => decide (c < 128)) = true := by decide +kernel
theorem low_seq {m : Nat} (h : m < 41) : ∀ c ∈ (seqW m).cps.toList, c < 128 := fun c hc => of_decide_eq_true (List.all_eq_true.mp (List.all_eq_true.mp lowA m (List.mem_range.mpr h)) c hc)
theorem lay_low {ws : List Str} (h : LowW ws) : (wt ws).canLay0 = true := by
  unfold wt
  simp only [PyData.canLay0]
  exact lay_words h
theorem shaped_ansL {rs : List Rl} {ws : List Str} (g : ∀ r ∈ rs, r.Ok) (h : LowW ws) : SeqAt.shaped (answerOf rs ws) = true := by
  have sx : PyData.strOk "nothing" = true := ok_str (by decide +kernel)
  have sy : PyData.strOk "section" = true := ok_str (asc_own false)
  have dw := depth_words
  have both : (answerOf rs ws).canLay0 = true ∧ (answerOf rs ws).depth ≤ 2 := by
    unfold answerOf
    cases hr : ruleFor rs ws with
    | none => exact ⟨by simp [PyData.canLay0, PyData.canLayAll0, sx], by simp [PyData.depth, PyData.depthAll]⟩
    | some r =>
      have ok := g r (for_mem hr)
      obtain ⟨e, pl, an⟩ := r
      cases e with
      | true => exact ⟨lay_an true ok.an, deep_an an true⟩
      | false =>
        cases an with
        | gone => exact ⟨by simp [ansOf, PyData.canLay0, PyData.canLayAll0, ok_str asc_gone], by simp [ansOf, PyData.depth, PyData.depthAll]⟩
        | own z => exact ⟨by simp [ansOf, PyData.canLay0, PyData.canLayAll0, sy, ok_str (Wd.asc ok.an), lay_low (fun y hy => h y (List.mem_of_mem_drop hy))], by simp [ansOf, wt, PyData.depth, PyData.depthAll, ← List.map_drop, dw]⟩
        | to tg n =>
          have hw : LowW (tg ++ ws.drop pl.length) := fun y hy => by
            rcases List.mem_append.mp hy with hy | hy
            · exact (ok.an.2.1 y hy).low
            · exact h y (List.mem_of_mem_drop hy)
          refine ⟨by simp [ansOf, PyData.canLay0, PyData.canLayAll0, ok_str asc_to, lay_low hw], by
            show (PyData.tuple [.str "to", wt (tg ++ ws.drop pl.length), .int n]).depth ≤ 2
            simp only [wt, PyData.depth, PyData.depthAll, dw]
            decide⟩
  unfold SeqAt.shaped
  rw [decide_eq_true (Nat.le_trans both.2 (by decide)), both.1]
  rfl
theorem sorted_pl {K : PySem.W.Frag} {H : Hp} {xs : List V} {ss : List (List Str)} (z : Places K H xs ss) : Places K H ((((xs.zip ss).map fun q => (q.1, keyD q.2)).mergeSort (PySem.W.dataLe false Prod.snd)).map Prod.fst) (sortA ss) := by
  have e1 := List.map_mergeSort (r := fun a b : V × List Str => leA a.2 b.2) (s := PySem.W.dataLe false Prod.snd) (f := fun q => (q.1, keyD q.2)) (l := xs.zip ss) (fun a _ b _ => rfl)
  have e2 := List.map_mergeSort (r := fun a b : V × List Str => leA a.2 b.2) (s := leA) (f := fun q => q.2) (l := xs.zip ss) (fun a _ b _ => rfl)
  rw [(zip_fst z.length).2] at e2
  unfold sortA
  rw [← e1, ← e2, List.map_map]
  have all : ∀ {xs : List V} {ss : List (List Str)}, Places K H xs ss → ∀ q ∈ xs.zip ss, ∃ p, q.1 = V.ref p ∧ SqT K H p (q.2.map V.str) := fun {xs ss} z => by
    induction z with
    | nil => exact fun q h => by cases h
    | cons a b ih =>
      intro q h
      rw [List.zip_cons_cons] at h
      rcases List.mem_cons.mp h with rfl | h
      · exact a
      · exact ih q h
  have mk : ∀ {l : List (V × List Str)}, (∀ q ∈ l, ∃ p, q.1 = V.ref p ∧ SqT K H p (q.2.map V.str)) → Places K H (l.map (·.1)) (l.map (·.2)) := fun {l} => by
    induction l with
    | nil => exact fun _ => .nil
    | cons q l ih => exact fun h => .cons (h q List.mem_cons_self) (ih fun p hp => h p (List.mem_cons_of_mem _ hp))
  exact mk fun q hq => all z q ((List.mergeSort_perm _ _).mem_iff.mp hq)
theorem step_keys {Pk : List Str → Prop} {es : List (List Str × List Str)} {ws : List Str} (h : ∀ e ∈ es, Pk e.1) (hw : Pk ws) : ∀ e ∈ stepW es ws, Pk e.1 := fun e he => by
  unfold stepW at he
  by_cases k : keyIn es ws = true
  · rw [if_pos k] at he
    exact h e he
  · rw [if_neg k] at he
    obtain ⟨t, ht, rfl⟩ := List.mem_map.mp he
    have e1 : (addTo ws.dropLast (ws.getLast?.getD Str.empty) t).1 = t.1 := by
      unfold addTo
      split <;> rfl
    rw [e1]
    rcases List.mem_append.mp ht with m | m
    · exact h t m
    · rw [List.mem_singleton.mp m]
      exact hw
theorem steps_keys {Pk : List Str → Prop} : ∀ {xs : List (List Str)} {es : List (List Str × List Str)}, (∀ e ∈ es, Pk e.1) → (∀ x ∈ xs, Pk x) → ∀ e ∈ xs.foldl stepW es, Pk e.1
  | [], _, h, _ => h
  | x :: xs, es, h, hx => by
    rw [List.foldl_cons]
    exact steps_keys (step_keys h (hx x List.mem_cons_self)) fun y hy => hx y (List.mem_cons_of_mem _ hy)
theorem pls_keys {Pk : List Str → Prop} : ∀ {pls : List (List Str)} {es : List (List Str × List Str)}, (∀ e ∈ es, Pk e.1) → (∀ ws ∈ pls, ∀ n, Pk (ws.take n)) → ∀ e ∈ pls.foldl addPl es, Pk e.1
  | [], _, h, _ => h
  | ws :: pls, es, h, hx => by
    rw [List.foldl_cons]
    refine pls_keys (steps_keys h fun y hy => ?_) fun us hu => hx us (List.mem_cons_of_mem _ hu)
    unfold begsOf at hy
    obtain ⟨n, _, rfl⟩ := List.mem_map.mp hy
    exact hx ws List.mem_cons_self n
theorem nextP_keys {Pk : List Str → Prop} (h0 : Pk []) {pls : List (List Str)} (h : ∀ ws ∈ pls, ∀ n, Pk (ws.take n)) : ∀ e ∈ nextP pls, Pk e.1 := pls_keys (fun e he => by
  rw [List.mem_singleton.mp he]
  exact h0) h
theorem fst_one : ∀ {es : List (List Str × List Str)} {e e2 : List Str × List Str}, (es.map (·.1)).Nodup → e ∈ es → e2 ∈ es → e2.1 = e.1 → e2 = e
  | [], _, _, _, h, _, _ => by cases h
  | x :: es, e, e2, n, h1, h2, q => by
    rw [List.map_cons, List.nodup_cons] at n
    rcases List.mem_cons.mp h1 with a | a <;> rcases List.mem_cons.mp h2 with b | b
    · rw [a, b]
    · exact absurd (by rw [← a, ← q]; exact List.mem_map_of_mem b) n.1
    · exact absurd (by rw [← b, q]; exact List.mem_map_of_mem a) n.1
    · exact fst_one n.2 a b q
theorem get_row {H : Hp} : ∀ {rows : List Rw} {es : List (List Str × List Str)} {i : Nat} {r : Rw} {e : List Str × List Str}, Paired (RowW H) rows es → (es.map (·.1)).Nodup → rows[i]? = some r → es[i]? = some e → kGet rows (kA e.1) = some r.2.2
  | _, _, i, _, _, .nil, _, h, _ => by simp at h
  | x :: rows, y :: es, 0, r, e, .cons a b, n, h1, h2 => by
    simp at h1 h2
    subst h1 h2
    rw [kGet_cons, if_pos a.1]
  | x :: rows, y :: es, i + 1, r, e, .cons a b, n, h1, h2 => by
    rw [List.map_cons, List.nodup_cons] at n
    have h1 : rows[i]? = some r := by simpa using h1
    have h2 : es[i]? = some e := by simpa using h2
    rw [kGet_cons, if_neg (by
      rw [a.1]
      intro q
      exact n.1 (by rw [kA_inj q]; exact List.mem_map_of_mem (List.mem_of_getElem? h2)))]
    exact get_row b n.2 h1 h2
theorem for_keysN {P : Program} {w : World} {d : Addr} {o : Obj} {rows : List Rw} {g : TG} {tb : TS} {D : Ends} {σ : L2.St} {H : Hp} (Pv : Nat → L2.St → Hp → Prop) (h0 : Pv 0 σ H) (hl : ∀ i σ H, i ≤ rows.length → Pv i σ H → H d = some (.frz o (kdO P w d rows)))
    (hs : ∀ i (r : Rw) σ H, rows[i]? = some r → Pv i σ H → g (.ref r.2.1) σ H fun σ2 H2 => tb { D with nx := Pv (i + 1), ct := Pv (i + 1), bk := D.nx } σ2 H2) (hd : ∀ σ H, Pv rows.length σ H → D.nx σ H) :
    ∃ W : Nat → Nat → L2.St → Hp → Prop, (∃ m, W 0 m σ H) ∧ ∀ i m σ H, W i m σ H →
      ((ItN P w d o rows).stop i H ∧ D.nx σ H) ∨ ((ItN P w d o rows).go i H ∧ ∃ N : L2.St → Hp → Prop, (∀ σ' H', N σ' H' → ∃ m', m' < m ∧ W (i + 1) m' σ' H') ∧ ∀ x H', (ItN P w d o rows).yld i H x H' → g x σ H' fun σ2 H2 => tb { D with nx := N, ct := N, bk := D.nx } σ2 H2) := by
  refine ⟨fun i m σ H => m = rows.length - i ∧ i ≤ rows.length ∧ Pv i σ H, ⟨rows.length, by simp, Nat.zero_le _, h0⟩, ?_⟩
  rintro i m σ H ⟨rfl, hi, p⟩
  have q := hl i σ H hi p
  by_cases hlt : i < rows.length
  · refine .inr ⟨⟨q, hlt⟩, Pv (i + 1), fun σ' H' p' => ⟨rows.length - (i + 1), by omega, rfl, hlt, p'⟩, fun x H' y => ?_⟩
    obtain ⟨e, r, hr, rfl⟩ := y
    subst e
    exact hs i r σ _ hr p
  · have e : i = rows.length := by omega
    subst e
    exact .inl ⟨⟨q, Nat.le_refl _⟩, hd σ H p⟩
theorem susp_snoc {es : List (List Str × List Str)} {i : Nat} {e : List Str × List Str} (h : es[i]? = some e) : suspects (es.take (i + 1)) = suspects (es.take i) ++ [e.1] ++ [e.1 ++ [seqW (oddN e.2)]] := by
  unfold suspects
  rw [List.take_add_one, h, List.flatMap_append]
  simp [susp]
theorem pl_zip {K : PySem.W.Frag} {H : Hp} : ∀ {xs : List V} {ss : List (List Str)}, Places K H xs ss → ∀ q ∈ xs.zip ss, ∃ p, q.1 = V.ref p ∧ SqT K H p (q.2.map V.str)
  | _, _, .nil => fun q h => by cases h
  | _, _, .cons a b => fun q h => by
    rw [List.zip_cons_cons] at h
    rcases List.mem_cons.mp h with rfl | h
    · exact a
    · exact pl_zip b q h
theorem keyD_bare (ws : List Str) : bareB (keyD ws) = true := by
  have h : ∀ ws : List Str, bareAll (ws.map PyData.str) = true := fun ws => by
    induction ws with
    | nil => rfl
    | cons w ws ih => exact ih
  simp [keyD, wt, bareB, bareAll, h]
theorem keyD_deep (ws : List Str) : (keyD ws).depth ≤ 8 := by
  have h := depth_words ws
  simp only [keyD, wt, PyData.depth, PyData.depthAll, h]
  omega
theorem find_at {α : Type} {p : α → Bool} : ∀ {l : List α} {i : Nat} {x : α}, l[i]? = some x → p x = true → (∀ y ∈ l.take i, p y = false) → l.find? p = some x
  | [], _, _, h, _, _ => by simp at h
  | y :: l, 0, x, h, hp, _ => by
    simp at h
    subst h
    rw [List.find?_cons, hp]
  | y :: l, i + 1, x, h, hp, hn => by
    rw [List.find?_cons, hn y (by simp)]
    exact find_at (by simpa using h) hp fun z hz => hn z (by simp [hz])
theorem pair_app {α β : Type} {F : α → β → Prop} : ∀ {xs : List α} {l : List β} {ys : List α} {m : List β}, Paired F xs l → Paired F ys m → Paired F (xs ++ ys) (l ++ m)
  | _, _, _, _, .nil, q => q
  | _, _, _, _, .cons a b, q => .cons a (pair_app b q)
theorem pi_keysNK {X : Cx} {tg e : Expr} {td : TE} {P : Program} {w : World} (he : PE X e td) (hP : X.prog = P := by rfl) (hw : X.w = w := by rfl) : PI X tg e (iKeysN P w td) := by
  subst hP hw
  exact pi_keysN he
def rIxNL (P : Program) (w : World) (K : PySem.W.Frag) : R2 := fun x y H Q => ∃ (b d : Addr) (o : Obj) (k : NestedKey) (xs : List Rw) (v : V), x = .ref d ∧ y = .ref b ∧ NIs K H k (.ref b) ∧ k.depth ≤ 8 ∧ KDL P w K H o d xs ∧ kGet xs k = some v ∧ Q v H
theorem ix_kdLK {X : Cx} {P : Program} {w : World} {K : PySem.W.Frag} (hu : X.A.units + 16 < cLine) (hP : X.prog = P := by rfl) (hw : X.w = w := by rfl) (hK : X.K = K := by rfl) : IxR X (rIxNL P w K) := by
  subst hP hw hK
  exact ix_kdL hu
theorem nall_inv {K : PySem.W.Frag} {H : Hp} : ∀ {ws : List Str} {xs : List V}, NAll K H (ws.map NestedKey.text) xs → xs = ws.map V.str
  | [], _, h => by cases h; rfl
  | w :: ws, _, h => by
    cases h with
    | cons a b =>
      cases a
      rw [nall_inv b]
      rfl
theorem nis_inv {K : PySem.W.Frag} {H : Hp} {p : Addr} {ws : List Str} (h : NIs K H (kA ws) (.ref p)) : SqT K H p (ws.map V.str) := by
  cases h with
  | tup h1 h2 =>
    rw [nall_inv h2] at h1
    exact h1
section
variable {P : Program} {w : World} {K : PySem.W.Frag} {mg : Str → Option Value} {base : Heap} {f : Addr} {fd : FuncData} {CT : Addr}
def OptAt (K : PySem.W.Frag) (H : Hp) (v : V) : Option (List Str) → Prop
  | none => v = .non
  | some ws => ∃ p, v = .ref p ∧ SqT K H p (ws.map V.str)
def spAD (P : Program) (w : World) (K : PySem.W.Frag) (CT : Addr) : Sp := fun vs H Q _ => ∃ (a b : Addr) (rs ts : List Rl), vs = [.ref a, .ref b] ∧ TabAt P w K CT H a rs ∧ TabAt P w K CT H b ts ∧ (∀ e ∈ entr rs ts, e.2.length ≤ 39) ∧ ∀ v H', Same H H' → OptAt K H' v (difOf rs ts) → Q v H'
def adN : List Str := ["first", "second", "found", "rule", "suspects", "start", "address"]
theorem scAD : FnScope adN ["first", "second"] (defScope sAD) := ⟨rfl, rfl, rfl, by decide +kernel, rfl, by decide +kernel, by decide +kernel⟩
theorem ok_ad {pR gR fA : Addr} {fdR fdA : FuncData} (Fd : Fun K "answers_differ" "answers_differ" sAD f fd) (T : Tx mg) (Y : Ty mg) (C : Tcl K CT) (PR : PropOf K CT "rules" pR gR) (bR : Binds K fdR ["self"] []) (FR : FnOk P w K mg base CX0 1 gR fdR ["self"] (spRules P w K CT))
    (mA : Meth K CT "answer" fA) (bA : Binds K fdA ["self", "address"] []) (FA : FnOk P w K mg base CX0 4 fA fdA ["self", "address"] (spAns P w K CT)) (DN : Df P w K mg base 4 "_next_words" ["places"] (spNW P w K)) (DS : Df P w K mg base 2 "strange_word" ["words"] (spStrange K))
    (DK : Df P w K mg base 1 "address_key" ["address"] (spKey K)) : FnOk P w K mg base CX0 5 f fd ["first", "second"] (spAD P w K CT) := by
  refine Fd.ok scAD (fun vs H Q E h => ?_) (fun cdv A outer s H vs Q E hr h => ?_)
  · obtain ⟨a, b, rs, ts, rfl, _⟩ := h
    rfl
  · obtain ⟨a, b, rs, ts, rfl, hA, hB, h39, q⟩ := h
    obtain ⟨fk, fdk, gk, kk, bk, FK⟩ := DK.ex
    have nd := scAD.nd
    have hu16 : (A.deeper (envOfC "answers_differ" (defScope sAD) s.heap.objs.size f cdv)).units + 16 < cLine := Nat.lt_of_le_of_lt (Nat.add_le_add_left (by decide) _) hr.units
    refine ⟨_, pss_cons (ps_set (i := 2) nd rfl (Or.inl rfl) (pe_df DN hr (pa_cons (pe_lc (own := [("rule", 3)]) (g := gName 3) (tt := tYes) (by rfl) nd
          (pi_tup (pe_op op_catW (pe_prop (E := E0) (dvs := []) (pv 0) C.cls PR FR (hr.mono (by decide)) bR .nil (fun _ _ _ _ _ _ _ z => z) rfl) (pe_prop (E := E0) (dvs := []) (pv 1) C.cls PR FR (hr.mono (by decide)) bR .nil (fun _ _ _ _ _ _ _ z => z) rfl)))
          (blkOk_by (own := [("rule", 3)]) (N := adN) (sc := defScope sAD) (by decide +kernel)) (fun _ _ _ _ _ => pg_name (i := 3) nd rfl (Or.inl rfl)) (fun _ _ _ _ _ => pts_nil) (fun _ _ _ _ _ => pe_ix (r := rIxT K) ix_tupK (pv 3) pe_int (fun _ _ => rfl))) pa_nil)))
      (pss_cons (ps_set (i := 4) nd rfl (Or.inl rfl) (pe_lstN pa_nil))
      (pss_cons (ps_lock (ps_for PassesOwn.never rfl (pi_keysNK (P := P) (w := w) (pv 2)) (pg_name (i := 5) nd rfl (Or.inl rfl))
        (pss_cons (ps_expr (pe_bm PySem.F.plainAttrs_list PySem.F.slot_list_append PySem.F.type_list_append mt_append (pv 4) (pa_cons (pv 5) pa_nil)))
        (pss_one (ps_expr (pe_bm PySem.F.plainAttrs_list PySem.F.slot_list_append PySem.F.type_list_append mt_append (pv 4) (pa_cons (pe_tup (StX.pa_star (pv 5) (pa_cons (pe_df DS hr (pa_cons (pe_ix (ix_kdLK (P := P) (w := w) (K := K) hu16) (pv 2) (pv 5) (fun _ _ => rfl)) pa_nil)) pa_nil))) pa_nil)))))))
      (pss_cons (ps_for PassesOwn.never rfl (pi_list (pe_callBK (cr_sortK FK (hr.mono (by decide)) bk) (by rfl) Y.sorted boot_sorted (pa_cons (pv 4) pa_nil) (pk_cons (pe_glob (v := .ref fk) (by rfl) gk rfl) pk_nil))) (pg_name (i := 6) nd rfl (Or.inl rfl))
        (pss_one (ps_if (pt_cmpR (op_neD hr.units) (pe_meth (E := E0) (dvs := []) (pv 0) C.cls mA FA (hr.mono (by decide)) bA .nil (fun _ _ _ _ _ _ _ z => z) (pa_cons (pv 6) pa_nil)) (pe_meth (E := E0) (dvs := []) (pv 1) C.cls mA FA (hr.mono (by decide)) bA .nil (fun _ _ _ _ _ _ _ z => z) (pa_cons (pv 6) pa_nil)) (nomark _))
          (pss_one (ps_ret (pe_callTy call_tuple_of (by rfl) T.tuple (by decide +kernel) (pa_cons (pe_callTy call_list_of (by rfl) T.list (by decide +kernel) (pa_cons (pv 6) pa_nil)) pa_nil)))) pss_nil)))
      (pss_one (ps_ret pe_non))))), ?_⟩
    obtain ⟨ax, at1', ad1, axs, arows, am, a1, a2, a3, a4, _⟩ := id hA
    obtain ⟨bx, bt1', bd1, bxs, brows, bm, b1, b2, b3, b4, _⟩ := id hB
    refine ⟨_, rfl, a, ax, _, rfl, a1, a, rs, rfl, hA, fun p1 xs1 G1 s1 hp1 hxs1 => ?_⟩
    refine ⟨_, rfl, b, bx, _, rfl, s1 _ _ b1, b, ts, rfl, hB.same s1, fun p2 xs2 G2 s2 hp2 hxs2 => ?_⟩
    have hxs1' := hxs1.same s2
    have ln1 := hxs1.length
    have ln2 := hxs2.length
    have f1 := a4.few
    have f2 := b4.few
    refine ⟨p1, p2, xs1, xs2, rfl, rfl, same_T s2 hp1, hp2, Nat.le_trans (show (xs1.length + xs2.length) ≤ 80 by omega) (by decide), fun x G3 s3 hx => ?_⟩
    have hR : Rules K G3 (xs1 ++ xs2) (rs ++ ts) := pair_app (hxs1'.same s3) (hxs2.same s3)
    have sG3 := s1.trans (s2.trans s3)
    refine ⟨x, rfl, ⟨_, hx⟩, fun L hL => ?_⟩
    have hx : SqT K G3 x (xs1 ++ xs2) := hx
    have lnx : (xs1 ++ xs2).length = (rs ++ ts).length := hR.length
    have l80 : (rs ++ ts).length ≤ 80 := by
      rw [List.length_append]
      omega
    have okR : ∀ r ∈ rs ++ ts, r.Ok := fun r hr => by
      rcases List.mem_append.mp hr with h | h
      · exact a4.ok r h
      · exact b4.ok r h
    generalize xs1 ++ xs2 = xs at hx hR lnx ⊢
    refine lc_tup (K := K) (a := x) (xs := xs) (fun i G => Same G3 G ∧ ∃ vs, G L = some (.lst vs) ∧ Places K G vs (((rs ++ ts).take i).map Rl.pl) ∧ vs.length = i) ⟨Same.new hL, [], upd_same, .nil, rfl⟩ (fun i G _ z => same_T z.1 hx) ?_ ?_
    · rintro i y G hy ⟨sG, vs, hk, hp, hn⟩
      obtain ⟨r, e1, rv⟩ := hR.get hy
      have hi : i < (rs ++ ts).length := (List.getElem?_eq_some_iff.mp e1).1
      obtain ⟨ra, rp, ry, rfl, t1, t2, t3⟩ := rv.same sG
      refine ⟨rfl, ?_⟩
      show tOp (rIxT K) (tVar 3) (tC (V.int 1)) _ _ _
      refine ⟨_, rfl, ra, _, _, _, rfl, rfl, t1, at1, vs, hk, Nat.lt_of_le_of_lt (show vs.length ≤ 80 by omega) (by decide), fun c o z => ?_, vs ++ [.ref rp], upd_same, ?_, by simp [hn]⟩
      · rw [upd_ne (ne_of_none z hL)]
        exact sG _ _ z
      · rw [List.take_add_one, e1, List.map_append]
        exact (Paired.mono (fun _ _ ⟨p, e, z⟩ => ⟨p, e, sqT_list hk z⟩) hp).snoc ⟨rp, rfl, sqT_list hk t2⟩
    · rintro G4 ⟨sG4, vs, hk, hp, hn⟩
      rw [List.take_of_length_le (by omega)] at hp
      have lp : ((rs ++ ts).map Rl.pl).length ≤ 80 := by
        rw [List.length_map]
        exact l80
      have p4 : ∀ ws ∈ (rs ++ ts).map Rl.pl, ws.length ≤ 4 := fun ws hw => by
        obtain ⟨r, hr, rfl⟩ := List.mem_map.mp hw
        exact (okR r hr).len
      refine ⟨L, vs, _, rfl, .of hk, hp, Nat.le_trans lp (by decide), p4, fun D G5 rows nD s5 nw lr => ?_⟩
      have sG5 := sG3.trans (sG4.trans s5)
      have nDH : H D = none := (sG3.trans sG4).free nD
      have nw : NWa P w K (fun l => G4 l ≠ none) G5 D rows (entr rs ts) := nw
      obtain ⟨kd, pr, nd1, nd2, av⟩ := id nw
      refine ⟨(show 0 ≤ sizeLine by decide), fun S hS nS => ?_⟩
      have s6 := Same.new (o := .lst []) hS
      have h6 := upd_same (H := G5) (a := S) (o := .lst [])
      have kd6 := kd.same s6
      have pr6 : Paired (RowW (upd G5 S (.lst []))) rows (entr rs ts) := Paired.mono (fun _ _ z => ⟨z.1, let ⟨c, h1, h2⟩ := z.2; ⟨c, h1, s6 _ _ h2⟩⟩) pr
      have sl6 : ∀ y ∈ rows, ∀ l, y.2.2 = .ref l → l ≠ S := fun y hy l e1 e2 => by
        obtain ⟨l', us, e3, e4⟩ := rowW_mem pr y hy
        rw [e1] at e3
        injection e3 with e3
        rw [← e3, e2, hS] at e4
        cases e4
      have sG6 := sG5.trans s6
      have nSH : H S = none := sG5.free hS
      generalize upd G5 S (.lst []) = G6 at s6 h6 kd6 pr6 sG6 ⊢
      refine ⟨D, kdO P w D rows, kd6.at_, trivial, fun od => ?_⟩
      have ls := pr6.length
      have hkeys : ∀ e ∈ entr rs ts, e.1.length ≤ 4 ∧ ∀ z ∈ e.1, Wd z := nextP_keys (Pk := fun ws => ws.length ≤ 4 ∧ ∀ z ∈ ws, Wd z) ⟨Nat.zero_le _, fun z hz => by cases hz⟩ fun ws hw n => by
        obtain ⟨r, hr, rfl⟩ := List.mem_map.mp hw
        exact ⟨Nat.le_trans (by rw [List.length_take]; exact Nat.min_le_right _ _) (okR r hr).len, fun z hz => (okR r hr).wds z (List.mem_of_mem_take hz)⟩
      refine ⟨_, rfl, D, od, rows, rfl, kd6.low, upd_same, for_keysN (P := P) (w := w) (d := D) (o := od) (rows := rows) (fun i σ G => ∃ u5 vs, σ = [some (.ref a), some (.ref b), some (.ref D), none, some (.ref S), u5, none] ∧ (∀ c o, c ≠ D → c ≠ S → G6 c = some o → G c = some o) ∧ G D = some (.frz od (kdO P w D rows)) ∧ (∀ c ys, SqT K G6 c ys → SqT K G c ys) ∧
          G S = some (.lst vs) ∧ Places K G vs (suspects ((entr rs ts).take i)) ∧ vs.length = 2 * i) ⟨none, [], rfl, fun c o nc _ e => (upd_ne nc).trans e, upd_same, fun c ys z => ?_, ?_, .nil, rfl⟩ (fun i σ G _ z => by obtain ⟨_, _, _, _, z, _⟩ := z; exact z) ?_ ?_⟩
      · rcases z with (z | ⟨o, z⟩) | z
        · exact .inl (.inl ((upd_ne (ne_of z kd6.at_ fun e => nomatch e)).trans z))
        · exact .inl (.inr ⟨o, (upd_ne (ne_of z kd6.at_ fun e => nomatch e)).trans z⟩)
        · exact .inr z
      · exact (upd_ne (ne_of h6 kd6.at_ fun e => nomatch e)).trans h6
      · rintro i r σ G hr2 ⟨u5, vs, rfl, off, gD, hT, gS, pl, lv⟩
        obtain ⟨e, he, r1, l, r2, r3⟩ := pair_get pr6 hr2
        have me := List.mem_of_getElem? he
        have mr := List.mem_of_getElem? hr2
        have nk := (kd6.key r mr).1
        rw [r1] at nk
        have tk := nis_inv nk
        have hi : i < rows.length := (List.getElem?_eq_some_iff.mp hr2).1
        have few := kd6.few
        have tkG := hT _ _ tk
        have nDS : D ≠ S := ne_of gD gS fun e => nomatch e
        have nlD : l ≠ D := ne_of r3 kd6.at_ fun e => nomatch e
        have nlS : l ≠ S := sl6 r mr l r2
        have glst := off l _ nlD nlS r3
        refine ⟨_, rfl, Or.inl ⟨rfl, _, Or.inl (Or.inl gS)⟩, _, rfl, S, vs, _, rfl, rfl, gS, Nat.lt_of_le_of_lt (show vs.length ≤ 2000 by omega) (by decide), ?_⟩
        have nSD : S ≠ D := nDS.symm
        have pl1 : Places K (upd G S (.lst (vs ++ [.ref r.2.1]))) (vs ++ [.ref r.2.1]) (suspects ((entr rs ts).take i) ++ [e.1]) := (Paired.mono (fun _ _ ⟨p, e, z⟩ => ⟨p, e, sqT_list gS z⟩) pl).snoc ⟨r.2.1, rfl, sqT_list gS tkG⟩
        have off1 : ∀ c o, c ≠ D → c ≠ S → G6 c = some o → (upd G S (.lst (vs ++ [.ref r.2.1]))) c = some o := fun c o n1 n2 z => (upd_ne n2).trans (off c o n1 n2 z)
        have hT1 : ∀ c ys, SqT K G6 c ys → SqT K (upd G S (.lst (vs ++ [.ref r.2.1]))) c ys := fun c ys z => sqT_list gS (hT c ys z)
        have gD1 : (upd G S (.lst (vs ++ [.ref r.2.1]))) D = some (.frz od (kdO P w D rows)) := (upd_ne nDS).trans gD
        have gS1 := upd_same (H := G) (a := S) (o := .lst (vs ++ [.ref r.2.1]))
        have lv1 : (vs ++ [V.ref r.2.1]).length = 2 * i + 1 := by simp [lv]
        have glst1 := off1 l _ nlD nlS r3
        generalize upd G S (.lst (vs ++ [.ref r.2.1])) = G7 at pl1 off1 hT1 gD1 gS1 glst1 ⊢
        generalize vs ++ [V.ref r.2.1] = vs1 at pl1 gS1 lv1 ⊢
        have tk1 := hT1 _ _ tk
        have kdl : KDL P w K G7 od D rows := ⟨gD1, kd6.low, kd6.few, fun y hy => ⟨nis_mono hT1 (kd6.key y hy).1, (kd6.key y hy).2⟩⟩
        have g1 : kGet rows (kA e.1) = some (.ref l) := by rw [get_row pr6 nd2 hr2 he, r2]
        refine ⟨_, rfl, Or.inl ⟨rfl, _, Or.inl (Or.inl gS1)⟩, _, rfl, r.2.1, _, rfl, .inl tk1, _, rfl, _, rfl, r.2.1, D, od, kA e.1, rows, .ref l, rfl, rfl, nis_ws tk1, kA_deep _, kdl, g1, l, e.2, rfl, .inl (.of glst1), h39 e me, fun m G8 odd s8 => ⟨?_, fun t ht => ⟨S, vs1, .ref t, rfl, rfl, (Same.new ht) _ _ (s8 _ _ gS1), Nat.lt_of_le_of_lt (show vs1.length ≤ 2001 by omega) (by decide), ?_⟩⟩⟩
        · rw [List.length_append, List.length_map]
          exact Nat.le_trans (show e.1.length + 1 ≤ 5 by have := (hkeys e me).1; omega) (by decide)
        · have s9 := s8.trans (Same.new (o := .tup (e.1.map V.str ++ [.str (seqW m)])) ht)
          have em := oddN_eq odd
          have t9 : SqT K (upd G8 t (.tup (e.1.map V.str ++ [.str (seqW m)]))) t ((e.1 ++ [seqW (oddN e.2)]).map V.str) := by
            rw [em, List.map_append]
            exact .of upd_same
          have gS9 := s9 _ _ gS1
          have gD9 := s9 _ _ gD1
          have nSt : t ≠ S := fun q => by
            rw [q, s8 _ _ gS1] at ht
            cases ht
          generalize upd G8 t (.tup (e.1.map V.str ++ [.str (seqW m)])) = G9 at s9 t9 gS9 gD9 ⊢
          refine ⟨_, vs1 ++ [.ref t], rfl, fun c o n1 n2 z => (upd_ne n2).trans (s9 _ _ (off1 c o n1 n2 z)), (upd_ne nDS).trans gD9, fun c ys z => sqT_list gS9 (same_T s9 (hT1 c ys z)), upd_same, ?_, by simp [lv1]; omega⟩
          rw [susp_snoc he]
          exact (Paired.mono (fun _ _ ⟨p, e, z⟩ => ⟨p, e, sqT_list gS9 (same_T s9 z)⟩) pl1).snoc ⟨t, rfl, sqT_list gS9 t9⟩
      · rintro σ G ⟨u5, vs, rfl, off, gD, hT, gS, pl, lv⟩
        have few := kd6.few
        rw [show (entr rs ts).take rows.length = entr rs ts from List.take_of_length_le (by omega)] at pl
        have nDS : D ≠ S := ne_of gD gS fun e => nomatch e
        refine ⟨gD, ?_⟩
        have hT9 : ∀ c ys, SqT K G c ys → SqT K (upd G D (kdO P w D rows)) c ys := fun c ys z => by
          rcases z with (z | ⟨o, z⟩) | z
          · exact .inl (.inl ((upd_ne (ne_of z gD fun e => nomatch e)).trans z))
          · by_cases q : c = D
            · rw [q, gD] at z
              injection z with z
              injection z with z1 z2
              cases z2
            · exact .inl (.inr ⟨o, (upd_ne q).trans z⟩)
          · exact .inr z
        have sH : Same H (upd G D (kdO P w D rows)) := fun c o z => by
          have n1 : c ≠ D := ne_of_none z nDH
          rw [upd_ne n1]
          exact off c o n1 (ne_of_none z nSH) (sG6 c o z)
        have gS9 : (upd G D (kdO P w D rows)) S = some (.lst vs) := (upd_ne nDS.symm).trans gS
        have pl9 : Places K (upd G D (kdO P w D rows)) vs (suspects (entr rs ts)) := Paired.mono (fun _ _ ⟨p, e, z⟩ => ⟨p, e, hT9 _ _ z⟩) pl
        generalize upd G D (kdO P w D rows) = G9 at sH gS9 pl9 ⊢
        have lp := pl9.length
        have zz := zip_fst lp
        have l1000 : vs.length ≤ 1000 := by omega
        have hsus : ∀ ws ∈ suspects (entr rs ts), ws.length ≤ 5 ∧ LowW ws := fun ws hw => by
          unfold suspects at hw
          obtain ⟨e, he, hw⟩ := List.mem_flatMap.mp hw
          obtain ⟨k1, k2⟩ := hkeys e he
          have lw : LowW e.1 := fun z hz => (k2 z hz).low
          have o1 := oddN_le e.2
          have o2 := h39 e he
          simp only [susp, List.mem_cons, List.not_mem_nil, or_false] at hw
          rcases hw with rfl | rfl
          · exact ⟨by omega, lw⟩
          · refine ⟨by rw [List.length_append]; simp; omega, fun z hz => ?_⟩
            rcases List.mem_append.mp hz with hz | hz
            · exact lw z hz
            · rw [List.mem_singleton.mp hz]
              exact low_seq (by omega)
        refine ⟨_, rfl, S, (vs.zip (suspects (entr rs ts))).map fun q => (q.1, keyD q.2), rfl, rfl, ?_, ?_, ?_, ?_, ?_, fun H2 q1 s2 hq nq => ?_⟩
        · rw [List.map_map]
          show SqL K G9 S ((vs.zip (suspects (entr rs ts))).map (·.1))
          rw [zz.1]
          exact .of gS9
        · rw [List.length_map, List.length_zip]
          omega
        · intro d hd d' hd'
          simp only [List.map_map, List.mem_map] at hd hd'
          obtain ⟨p1, _, rfl⟩ := hd
          obtain ⟨p2, _, rfl⟩ := hd'
          exact alike_key _ _
        · refine .inl fun d hd => ?_
          simp only [List.map_map, List.mem_map] at hd
          obtain ⟨p1, _, rfl⟩ := hd
          exact ⟨_, _, rfl⟩
        · intro z hz
          obtain ⟨p1, hp, rfl⟩ := List.mem_map.mp hz
          obtain ⟨pa, ea, ta⟩ := pl_zip pl9 p1 hp
          refine ⟨keyD_bare _, keyD_deep _, fun H1 sH1 => ?_⟩
          show spKey K [p1.1] H1 _ E0
          rw [ea]
          exact ⟨pa, p1.2, rfl, same_T sH1 ta, fun y H' sy dy => ⟨sy, dy⟩⟩
        · have pl10 := sorted_pl (Paired.mono (fun _ _ ⟨p, e, z⟩ => ⟨p, e, same_T (s2.trans (Same.new (o := .lst ((((vs.zip (suspects (entr rs ts))).map fun q => (q.1, keyD q.2)).mergeSort (PySem.W.dataLe false Prod.snd)).map Prod.fst)) hq)) z⟩) pl9 : Places K (upd H2 q1 (.lst ((((vs.zip (suspects (entr rs ts))).map fun q => (q.1, keyD q.2)).mergeSort (PySem.W.dataLe false Prod.snd)).map Prod.fst))) vs (suspects (entr rs ts)))
          have s10 := sH.trans (s2.trans (Same.new (o := .lst ((((vs.zip (suspects (entr rs ts))).map fun q => (q.1, keyD q.2)).mergeSort (PySem.W.dataLe false Prod.snd)).map Prod.fst)) hq))
          have g10 := upd_same (H := H2) (a := q1) (o := .lst ((((vs.zip (suspects (entr rs ts))).map fun q => (q.1, keyD q.2)).mergeSort (PySem.W.dataLe false Prod.snd)).map Prod.fst))
          generalize (((vs.zip (suspects (entr rs ts))).map fun q => (q.1, keyD q.2)).mergeSort (PySem.W.dataLe false Prod.snd)).map Prod.fst = ys at pl10 s10 g10 ⊢
          generalize upd H2 q1 (.lst ys) = G10 at pl10 s10 g10 ⊢
          refine ⟨q1, rfl, ⟨_, .of g10⟩, for_list (K := K) (a := q1) (xs := ys) (fun i σ G => Same G10 G ∧ (∀ ws ∈ (sortA (suspects (entr rs ts))).take i, PyData.eqv (answerOf rs ws) (answerOf ts ws) = true) ∧ ∃ u6, σ = [some (.ref a), some (.ref b), some (.ref D), none, some (.ref S), u5, u6])
            ⟨Same.refl _, (fun ws hw => by rw [List.take_zero] at hw; cases hw), none, rfl⟩ (fun i σ G _ z => z.1.seq (.of g10)) ?_ ?_⟩
          · rintro i x G1 G hx ⟨sG, eqs, u6, rfl⟩
            obtain ⟨ws, hws, p, rfl, tp⟩ := pair_get pl10 hx
            have mw := List.mem_of_getElem? hws
            obtain ⟨l5, low⟩ := hsus ws ((List.mergeSort_perm _ _).mem_iff.mp mw)
            have sHG := s10.trans sG
            have tpG := same_T sG tp
            refine ⟨_, rfl, a, ax, _, rfl, sHG _ _ a1, (by first | rfl | (simp only [List.lookup]; rfl) | (simp only [List.lookup]; decide +kernel)), _, rfl, a, p, rs, ws, rfl, hA.same sHG, tpG, by omega, fun y1 G11 s11 d1 => ?_⟩
            refine ⟨_, rfl, b, bx, _, rfl, s11 _ _ (sHG _ _ b1), (by first | rfl | (simp only [List.lookup]; rfl) | (simp only [List.lookup]; decide +kernel)), _, rfl, b, p, ts, ws, rfl, (hB.same sHG).same s11, same_T s11 tpG, by omega, fun y2 G12 s12 d2 => ?_⟩
            refine ⟨_, _, dp_same s12 d1, d2, shaped_ansL a4.ok low, shaped_ansL b4.ok low, _, rfl, ?_⟩
            have s12' := sG.trans (s11.trans s12)
            cases ev : PyData.eqv (answerOf rs ws) (answerOf ts ws) with
            | false =>
              refine iteT ⟨_, rfl, p, _, rfl, .inr (same_T (s11.trans s12) tpG), fun l hl => ⟨l, _, rfl, .inl ⟨.of upd_same, fun t ht => ?_⟩⟩⟩
              have st := (Same.new (o := .lst (ws.map V.str)) hl).trans (Same.new (o := .tup (ws.map V.str)) ht)
              refine q _ _ (s10.trans (s12'.trans st)) ?_
              have e : difOf rs ts = some ws := find_at hws (by rw [ev]; rfl) fun y hy => by rw [eqs y hy]; rfl
              rw [e]
              exact ⟨t, rfl, .of upd_same⟩
            | true =>
              refine iteF ⟨s12', fun us hu => ?_, _, rfl⟩
              rw [List.take_add_one, hws] at hu
              rcases List.mem_append.mp hu with h | h
              · exact eqs us h
              · have : us = ws := by simpa using h
                rw [this]
                exact ev
          · rintro σ G ⟨sG, eqs, u6, rfl⟩
            rw [List.take_of_length_le (by have := pl10.length; omega)] at eqs
            refine q _ _ (s10.trans sG) ?_
            have e : difOf rs ts = none := List.find?_eq_none.mpr fun y hy => by rw [eqs y hy]; decide
            rw [e]
            rfl
end
end K7
namespace K7
open PySem L2 Ld PyProof.Rows
/-! ### the order -/
theorem leA_eq (a b : List Str) : leA a b = !keyLt b a := by
  rw [← lt_key]
  rfl
theorem leA_tot : PySem.W.TotalLe leA := PySem.W.sortLe_total (listOrd itemOrd) false fun ws => PySem.W.keyToks (keyD ws)
theorem leA_or (a b : List Str) : (leA a b || leA b a) = true := by
  rcases leA_tot.total a b with h | h <;> rw [h] <;> simp
theorem leA_self (a : List Str) : leA a a = true := by
  rcases leA_tot.total a a with h | h <;> exact h
theorem wordsLt_tri : ∀ {ws us : List Str}, ws.length = us.length → wordsLt ws us = false → wordsLt us ws = false → ws = us
  | [], [], _, _, _ => rfl
  | [], _ :: _, h, _, _ => by simp at h
  | _ :: _, [], h, _, _ => by simp at h
  | a :: ws, b :: us, h, h1, h2 => by
    unfold wordsLt at h1 h2
    by_cases e : a = b
    · subst e
      rw [if_pos rfl] at h1 h2
      rw [wordsLt_tri (by simpa using h) h1 h2]
    · rw [if_neg e] at h1
      rw [if_neg (fun q => e q.symm)] at h2
      have q1 := of_decide_eq_false h1
      have q2 := of_decide_eq_false h2
      exact absurd (PySem.W.str_of_cps (List.le_antisymm (List.not_lt.mp q2) (List.not_lt.mp q1))) e
theorem leA_anti {a b : List Str} (h1 : leA a b = true) (h2 : leA b a = true) : a = b := by
  rw [leA_eq, Bool.not_eq_true'] at h1 h2
  unfold keyLt at h1 h2
  by_cases e : a.length = b.length
  · rw [if_pos e] at h2
    rw [if_pos e.symm] at h1
    exact wordsLt_tri e h2 h1
  · rw [if_neg e] at h2
    rw [if_neg (fun q => e q.symm)] at h1
    have := of_decide_eq_false h1
    have := of_decide_eq_false h2
    omega
theorem leA_short {a b : List Str} (h : a.length < b.length) : leA a b = true := by
  rw [leA_eq]
  unfold keyLt
  rw [if_neg (by omega), decide_eq_false (by omega)]
  rfl
theorem wordsLt_snoc (p q : Str) : ∀ s : List Str, wordsLt (s ++ [p]) (s ++ [q]) = if p = q then false else decide (p.cps.toList < q.cps.toList)
  | [] => by
    show (if p = q then wordsLt [] [] else decide (p.cps.toList < q.cps.toList)) = _
    rfl
  | a :: s => by
    show (if a = a then wordsLt (s ++ [p]) (s ++ [q]) else _) = _
    rw [if_pos rfl]
    exact wordsLt_snoc p q s
theorem leA_snoc {s : List Str} {p q : Str} (h : q = p ∨ ¬ q.cps.toList < p.cps.toList) : leA (s ++ [p]) (s ++ [q]) = true := by
  rw [leA_eq]
  unfold keyLt
  rw [if_pos (by simp), wordsLt_snoc]
  rcases h with h | h
  · rw [if_pos h]
    rfl
  · by_cases e : q = p
    · rw [if_pos e]
      rfl
    · rw [if_neg e, decide_eq_false h]
      rfl
theorem find_first {p : List Str → Bool} : ∀ {l : List (List Str)} {x : List Str}, l.Pairwise (fun a b => leA a b = true) → l.find? p = some x → x ∈ l ∧ p x = true ∧ ∀ y ∈ l, p y = true → leA x y = true
  | [], _, _, h => by cases h
  | a :: l, x, pw, h => by
    rw [List.pairwise_cons] at pw
    rw [List.find?_cons] at h
    cases e : p a with
    | true =>
      rw [e] at h
      cases h
      refine ⟨List.mem_cons_self, e, fun y hy _ => ?_⟩
      rcases List.mem_cons.mp hy with q | q
      · rw [q]
        exact leA_self _
      · exact pw.1 y q
    | false =>
      rw [e] at h
      obtain ⟨h1, h2, h3⟩ := find_first pw.2 h
      refine ⟨List.mem_cons_of_mem _ h1, h2, fun y hy hp => ?_⟩
      rcases List.mem_cons.mp hy with q | q
      · rw [q, e] at hp
        cases hp
      · exact h3 y q hp
theorem sortA_pw (ss : List (List Str)) : (sortA ss).Pairwise (fun a b => leA a b = true) := List.pairwise_mergeSort leA_tot.trans leA_or ss
theorem sortA_mem {ss : List (List Str)} {x : List Str} : x ∈ sortA ss ↔ x ∈ ss := (List.mergeSort_perm _ _).mem_iff
/-! ### the law's addresses -/
def W7 : List Str := ["a", "aa", "aaa", "ab", "b", "c", "zz"]
def layer (l : List (List Str)) : List (List Str) := l.flatMap fun ws => W7.map fun w => ws ++ [w]
def layers : Nat → List (List Str)
  | 0 => [[]]
  | n + 1 => layer (layers n)
def addrs : Nat → List (List Str)
  | 0 => [[]]
  | n + 1 => addrs n ++ layers (n + 1)
def allA : List (List Str) := addrs 3
theorem mem_layers : ∀ (n : Nat) (ws : List Str), ws ∈ layers n ↔ ws.length = n ∧ ∀ z ∈ ws, z ∈ W7
  | 0, ws => by
    unfold layers
    rw [List.mem_singleton]
    constructor
    · rintro rfl
      exact ⟨rfl, fun z hz => by cases hz⟩
    · rintro ⟨h, _⟩
      exact List.length_eq_zero_iff.mp h
  | n + 1, ws => by
    show ws ∈ layer (layers n) ↔ _
    unfold layer
    rw [List.mem_flatMap]
    constructor
    · rintro ⟨us, hu, hw⟩
      obtain ⟨w, hw2, rfl⟩ := List.mem_map.mp hw
      obtain ⟨h1, h2⟩ := (mem_layers n us).mp hu
      refine ⟨by simp [h1], fun z hz => ?_⟩
      rcases List.mem_append.mp hz with q | q
      · exact h2 z q
      · rw [List.mem_singleton.mp q]
        exact hw2
    · rintro ⟨h1, h2⟩
      have e : ws = ws.take n ++ [ws[n]'(by omega)] := by
        rw [← take_last (by omega), List.take_of_length_le (by omega)]
      refine ⟨ws.take n, (mem_layers n _).mpr ⟨by rw [List.length_take]; omega, fun z hz => h2 z (List.mem_of_mem_take hz)⟩, ?_⟩
      exact List.mem_map.mpr ⟨ws[n]'(by omega), h2 _ (List.getElem_mem _), e.symm⟩
theorem mem_addrs : ∀ (n : Nat) (ws : List Str), ws ∈ addrs n ↔ ws.length ≤ n ∧ ∀ z ∈ ws, z ∈ W7
  | 0, ws => by
    have := mem_layers 0 ws
    unfold layers at this
    show ws ∈ [[]] ↔ _
    rw [this]
    constructor
    · exact fun ⟨h1, h2⟩ => ⟨by omega, h2⟩
    · exact fun ⟨h1, h2⟩ => ⟨by omega, h2⟩
  | n + 1, ws => by
    show ws ∈ addrs n ++ layers (n + 1) ↔ _
    rw [List.mem_append, mem_addrs n, mem_layers (n + 1)]
    constructor
    · rintro (⟨h1, h2⟩ | ⟨h1, h2⟩)
      · exact ⟨by omega, h2⟩
      · exact ⟨by omega, h2⟩
    · rintro ⟨h1, h2⟩
      by_cases e : ws.length = n + 1
      · exact .inr ⟨e, h2⟩
      · exact .inl ⟨by omega, h2⟩
def chainB : List (List Str) → Bool
  | a :: b :: l => leA a b && chainB (b :: l)
  | _ => true
theorem chain_pw : ∀ {l : List (List Str)}, chainB l = true → l.Pairwise (fun a b => leA a b = true)
  | [], _ => .nil
  | [a], _ => by simp
  | a :: b :: l, h => by
    have h2 := Bool.and_eq_true_iff.mp (show (leA a b && chainB (b :: l)) = true from h)
    have ih := chain_pw h2.2
    rw [List.pairwise_cons]
    refine ⟨fun y hy => ?_, ih⟩
    rcases List.mem_cons.mp hy with q | q
    · rw [q]
      exact h2.1
    · exact leA_tot.trans _ _ _ h2.1 ((List.pairwise_cons.mp ih).1 y q)
def chainK : List (List Str) → Bool
  | a :: b :: l => !keyLt b a && chainK (b :: l)
  | _ => true
theorem chainK_eq : ∀ l : List (List Str), chainB l = chainK l
  | [] => rfl
  | [_] => rfl
  | a :: b :: l => by
    show (leA a b && chainB (b :: l)) = (!keyLt b a && chainK (b :: l))
    rw [leA_eq, chainK_eq (b :: l)]
theorem allA_pw : allA.Pairwise (fun a b => leA a b = true) := chain_pw (by rw [chainK_eq]; decide +kernel)
/-! ### the dict of the words that follow -/
structure NxP (es : List (List Str × List Str)) : Prop where
  nil : keyIn es [] = true
  one : (es.map (·.1)).Nodup
  up : ∀ ws w, keyIn es (ws ++ [w]) = true → ∃ e ∈ es, e.1 = ws ∧ w ∈ e.2
  dn : ∀ e ∈ es, ∀ w ∈ e.2, keyIn es (e.1 ++ [w]) = true
  nd : ∀ e ∈ es, e.2.Nodup
theorem keyIn_iff {es : List (List Str × List Str)} {ws : List Str} : keyIn es ws = true ↔ ∃ e ∈ es, e.1 = ws := by
  unfold keyIn
  rw [decide_eq_true_iff, List.mem_map]
theorem keyIn_add {es : List (List Str × List Str)} {us ws k : List Str} {x : Str} : keyIn ((es ++ [(ws, [])]).map (addTo k x)) us = true ↔ keyIn es us = true ∨ us = ws := by
  rw [keyIn_grow]
  unfold keyIn
  rw [decide_eq_true_iff, decide_eq_true_iff, List.map_append, List.mem_append]
  simp
theorem NxP.step {es : List (List Str × List Str)} {ws : List Str} (z : NxP es) (h : keyIn es ws = true ∨ ∃ us x, ws = us ++ [x] ∧ keyIn es us = true) : NxP (stepW es ws) := by
  unfold stepW
  by_cases k : keyIn es ws = true
  · rw [if_pos k]
    exact z
  · rw [if_neg k]
    obtain ⟨us, x, rfl, hu⟩ : ∃ us x, ws = us ++ [x] ∧ keyIn es us = true := by
      rcases h with h | h
      · exact absurd h k
      · exact h
    rw [List.dropLast_concat, List.getLast?_concat]
    show NxP ((es ++ [(us ++ [x], [])]).map (addTo us x))
    have fst : ∀ t, (addTo us x t).1 = t.1 := fun t => by
      unfold addTo
      split <;> rfl
    refine ⟨keyIn_add.mpr (.inl z.nil), ?_, fun v w hv => ?_, fun e he w hw => ?_, fun e he => ?_⟩
    · have e : ((es ++ [(us ++ [x], ([] : List Str))]).map (addTo us x)).map (fun e => e.1) = es.map (fun e => e.1) ++ [us ++ [x]] := by
        rw [List.map_map, List.map_append]
        congr 1
        · exact List.map_congr_left fun t _ => fst t
        · show [(addTo us x (us ++ [x], [])).1] = _
          rw [fst]
      rw [e, List.nodup_append]
      refine ⟨z.one, by simp, fun a ha b hb q => ?_⟩
      rw [List.mem_singleton.mp hb] at q
      rw [q] at ha
      exact k (decide_eq_true ha)
    · rcases keyIn_add.mp hv with h1 | h1
      · obtain ⟨e, he, e1, e2⟩ := z.up v w h1
        refine ⟨addTo us x e, List.mem_map_of_mem (List.mem_append_left _ he), (fst e).trans e1, ?_⟩
        unfold addTo
        split
        · exact List.mem_append_left _ e2
        · exact e2
      · obtain ⟨rfl, e2⟩ : v = us ∧ w = x := by
          have := List.append_inj' h1 rfl
          exact ⟨this.1, by simpa using this.2⟩
        obtain ⟨e, he, e1⟩ := keyIn_iff.mp hu
        refine ⟨addTo v x e, List.mem_map_of_mem (List.mem_append_left _ he), (fst e).trans e1, ?_⟩
        unfold addTo
        rw [if_pos e1, e2]
        simp
    · obtain ⟨t, ht, rfl⟩ := List.mem_map.mp he
      rw [fst]
      have old : ∀ w ∈ t.2, keyIn es (t.1 ++ [w]) = true := fun w hw => by
        rcases List.mem_append.mp ht with q | q
        · exact z.dn t q w hw
        · rw [List.mem_singleton.mp q] at hw
          cases hw
      unfold addTo at hw
      by_cases q : t.1 = us
      · rw [if_pos q] at hw
        rcases List.mem_append.mp hw with q2 | q2
        · exact keyIn_add.mpr (.inl (old w q2))
        · rw [List.mem_singleton.mp q2, q]
          exact keyIn_add.mpr (.inr rfl)
      · rw [if_neg q] at hw
        exact keyIn_add.mpr (.inl (old w hw))
    · obtain ⟨t, ht, rfl⟩ := List.mem_map.mp he
      have old : t.2.Nodup := by
        rcases List.mem_append.mp ht with q | q
        · exact z.nd t q
        · rw [List.mem_singleton.mp q]
          exact List.nodup_nil
      unfold addTo
      by_cases q : t.1 = us
      · rw [if_pos q]
        show (t.2 ++ [x]).Nodup
        rw [List.nodup_append]
        refine ⟨old, by simp, fun a ha b hb e => ?_⟩
        rw [List.mem_singleton.mp hb] at e
        rw [e] at ha
        rcases List.mem_append.mp ht with m | m
        · have := z.dn t m x ha
          rw [q] at this
          exact k this
        · rw [List.mem_singleton.mp m] at ha
          cases ha
      · rw [if_neg q]
        exact old
theorem begs_np {ws : List Str} {es : List (List Str × List Str)} (z : NxP es) : ∀ n, n ≤ ws.length + 1 → NxP (((List.range n).map ws.take).foldl stepW es) ∧ (∀ k, k < n → keyIn (((List.range n).map ws.take).foldl stepW es) (ws.take k) = true) ∧ ∀ us, keyIn es us = true → keyIn (((List.range n).map ws.take).foldl stepW es) us = true
  | 0, _ => ⟨z, fun k hk => absurd hk (Nat.not_lt_zero k), fun _ h => h⟩
  | n + 1, h => by
    obtain ⟨z1, z2, z3⟩ := begs_np (ws := ws) z n (by omega)
    rw [List.range_succ, List.map_append, List.foldl_append]
    show NxP (stepW _ (ws.take n)) ∧ (∀ k, k < n + 1 → keyIn (stepW _ (ws.take n)) _ = true) ∧ ∀ us, keyIn es us = true → keyIn (stepW _ (ws.take n)) us = true
    refine ⟨z1.step ?_, fun k hk => ?_, fun us hu => keyIn_step (.inl (z3 us hu))⟩
    · cases n with
      | zero => exact .inl z1.nil
      | succ n =>
        refine .inr ⟨ws.take n, ws[n]'(by omega), take_last (by omega), z2 n (by omega)⟩
    · by_cases q : k = n
      · exact keyIn_step (.inr (by rw [q]))
      · exact keyIn_step (.inl (z2 k (by omega)))
theorem pls_np : ∀ {pls : List (List Str)} {es : List (List Str × List Str)}, NxP es → NxP (pls.foldl addPl es) ∧ (∀ ws ∈ pls, ∀ k, keyIn (pls.foldl addPl es) (ws.take k) = true) ∧ ∀ us, keyIn es us = true → keyIn (pls.foldl addPl es) us = true
  | [], es, z => ⟨z, (fun ws h => by cases h), fun _ h => h⟩
  | ws :: pls, es, z => by
    rw [List.foldl_cons]
    obtain ⟨z1, z2, z3⟩ : NxP (addPl es ws) ∧ (∀ k, k < ws.length + 1 → keyIn (addPl es ws) (ws.take k) = true) ∧ ∀ us, keyIn es us = true → keyIn (addPl es ws) us = true := begs_np z (ws.length + 1) (Nat.le_refl _)
    obtain ⟨y1, y2, y3⟩ := pls_np (pls := pls) z1
    refine ⟨y1, fun us hu k => ?_, fun us hu => y3 us (z3 us hu)⟩
    rcases List.mem_cons.mp hu with q | q
    · rw [q]
      by_cases hk : k < ws.length + 1
      · exact y3 _ (z2 k hk)
      · rw [List.take_of_length_le (by omega)]
        have := z2 ws.length (by omega)
        rw [List.take_length] at this
        exact y3 _ this
    · exact y2 us q k
theorem np0 : NxP [([], [])] := ⟨rfl, by simp, (fun ws w h => by simp [keyIn] at h), (fun e he w hw => by
  rw [List.mem_singleton.mp he] at hw
  cases hw), fun e he => by
  rw [List.mem_singleton.mp he]
  exact List.nodup_nil⟩
theorem entr_np (rs ts : List Rl) : NxP (entr rs ts) ∧ ∀ r ∈ rs ++ ts, ∀ k, keyIn (entr rs ts) (r.pl.take k) = true := by
  obtain ⟨h1, h2, _⟩ := pls_np (pls := (rs ++ ts).map Rl.pl) np0
  exact ⟨h1, fun r hr k => h2 _ (List.mem_map_of_mem hr) k⟩
theorem odd_of {xs : List Str} (h : xs.length ≤ 39) : Odd xs (oddN xs) := by
  have ex : ∃ j, j ≤ xs.length ∧ ¬ seqW j ∈ xs := by
    by_cases q : ∃ j, j ≤ xs.length ∧ ¬ seqW j ∈ xs
    · exact q
    · have := ahead_few (xs := xs) (i := xs.length + 1) (by omega) fun j hj => by
        by_cases m : seqW j ∈ xs
        · exact m
        · exact absurd ⟨j, by omega, m⟩ q
      omega
  cases e : (List.range (xs.length + 1)).find? (fun j => !decide (seqW j ∈ xs)) with
  | none =>
    obtain ⟨j, h1, h2⟩ := ex
    have := List.find?_eq_none.mp e j (List.mem_range.mpr (by omega))
    simp [h2] at this
  | some m =>
    have em : oddN xs = m := by
      unfold oddN
      rw [e]
      rfl
    rw [em]
    obtain ⟨h1, h2, h3⟩ := List.find?_range_eq_some.mp e
    refine ⟨by have := List.mem_range.mp h2; omega, by simpa using h1, fun j hj => ?_⟩
    have := h3 j hj
    simpa using this
/-! ### what lies behind does not matter -/
def difB (rs ts : List Rl) (ws : List Str) : Bool := !PyData.eqv (answerOf rs ws) (answerOf ts ws)
theorem findK_none {rs : List Rl} {b : Bool} {ws : List Str} (h : ∀ r ∈ rs, r.pl ≠ ws) : findK rs (b, ws) = none :=
  List.find?_eq_none.mpr fun r hr e => h r hr (key_inj (a := r) (b := ⟨b, ws, .gone⟩) (of_decide_eq_true e)).2
theorem findK_inv {rs : List Rl} {b : Bool} {ws : List Str} {r : Rl} (h : findK rs (b, ws) = some r) : r ∈ rs ∧ r.ex = b ∧ r.pl = ws := by
  have e := key_inj (a := r) (b := ⟨b, ws, .gone⟩) (of_decide_eq_true (List.find?_some (p := fun r : Rl => decide (r.key = kOf b ws)) h))
  exact ⟨List.mem_of_find?_eq_some h, e.1, e.2⟩
theorem openFor_skip {rs : List Rl} {x : List Str} {m : Nat} : ∀ n, m ≤ n → (∀ j, m < j → j ≤ n → findK rs (false, x.take j) = none) → openFor rs x n = openFor rs x m
  | 0, h, _ => by
    have : m = 0 := by omega
    rw [this]
  | n + 1, h, nn => by
    by_cases e : m = n + 1
    · rw [e]
    · show (findK rs (false, x.take (n + 1))).or (openFor rs x n) = _
      rw [nn (n + 1) (by omega) (Nat.le_refl _), Option.none_or]
      exact openFor_skip n (by omega) fun j h1 h2 => nn j h1 (by omega)
theorem openFor_pre {rs : List Rl} {s u : List Str} : ∀ n, n ≤ s.length → openFor rs (s ++ u) n = openFor rs s n
  | 0, _ => rfl
  | n + 1, h => by
    show (findK rs (false, (s ++ u).take (n + 1))).or (openFor rs (s ++ u) n) = (findK rs (false, s.take (n + 1))).or (openFor rs s n)
    rw [List.take_append_of_le_length h, openFor_pre n (by omega)]
theorem openFor_inv {rs : List Rl} {s : List Str} {r : Rl} : ∀ n, openFor rs s n = some r → r ∈ rs ∧ r.ex = false ∧ r.pl.length ≤ s.length
  | 0, h => by
    obtain ⟨h1, h2, h3⟩ := findK_inv h
    exact ⟨h1, h2, by rw [h3]; exact Nat.zero_le _⟩
  | n + 1, h => by
    have h : (findK rs (false, s.take (n + 1))).or (openFor rs s n) = some r := h
    cases e : findK rs (false, s.take (n + 1)) with
    | none =>
      rw [e, Option.none_or] at h
      exact openFor_inv n h
    | some t =>
      rw [e] at h
      cases h
      obtain ⟨h1, h2, h3⟩ := findK_inv e
      exact ⟨h1, h2, by rw [h3, List.length_take]; exact Nat.min_le_right _ _⟩
def ansX (o : Option Rl) (ws : List Str) : PyData := match o with
  | none => .tuple [.str "nothing"]
  | some r => ansOf r ws
theorem ans_at {rs : List Rl} {s u : List Str} (h : ∀ r ∈ rs, ∀ j, s.length < j → r.pl ≠ (s ++ u).take j) (hu : u ≠ []) : answerOf rs (s ++ u) = ansX (openFor rs s s.length) (s ++ u) := by
  have lu : 0 < u.length := List.length_pos_iff.mpr hu
  have e1 : findK rs (true, s ++ u) = none := findK_none fun r hr => by
    have := h r hr (s ++ u).length (by rw [List.length_append]; omega)
    rwa [List.take_length] at this
  have e2 : ruleFor rs (s ++ u) = openFor rs s s.length := by
    unfold ruleFor
    rw [e1, Option.none_or, openFor_skip (m := s.length) _ (by simp) fun j h1 _ => findK_none fun r hr => h r hr j h1, openFor_pre _ (Nat.le_refl _)]
  unfold answerOf ansX
  rw [e2] <;> (cases openFor rs s s.length <;> rfl)
theorem eqv_shift {o1 o2 : Option Rl} {s u v : List Str} (h1 : ∀ r, o1 = some r → r.ex = false ∧ r.pl.length ≤ s.length) (h2 : ∀ r, o2 = some r → r.ex = false ∧ r.pl.length ≤ s.length) :
    PyData.eqv (ansX o1 (s ++ u)) (ansX o2 (s ++ u)) = PyData.eqv (ansX o1 (s ++ v)) (ansX o2 (s ++ v)) := by
  have sh : ∀ (o : Option Rl), (∀ r, o = some r → r.ex = false ∧ r.pl.length ≤ s.length) → (∀ w, ansX o (s ++ w) = .tuple [.str "nothing"]) ∨ (∀ w, ansX o (s ++ w) = .tuple [.str "gone"]) ∨ (∃ z d, ∀ w, ansX o (s ++ w) = .tuple [.str "section", .str z, wt (d ++ w)]) ∨
      (∃ d n, ∀ w, ansX o (s ++ w) = .tuple [.str "to", wt (d ++ w), .int n]) := by
    intro o h
    cases o with
    | none => exact .inl fun w => rfl
    | some r =>
      obtain ⟨e, pl, an⟩ := r
      obtain ⟨rfl, l⟩ := h _ rfl
      have l : pl.length ≤ s.length := l
      cases an with
      | gone => exact .inr (.inl fun w => rfl)
      | own z =>
        refine .inr (.inr (.inl ⟨z, s.drop pl.length, fun w => ?_⟩))
        rw [← List.drop_append_of_le_length l]
        rfl
      | to t n =>
        refine .inr (.inr (.inr ⟨t ++ s.drop pl.length, n, fun w => ?_⟩))
        rw [List.append_assoc, ← List.drop_append_of_le_length l]
        rfl
  have st : ((Str.ofString "section") == (Str.ofString "to")) = false := by decide +kernel
  have ts : ((Str.ofString "to") == (Str.ofString "section")) = false := by decide +kernel
  rcases sh o1 h1 with a | a | ⟨z, d, a⟩ | ⟨d, n, a⟩ <;> rcases sh o2 h2 with b | b | ⟨z2, d2, b⟩ | ⟨d2, n2, b⟩ <;> rw [a u, a v, b u, b v] <;> simp [PyData.eqv, PyData.eqvAll, eqv_wt, st, ts]
theorem dif_shift {rs ts : List Rl} {s u v : List Str} (hu : u ≠ []) (hv : v ≠ []) (h1 : ∀ r ∈ rs ++ ts, ∀ j, s.length < j → r.pl ≠ (s ++ u).take j) (h2 : ∀ r ∈ rs ++ ts, ∀ j, s.length < j → r.pl ≠ (s ++ v).take j) : difB rs ts (s ++ u) = difB rs ts (s ++ v) := by
  unfold difB
  rw [ans_at (fun r hr => h1 r (List.mem_append_left _ hr)) hu, ans_at (fun r hr => h1 r (List.mem_append_right _ hr)) hu, ans_at (fun r hr => h2 r (List.mem_append_left _ hr)) hv, ans_at (fun r hr => h2 r (List.mem_append_right _ hr)) hv]
  rw [eqv_shift (v := v) (fun r e => ⟨(openFor_inv _ e).2.1, (openFor_inv _ e).2.2⟩) (fun r e => ⟨(openFor_inv _ e).2.1, (openFor_inv _ e).2.2⟩)]
/-! ### the first address that differs -/
def menu5 : List Str := ["a", "b", "aa", "c", "zz"]
structure Few (rs : List Rl) : Prop where
  len : ∀ r ∈ rs, r.pl.length ≤ 2
  wds : ∀ r ∈ rs, ∀ z ∈ r.pl, z ∈ menu5
theorem near : ∀ m ≤ 2, ∀ w ∈ W7, (∀ j < m, ¬ seqW j = w) → w = seqW m ∨ ¬ w.cps.toList < (seqW m).cps.toList := by decide +kernel
theorem not5 : ¬ seqW 2 ∈ menu5 := by decide +kernel
theorem m5_w7 : ∀ z ∈ menu5, z ∈ W7 := by decide +kernel
theorem seq_w7 : ∀ m ≤ 2, seqW m ∈ W7 := by decide +kernel
theorem longest (p : Nat → Prop) [DecidablePred p] (h0 : p 0) : ∀ n, ∃ k, k ≤ n ∧ p k ∧ ∀ j, k < j → j ≤ n → ¬ p j
  | 0 => ⟨0, Nat.le_refl _, h0, fun j h1 h2 => by omega⟩
  | n + 1 => by
    by_cases h : p (n + 1)
    · exact ⟨n + 1, Nat.le_refl _, h, fun j h1 h2 => by omega⟩
    · obtain ⟨k, h1, h2, h3⟩ := longest p h0 n
      refine ⟨k, by omega, h2, fun j h4 h5 => ?_⟩
      by_cases e : j = n + 1
      · rw [e]
        exact h
      · exact h3 j h4 (by omega)
section
variable {rs ts : List Rl}
theorem entr_keys (f : Few (rs ++ ts)) : ∀ e ∈ entr rs ts, e.1.length ≤ 2 ∧ ∀ z ∈ e.1, z ∈ menu5 := nextP_keys (Pk := fun ws => ws.length ≤ 2 ∧ ∀ z ∈ ws, z ∈ menu5) ⟨Nat.zero_le _, fun z hz => by cases hz⟩ fun ws hw n => by
  obtain ⟨r, hr, rfl⟩ := List.mem_map.mp hw
  exact ⟨Nat.le_trans (by rw [List.length_take]; exact Nat.min_le_right _ _) (f.len r hr), fun z hz => f.wds r hr z (List.mem_of_mem_take hz)⟩
theorem few_in {α : Type} [DecidableEq α] : ∀ {xs ys : List α}, xs.Nodup → (∀ x ∈ xs, x ∈ ys) → xs.length ≤ ys.length
  | [], _, _, _ => Nat.zero_le _
  | x :: xs, ys, n, h => by
    have m := h x List.mem_cons_self
    have n2 := List.nodup_cons.mp n
    have i := few_in (xs := xs) (ys := ys.erase x) n2.2 fun z hz => by
      have ne : z ≠ x := fun e => n2.1 (e ▸ hz)
      exact (List.mem_erase_of_ne ne).mpr (h z (List.mem_cons_of_mem _ hz))
    have l := List.length_erase_of_mem m
    have p := List.length_pos_of_mem m
    simp only [List.length_cons]
    omega
theorem few_39 (f : Few (rs ++ ts)) : ∀ e ∈ entr rs ts, e.2.length ≤ 39 := fun e he => by
  have h : e.2.length ≤ menu5.length := few_in ((entr_np rs ts).1.nd e he) fun w hw => by
    obtain ⟨e2, m2, q2⟩ := keyIn_iff.mp ((entr_np rs ts).1.dn e he w hw)
    exact (entr_keys f e2 m2).2 w (by rw [q2]; simp)
  exact Nat.le_trans h (by decide)
theorem entr_odd (f : Few (rs ++ ts)) (h39 : ∀ e ∈ entr rs ts, e.2.length ≤ 39) : ∀ e ∈ entr rs ts, oddN e.2 ≤ 2 := fun e he => by
  have o := odd_of (h39 e he)
  by_cases q : oddN e.2 ≤ 2
  · exact q
  · have h2 := o.all 2 (by omega)
    have k := (entr_np rs ts).1.dn e he _ h2
    obtain ⟨e2, m2, q2⟩ := keyIn_iff.mp k
    have := (entr_keys f e2 m2).2 (seqW 2) (by rw [q2]; simp)
    exact absurd this not5
theorem sus_in (f : Few (rs ++ ts)) (h39 : ∀ e ∈ entr rs ts, e.2.length ≤ 39) : ∀ ws ∈ suspects (entr rs ts), ws ∈ allA := fun ws hw => by
  unfold suspects at hw
  obtain ⟨e, he, hw⟩ := List.mem_flatMap.mp hw
  obtain ⟨k1, k2⟩ := entr_keys f e he
  have o := entr_odd f h39 e he
  refine (mem_addrs 3 ws).mpr ?_
  simp only [susp, List.mem_cons, List.not_mem_nil, or_false] at hw
  rcases hw with rfl | rfl
  · exact ⟨by omega, fun z hz => m5_w7 z (k2 z hz)⟩
  · refine ⟨by rw [List.length_append, List.length_singleton]; omega, fun z hz => ?_⟩
    rcases List.mem_append.mp hz with q | q
    · exact m5_w7 z (k2 z q)
    · rw [List.mem_singleton.mp q]
      exact seq_w7 _ o
theorem sus_below (f : Few (rs ++ ts)) (h39 : ∀ e ∈ entr rs ts, e.2.length ≤ 39) {x : List Str} (hx : x ∈ allA) (hd : difB rs ts x = true) : ∃ y ∈ suspects (entr rs ts), difB rs ts y = true ∧ leA y x = true := by
  obtain ⟨np, kp⟩ := entr_np rs ts
  obtain ⟨_, xw⟩ := (mem_addrs 3 x).mp hx
  obtain ⟨k, k1, k2, k3⟩ := longest (fun j => keyIn (entr rs ts) (x.take j) = true) (by rw [List.take_zero]; exact np.nil) x.length
  obtain ⟨e, he, e1⟩ := keyIn_iff.mp k2
  have ins : ∀ y, y = e.1 ∨ y = e.1 ++ [seqW (oddN e.2)] → y ∈ suspects (entr rs ts) := fun y hy => by
    unfold suspects
    refine List.mem_flatMap.mpr ⟨e, he, ?_⟩
    simp only [susp, List.mem_cons, List.not_mem_nil, or_false]
    exact hy
  by_cases q : k = x.length
  · rw [q, List.take_length] at e1
    exact ⟨x, ins x (.inl e1.symm), hd, leA_self x⟩
  · have hk : k < x.length := by omega
    have ex : x = x.take k ++ x.drop k := (List.take_append_drop k x).symm
    have lk : (x.take k).length = k := by
      rw [List.length_take]
      omega
    have nu : x.drop k ≠ [] := fun z => by
      have := congrArg List.length z
      rw [List.length_drop] at this
      simp at this
      omega
    have o := odd_of (h39 e he)
    have o2 := entr_odd f h39 e he
    have no1 : ∀ r ∈ rs ++ ts, ∀ j, (x.take k).length < j → r.pl ≠ (x.take k ++ x.drop k).take j := fun r hr j hj z => by
      rw [← ex] at z
      rw [lk] at hj
      have key := kp r hr r.pl.length
      rw [List.take_length, z] at key
      by_cases hj2 : j ≤ x.length
      · exact k3 j hj hj2 key
      · rw [List.take_of_length_le (by omega)] at key
        exact k3 x.length hk (Nat.le_refl _) (by rw [List.take_length]; exact key)
    have nokey : ¬ keyIn (entr rs ts) (x.take k ++ [seqW (oddN e.2)]) = true := fun z => by
      obtain ⟨e2, m2, q1, q2⟩ := np.up _ _ z
      have := fst_one np.one he m2 (q1.trans e1.symm)
      rw [this] at q2
      exact o.out q2
    have no2 : ∀ r ∈ rs ++ ts, ∀ j, (x.take k).length < j → r.pl ≠ (x.take k ++ [seqW (oddN e.2)]).take j := fun r hr j hj z => by
      rw [List.take_of_length_le (by rw [List.length_append, List.length_singleton]; omega)] at z
      have key := kp r hr r.pl.length
      rw [List.take_length, z] at key
      exact nokey key
    refine ⟨x.take k ++ [seqW (oddN e.2)], ins _ (.inr (by rw [e1])), ?_, ?_⟩
    · rw [← dif_shift (s := x.take k) nu (by simp) no1 no2, ← ex]
      exact hd
    · by_cases hl : k + 1 < x.length
      · refine leA_short ?_
        rw [List.length_append, List.length_singleton, lk]
        exact hl
      · have ex2 : x = x.take k ++ [x[k]] := by
          rw [← take_last hk, List.take_of_length_le (by omega)]
        have wk : ¬ x[k] ∈ e.2 := fun z => by
          have := np.dn e he _ z
          rw [e1, ← take_last hk] at this
          exact k3 (k + 1) (by omega) (by omega) this
        have n := near (oddN e.2) o2 (x[k]) (xw _ (List.getElem_mem _)) fun j hj z => wk (by rw [← z]; exact o.all j hj)
        have g := leA_snoc (s := x.take k) n
        rw [← ex2] at g
        exact g
theorem dif_first (f : Few (rs ++ ts)) (h39 : ∀ e ∈ entr rs ts, e.2.length ≤ 39) : difOf rs ts = allA.find? (difB rs ts) := by
  have e0 : difOf rs ts = (sortA (suspects (entr rs ts))).find? (difB rs ts) := rfl
  rw [e0]
  cases h1 : allA.find? (difB rs ts) with
  | none =>
    refine List.find?_eq_none.mpr fun y hy => ?_
    exact List.find?_eq_none.mp h1 y (sus_in f h39 y (sortA_mem.mp hy))
  | some x =>
    obtain ⟨x1, x2, x3⟩ := find_first allA_pw h1
    obtain ⟨y, y1, y2, y3⟩ := sus_below f h39 x1 x2
    cases h2 : (sortA (suspects (entr rs ts))).find? (difB rs ts) with
    | none => exact absurd y2 (List.find?_eq_none.mp h2 y (sortA_mem.mpr y1))
    | some z =>
      obtain ⟨z1, z2, z3⟩ := find_first (sortA_pw _) h2
      have a1 := leA_tot.trans _ _ _ (z3 y (sortA_mem.mpr y1) y2) y3
      have a2 := x3 z (sus_in f h39 z (sortA_mem.mp z1)) z2
      rw [leA_anti a1 a2]
end
end K7
namespace K7
open PySem PySem.Spec L2 Ld PyProof.Rows
abbrev sAddrs : Stmt := top 36
/-! ### the law's words, sorted -/
def W7u : List Str := ["a", "aa", "b", "c", "aaa", "ab", "zz"]
def leS (a b : Str) : Bool := !ltCps b.cps.toList a.cps.toList
theorem rising_pw : ∀ (l : List Str) (p : Str), (∀ a ∈ p :: l, ∀ b ∈ p :: l, ∀ c ∈ p :: l, leS a b = true → leS b c = true → leS a c = true) → risingS p l = true → (p :: l).Pairwise (fun a b => leS a b = true)
  | [], p, _, _ => by simp
  | x :: l, p, tr, h => by
    have h2 := Bool.and_eq_true_iff.mp (show (!ltCps x.cps.toList p.cps.toList && risingS x l) = true from h)
    have ih := rising_pw l x (fun a ha b hb c hc => tr a (List.mem_cons_of_mem _ ha) b (List.mem_cons_of_mem _ hb) c (List.mem_cons_of_mem _ hc)) h2.2
    rw [List.pairwise_cons]
    refine ⟨fun y hy => ?_, ih⟩
    rcases List.mem_cons.mp hy with q | q
    · rw [q]
      exact h2.1
    · exact tr p List.mem_cons_self x (by simp) y (by simp [q]) h2.1 ((List.pairwise_cons.mp ih).1 y q)
theorem w7_tr : ∀ a ∈ W7u, ∀ b ∈ W7u, ∀ c ∈ W7u, leS a b = true → leS b c = true → leS a c = true := by decide +kernel
theorem w7_anti : ∀ a ∈ W7u, ∀ b ∈ W7u, leS a b = true → leS b a = true → a = b := by decide +kernel
theorem w7_pw : W7.Pairwise (fun a b => leS a b = true) := rising_pw _ "a" (by decide +kernel) (by decide +kernel)
theorem w7_perm : W7.Perm W7u := by decide +kernel
theorem w7_eq {ys : List Str} (p : ys.Perm W7u) (h : sortedS ys = true) : ys = W7 := by
  have pw : ys.Pairwise (fun a b => leS a b = true) := by
    cases ys with
    | nil => exact .nil
    | cons y ys => exact rising_pw ys y (fun a ha b hb c hc => w7_tr a (p.mem_iff.mp ha) b (p.mem_iff.mp hb) c (p.mem_iff.mp hc)) h
  exact List.Perm.eq_of_pairwise (le := fun a b => leS a b = true) (fun a b ha hb h1 h2 => w7_anti a (p.mem_iff.mp ha) b (w7_perm.mem_iff.mp hb) h1 h2) pw w7_pw (p.trans w7_perm.symm)
theorem op_catWK {X : Cx} {K : PySem.W.Frag} (hK : X.K = K := by rfl) : OpR X (binaryOp .Add) (rCatW K) := by
  subst hK
  exact op_catW
theorem places_mono {K : PySem.W.Frag} {H H' : Hp} {xs : List V} {ss : List (List Str)} (z : Places K H xs ss) (hT : ∀ a xs, SqT K H a xs → SqT K H' a xs) : Places K H' xs ss := Paired.mono (fun _ _ ⟨p, e, z⟩ => ⟨p, e, hT _ _ z⟩) z
theorem layer_snoc (l : List (List Str)) (us : List Str) : layer (l ++ [us]) = layer l ++ W7.map fun w => us ++ [w] := by
  unfold layer
  rw [List.flatMap_append]
  simp
theorem lens : ∀ i ≤ 3, (layers i).length ≤ 343 ∧ (addrs i).length ≤ 400 := by decide +kernel
theorem layer_len (l : List (List Str)) : (layer l).length = 7 * l.length := by
  induction l with
  | nil => rfl
  | cons a l ih =>
    show ((W7.map fun w => a ++ [w]) ++ layer l).length = _
    rw [List.length_append, ih, List.length_map, List.length_cons]
    show 7 + 7 * l.length = _
    omega
section
variable {P : Program} {w : World} {K : PySem.W.Frag} {mg : Str → Option Value} {base : Heap} {f : Addr} {fd : FuncData}
def spAddrs (K : PySem.W.Frag) : Sp := fun vs H Q _ => ∃ (a : Addr), vs = [.ref a, .int 3] ∧ SqL K H a (W7u.map V.str) ∧ ∀ D xs H', H D = none → Same H H' → H' D = some (.lst xs) → Places K H' xs allA → Q (.ref D) H'
def adrN : List Str := ["_law_words", "_law_most", "_law_found", "_law_layer", "_law_count", "_law_wider", "_law_address_here", "_law_word"]
theorem scAddrs : FnScope adrN ["_law_words", "_law_most"] (defScope sAddrs) := ⟨rfl, rfl, rfl, by decide +kernel, rfl, by decide +kernel, by decide +kernel⟩
theorem ok_addrs (Fd : Fun K "_law_addresses" "_law_addresses" sAddrs f fd) (T : Tx mg) (Y : Ty mg) : FnOk P w K mg base CX0 1 f fd ["_law_words", "_law_most"] (spAddrs K) := by
  refine Fd.ok scAddrs (fun vs H Q E h => ?_) (fun cdv A outer s H vs Q E hr h => ?_)
  · obtain ⟨a, rfl, _⟩ := h
    rfl
  · obtain ⟨a, rfl, ha, q⟩ := h
    have nd := scAddrs.nd
    refine ⟨_, pss_cons (ps_par (i := 2) (j := 3) (by rfl) nd rfl rfl (by decide) rfl rfl (pa_cons (pe_lstN (pa_cons (pe_tup pa_nil) pa_nil)) (pa_cons (pe_lstN (pa_cons (pe_tup pa_nil) pa_nil)) pa_nil)) (by rfl))
      (pss_cons (ps_for PassesOwn.never rfl (pi_range1 rfl T.range (pa_cons (pv 1) pa_nil)) (pg_name (i := 4) nd rfl (Or.inl rfl))
        (pss_cons (ps_set (i := 5) nd rfl (Or.inl rfl) (pe_lstN pa_nil))
        (pss_cons (ps_for PassesOwn.never rfl (pi_list (pv 3)) (pg_name (i := 6) nd rfl (Or.inr rfl))
          (pss_one (ps_set (i := 5) nd rfl (Or.inl rfl) (pe_op op_cat (pv 5) (pe_lc (own := [("_law_word", 7)]) (g := gName 7) (tt := tYes) (by rfl) nd (pi_list (pe_callB cr_sortedS (by rfl) Y.sorted boot_sorted (pa_cons (pv 0) pa_nil))) (blkOk_by (own := [("_law_word", 7)]) (N := adrN) (sc := defScope sAddrs) (by decide +kernel))
            (fun _ _ _ _ _ => pg_name (i := 7) nd rfl (Or.inl rfl)) (fun _ _ _ _ _ => pts_nil) (fun _ _ _ _ _ => pe_op (op_catWK (K := K)) (pv 6) (pe_tup (pa_cons (pv 7) pa_nil))))))))
        (pss_cons (ps_set (i := 3) nd rfl (Or.inl rfl) (pv 5))
        (pss_one (ps_set (i := 2) nd rfl (Or.inl rfl) (pe_op op_cat (pv 2) (pv 3))))))))
      (pss_one (ps_ret (pv 2)))), ?_⟩
    refine ⟨(show 0 ≤ sizeLine by decide), fun e1 he1 => ⟨(show 1 ≤ sizeLine by decide), fun F hF nF => ?_⟩⟩
    have s1 := (Same.new (o := .tup []) he1).trans (Same.new (o := .lst [.ref e1]) hF)
    have kF := upd_same (H := upd H e1 (.tup [])) (a := F) (o := .lst [.ref e1])
    have ke := (Same.new (o := .lst [.ref e1]) hF) _ _ (upd_same (H := H) (a := e1) (o := .tup []))
    have nF : H F = none := (Same.new (o := .tup []) he1).free hF
    generalize upd (upd H e1 (.tup [])) F (.lst [.ref e1]) = G1 at s1 kF ke ⊢
    refine ⟨(show 0 ≤ sizeLine by decide), fun e2 he2 => ⟨(show 1 ≤ sizeLine by decide), fun L hL nL => ?_⟩⟩
    have s2 := (Same.new (o := .tup []) he2).trans (Same.new (o := .lst [.ref e2]) hL)
    have kL := upd_same (H := upd G1 e2 (.tup [])) (a := L) (o := .lst [.ref e2])
    have ke2 := (Same.new (o := .lst [.ref e2]) hL) _ _ (upd_same (H := G1) (a := e2) (o := .tup []))
    have kF2 := s2 _ _ kF
    have ke' := s2 _ _ ke
    have s12 := s1.trans s2
    generalize upd (upd G1 e2 (.tup [])) L (.lst [.ref e2]) = G2 at s2 kL ke2 kF2 ke' s12 ⊢
    have pF : Places K G2 [.ref e1] (addrs 0) := .cons ⟨e1, rfl, .of ke'⟩ .nil
    have pL : Places K G2 [.ref e2] (layers 0) := .cons ⟨e2, rfl, .of ke2⟩ .nil
    refine ⟨_, _, rfl, _, rfl, 3, rfl, by decide, by decide, for_range (lo := 0) (n := 3) (fun i σ G => ∃ F L fs ls u4 u5 u6, σ = [some (.ref a), some (.int 3), some (.ref F), some (.ref L), u4, u5, u6, none] ∧ Same H G ∧ H F = none ∧ G F = some (.lst fs) ∧ Places K G fs (addrs i) ∧ G L = some (.lst ls) ∧ Places K G ls (layers i))
      ⟨F, L, _, _, none, none, none, rfl, s12, nF, kF2, pF, kL, pL⟩ ?_ ?_⟩
    · rintro i σ G hi ⟨F, L, fs, ls, u4, u5, u6, rfl, sG, nF, kF, pF, kL, pL⟩
      obtain ⟨b1, b2⟩ := lens i (by omega)
      obtain ⟨b3, b4⟩ := lens (i + 1) (by omega)
      have lf := pF.length
      have ll := pL.length
      refine ⟨(show 0 ≤ sizeLine by decide), fun W hW nW => ?_⟩
      have s3 := Same.new (o := .lst []) hW
      have kW := upd_same (H := G) (a := W) (o := .lst [])
      have kF3 := s3 _ _ kF
      have kL3 := s3 _ _ kL
      have pF3 := places_mono pF fun _ _ z => same_T s3 z
      have pL3 := places_mono pL fun _ _ z => same_T s3 z
      have sG3 := sG.trans s3
      generalize upd G W (.lst []) = G3 at kW kF3 kL3 pF3 pL3 sG3 ⊢
      refine ⟨_, rfl, L, rfl, ⟨_, .of kL3⟩, for_list (K := K) (a := L) (xs := ls) (fun k σ G4 => ∃ W ws u6, σ = [some (.ref a), some (.int 3), some (.ref F), some (.ref L), some (.int (0 + ↑i)), some (.ref W), u6, none] ∧ Same G3 G4 ∧ G4 W = some (.lst ws) ∧ Places K G4 ws (layer ((layers i).take k)))
        ⟨W, [], u6, rfl, Same.refl _, kW, .nil⟩ (fun k σ G4 _ z => by obtain ⟨_, _, _, _, z, _⟩ := z; exact .of (z _ _ kL3)) ?_ ?_⟩
      · rintro k x σ G4 hx ⟨W, ws, u6, rfl, s4, kW, pW⟩
        obtain ⟨us, hus, p, rfl, tp⟩ := pair_get pL3 hx
        have hk : k < (layers i).length := (List.getElem?_eq_some_iff.mp hus).1
        have u3 := ((mem_layers i us).mp (List.mem_of_getElem? hus)).1
        have lw := pW.length
        rw [layer_len, List.length_take] at lw
        have sG4 := sG3.trans s4
        have tp4 := same_T s4 tp
        refine ⟨_, rfl, _, rfl, a, W7u, rfl, sG4.seq ha, by decide, fun ys pS pm so hpS => ?_⟩
        rw [w7_eq pm so]
        have s5 := Same.new (o := .lst (W7.map V.str)) hpS
        have k5 := upd_same (H := G4) (a := pS) (o := .lst (W7.map V.str))
        have kW5 := s5 _ _ kW
        have pW5 := places_mono pW fun _ _ z => same_T s5 z
        have tp5 := same_T s5 tp4
        have s45 := s4.trans s5
        generalize upd G4 pS (.lst (W7.map V.str)) = G5 at k5 kW5 pW5 tp5 s45 ⊢
        refine ⟨pS, rfl, ⟨_, .of k5⟩, fun D hD => ?_⟩
        refine lc_list (K := K) (a := pS) (xs := W7.map V.str) (fun m G6 => Same G5 G6 ∧ ∃ ds, G6 D = some (.lst ds) ∧ Places K G6 ds ((W7.take m).map fun w => us ++ [w])) ⟨Same.new hD, [], upd_same, .nil⟩ (fun m G6 _ z => .of (z.1 _ _ k5)) ?_ ?_
        · rintro m y G6 hy ⟨s6, ds, kD, pD⟩
          rw [List.getElem?_map] at hy
          obtain ⟨wd, hwd, rfl⟩ := Option.map_eq_some_iff.mp hy
          have ld := pD.length
          rw [List.length_map, List.length_take] at ld
          have l7 : W7.length = 7 := rfl
          refine ⟨rfl, ?_⟩
          show tOp (rCatW K) (tVar 6) (tTup (tCons (tVar 7) tNil)) _ _ _
          refine ⟨_, rfl, _, rfl, (show 1 ≤ sizeLine by decide), fun t ht => ?_⟩
          have s7 := Same.new (o := .tup [.str wd]) ht
          have kt := upd_same (H := G6) (a := t) (o := .tup [.str wd])
          have kD7 := s7 _ _ kD
          have tp7 := same_T (s6.trans s7) tp5
          have pD7 := places_mono pD fun _ _ z => same_T s7 z
          have s67 := s6.trans s7
          generalize upd G6 t (.tup [.str wd]) = G7 at kt kD7 tp7 pD7 s67 ⊢
          refine ⟨p, t, _, _, rfl, rfl, tp7, .of kt, ?_, fun r G8 s8 hr => ?_⟩
          · rw [List.length_map]
            exact Nat.le_trans (show us.length + 1 ≤ 4 by omega) (by decide)
          · have kD8 := s8 _ _ kD7
            refine ⟨ds, kD8, Nat.lt_of_le_of_lt (show ds.length ≤ 7 by omega) (by decide), fun c o z => ?_, ds ++ [.ref r], upd_same, ?_⟩
            · rw [upd_ne (ne_of_none z hD)]
              exact s8 _ _ (s67 _ _ z)
            · rw [List.take_add_one, hwd, List.map_append]
              refine (places_mono pD7 fun _ _ z => sqT_list kD8 (same_T s8 z)).snoc ⟨r, rfl, sqT_list kD8 ?_⟩
              rw [List.map_append]
              exact hr
        · rintro G6 ⟨s6, ds, kD, pD⟩
          rw [List.take_of_length_le (by rw [List.length_map]; exact Nat.le_refl _)] at pD
          have ld := pD.length
          rw [List.length_map] at ld
          have l7 : W7.length = 7 := rfl
          have pW6 := places_mono pW5 fun _ _ z => same_T s6 z
          refine ⟨W, D, ws, ds, rfl, rfl, s6 _ _ kW5, kD, Nat.le_trans (show ws.length + ds.length ≤ 3000 by omega) (by decide), fun W2 hW2 => ?_⟩
          have s8 := Same.new (o := .lst (ws ++ ds)) hW2
          refine ⟨W2, ws ++ ds, _, rfl, s45.trans (s6.trans s8), upd_same, ?_⟩
          rw [List.take_add_one, hus]
          show Places K _ _ (layer ((layers i).take k ++ [us]))
          rw [layer_snoc]
          exact pair_app (places_mono pW6 fun _ _ z => same_T s8 z) (places_mono pD fun _ _ z => same_T s8 z)
      · rintro σ G4 ⟨W, ws, u6, rfl, s4, kW, pW⟩
        rw [List.take_of_length_le (by omega)] at pW
        have lw := pW.length
        have pF4 := places_mono pF3 fun _ _ z => same_T s4 z
        have e3 : layer (layers i) = layers (i + 1) := rfl
        rw [e3] at pW lw
        refine ⟨_, rfl, _, rfl, _, rfl, F, W, fs, ws, rfl, rfl, s4 _ _ kF3, kW, Nat.le_trans (show fs.length + ws.length ≤ 3000 by omega) (by decide), fun F2 hF2 => ?_⟩
        have s8 := Same.new (o := .lst (fs ++ ws)) hF2
        refine ⟨F2, W, fs ++ ws, ws, _, _, _, rfl, sG3.trans (s4.trans s8), (sG3.trans s4).free hF2, upd_same, ?_, s8 _ _ kW, places_mono pW fun _ _ z => same_T s8 z⟩
        exact pair_app (places_mono pF4 fun _ _ z => same_T s8 z) (places_mono pW fun _ _ z => same_T s8 z)
    · rintro σ G ⟨F, L, fs, ls, u4, u5, u6, rfl, sG, nF, kF, pF, kL, pL⟩
      exact ⟨_, rfl, q F fs G nF sG kF pF⟩
end
end K7
namespace K7
open PySem PySem.Spec L2 Ld PyProof.Rows
abbrev sOther : Stmt := top 37
def F5 (r : Rl) : Prop := r.pl.length ≤ 2 ∧ ∀ z ∈ r.pl, z ∈ menu5
theorem m45 : ∀ z ∈ menu4, z ∈ menu5 := by decide +kernel
theorem M4_F5 {r : Rl} (h : r.M4) : F5 r := ⟨h.2, fun z hz => m45 z (h.1 z hz)⟩
/-- two ways come together: I holds at the end of each -/
theorem seq_join {t u : TS} {D : Ends} {σ : L2.St} {H : Hp} (I : L2.St → Hp → Prop) (rest : ∀ σ G, I σ G → u D σ G) (main : ∀ R : L2.St → Hp → Prop, (∀ σ G, I σ G → R σ G) → t { D with nx := R } σ H) : tSeq t u D σ H := main _ rest
theorem cutL (xs : List V) (k : Nat) : cutV xs none (some (k : Int)) = xs.take k := by
  unfold cutV
  rw [HT.sIx_none, HT.sIx_nat, List.drop_zero, Nat.sub_zero]
  by_cases h : k ≤ xs.length
  · rw [Nat.min_eq_left h]
  · rw [Nat.min_eq_right (by omega), List.take_of_length_le (Nat.le_refl _), List.take_of_length_le (by omega)]
theorem cutR (xs : List V) (k : Nat) : cutV xs (some (k : Int)) none = xs.drop k := by
  unfold cutV
  rw [HT.sIx_none, HT.sIx_nat]
  by_cases h : k ≤ xs.length
  · rw [Nat.min_eq_left h, List.take_of_length_le (by simp)]
  · rw [Nat.min_eq_right (by omega), List.drop_of_length_le (Nat.le_refl _), List.drop_of_length_le (by omega)]
    simp
theorem paired_take {α β : Type} {F : α → β → Prop} : ∀ {xs : List α} {l : List β} (n : Nat), Paired F xs l → Paired F (xs.take n) (l.take n)
  | _, _, 0, _ => .nil
  | _, _, n + 1, .nil => .nil
  | _, _, n + 1, .cons a b => .cons a (paired_take n b)
theorem paired_drop {α β : Type} {F : α → β → Prop} : ∀ {xs : List α} {l : List β} (n : Nat), Paired F xs l → Paired F (xs.drop n) (l.drop n)
  | _, _, 0, z => z
  | _, _, n + 1, .nil => .nil
  | _, _, n + 1, .cons a b => paired_drop n b
theorem Good.sub {rs ts : List Rl} (h : Good rs) (s : ts.Sublist rs) : Good ts := ⟨fun r hr => h.ok r (s.subset hr), Nat.le_trans s.length_le h.few, (s.map Rl.key).nodup h.one⟩
theorem out_sub (rs : List Rl) (j : Nat) : (rs.take j ++ rs.drop (j + 1)).Sublist rs := by
  have h : (rs.take j ++ rs.drop (j + 1)).Sublist (rs.take j ++ rs.drop j) := (List.Sublist.refl _).append (by
    rw [← List.drop_drop]
    exact List.drop_sublist _ _)
  rw [List.take_append_drop] at h
  exact h
theorem split_at {α : Type} {l : List α} {j : Nat} {r : α} (h : l[j]? = some r) : l = l.take j ++ [r] ++ l.drop (j + 1) := by
  obtain ⟨hj, e⟩ := List.getElem?_eq_some_iff.mp h
  rw [← e, List.append_assoc, List.singleton_append, List.getElem_cons_drop, List.take_append_drop]
theorem Good.swap {rs : List Rl} {j : Nat} {r t : Rl} (g : Good rs) (h : rs[j]? = some r) (ok : t.Ok) (e : t.key = r.key) : Good (rs.take j ++ [t] ++ rs.drop (j + 1)) := by
  have sp := split_at h
  have hj := (List.getElem?_eq_some_iff.mp h).1
  refine ⟨fun x hx => ?_, ?_, ?_⟩
  · rcases List.mem_append.mp hx with q | q
    · rcases List.mem_append.mp q with q | q
      · exact g.ok x (List.mem_of_mem_take q)
      · rw [List.mem_singleton.mp q]
        exact ok
    · exact g.ok x (List.mem_of_mem_drop q)
  · have := g.few
    simp only [List.length_append, List.length_take, List.length_drop, List.length_singleton]
    omega
  · have k : (rs.take j ++ [t] ++ rs.drop (j + 1)).map Rl.key = rs.map Rl.key := by
      conv => rhs; rw [sp]
      rw [List.map_append, List.map_append, List.map_append, List.map_append, List.map_singleton, List.map_singleton, e]
    rw [k]
    exact g.one
theorem F5_swap {rs : List Rl} {j : Nat} {t : Rl} (h : ∀ r ∈ rs, F5 r) (ht : F5 t) : ∀ r ∈ rs.take j ++ [t] ++ rs.drop (j + 1), F5 r := fun x hx => by
  rcases List.mem_append.mp hx with q | q
  · rcases List.mem_append.mp q with q | q
    · exact h x (List.mem_of_mem_take q)
    · rw [List.mem_singleton.mp q]
      exact ht
  · exact h x (List.mem_of_mem_drop q)
theorem len_swap {rs : List Rl} {j : Nat} {t : Rl} (h : j < rs.length) : (rs.take j ++ [t] ++ rs.drop (j + 1)).length = rs.length := by
  simp only [List.length_append, List.length_take, List.length_drop, List.length_singleton]
  omega
theorem to_ne : ("gone" : Str) ≠ "to" ∧ (∀ b, ownS b ≠ ("to" : Str)) := by
  refine ⟨by decide +kernel, fun b => ?_⟩
  cases b <;> decide +kernel
theorem wd3 : ∀ z ∈ ([V.str "a", V.str "b", V.str "zz"] : List V), ∃ w, z = V.str w ∧ w ∈ menu5 ∧ Wd w := by
  intro z hz
  simp only [List.mem_cons, List.not_mem_nil, or_false] at hz
  rcases hz with rfl | rfl | rfl
  · exact ⟨_, rfl, by decide +kernel, by unfold Wd; decide +kernel⟩
  · exact ⟨_, rfl, by decide +kernel, by unfold Wd; decide +kernel⟩
  · exact ⟨_, rfl, by decide +kernel, by unfold Wd; decide +kernel⟩
theorem others_all {b : Bool} {ws : List Str} {rs : List Rl} (h : ∀ t ∈ rs, sameK b ws t = false) : others b ws rs = rs := List.filter_eq_self.mpr fun t ht => by rw [h t ht]; rfl
theorem op_eqDK {X : Cx} {K : PySem.W.Frag} (hu : X.A.units + 64 < cLine) (hK : X.K = K := by rfl) : OpR X (compareOp .Eq) (rEqD K) := by
  subst hK
  exact op_eqD hu
section
variable {P : Program} {w : World} {K : PySem.W.Frag} {mg : Str → Option Value} {base : Heap} {f : Addr} {fd : FuncData}
def spOther (K : PySem.W.Frag) : Sp := fun vs H Q _ => ∃ (wa rl : Addr) (xs : List V) (rs : List Rl), vs = [.ref wa, .ref rl] ∧ Well H wa ∧ H rl = some (.lst xs) ∧ Rules K H xs rs ∧ Good rs ∧ (∀ r ∈ rs, F5 r) ∧ rs.length ≤ 6 ∧
  ∀ D ys ts H', H' D = some (.lst ys) → Rules K H' ys ts → Good ts → (∀ r ∈ ts, F5 r) → ts.length ≤ 7 → Well H' wa → Sb wa H H' → Q (.ref D) H'
def othN : List Str := ["_law_well_here", "_law_rules_here", "_law_way", "_law_kept", "_law_rule_here", "_law_at", "_law_sort", "_law_place", "_law_answer", "_law_word", "_law_same", "_law_one"]
theorem scOther : FnScope othN ["_law_well_here", "_law_rules_here"] (defScope sOther) := ⟨rfl, rfl, rfl, by decide +kernel, rfl, by decide +kernel, by decide +kernel⟩
def tOthA (K : PySem.W.Frag) : TE := fun σ H Q => ∃ (L : Addr) (xs : List V) (rs : List Rl) (v : V) (r : Rl) (u0 u1 u2 u5 u6 u7 u8 u9 u10 : Option V), σ = [u0, u1, u2, some (.ref L), some v, u5, u6, u7, u8, u9, u10, none] ∧ H L = some (.lst xs) ∧ Rules K H xs rs ∧ Good rs ∧ RuleAt K H v r ∧ r.Ok ∧ rs.length ≤ 6 ∧
  ∀ D ys H', Same H H' → H' D = some (.lst ys) → Rules K H' ys (others r.ex r.pl rs ++ [r]) → Q (.ref D) H'
theorem ok_other (Fd : Fun K "_law_other" "_law_other" sOther f fd) (T : Tx mg) (D : Df P w K mg base 1 "_law_draw" ["_law_well_here", "_law_many"] spDraw) (C : Df P w K mg base 2 "_law_choose" ["_law_well_here", "_law_things"] (spChoose K))
    (R : Df P w K mg base 4 "_law_rule" ["_law_well_here", "_law_most"] (spRuleOf K)) : FnOk P w K mg base CX0 5 f fd ["_law_well_here", "_law_rules_here"] (spOther K) := by
  refine Fd.ok scOther (fun vs H Q E h => ?_) (fun cdv A outer s H vs Q E hr h => ?_)
  · obtain ⟨wa, rl, xs, rs, rfl, _⟩ := h
    rfl
  · obtain ⟨wa, rl, xs, rs, rfl, hw, hl, hR, hG, h5, h6, q⟩ := h
    have nd := scOther.nd
    refine ⟨_, pss_cons (ps_set (i := 2) nd rfl (Or.inl rfl) (pe_df D hr (pa_cons (pv 0) (pa_cons pe_int pa_nil))))
      (pss_cons (ps_asg (pe_tup (pa_cons (pe_callTy call_list_of (by rfl) T.list (by decide +kernel) (pa_cons (pv 1) pa_nil)) (pa_cons (pe_df R hr (pa_cons (pv 0) (pa_cons pe_int pa_nil))) pa_nil))) (pg_tup rfl (pgs_cons (pg_name (i := 3) nd rfl (Or.inl rfl)) (pgs_cons (pg_name (i := 4) nd rfl (Or.inr rfl)) pgs_nil))))
      (pss_cons (ps_if (PW.pt (pw_or (pt_cmpR op_lt (pv 2) pe_int (nomark _)) (pw_or1 (pt_cmpR (op_eq0 hr.units) (pv 3) (pe_lst pa_nil) (nomark _)))))
        (pss_one (ps_ret (PE.conv (t := tOthA K) (pe_op op_cat (pe_lc (own := [("_law_one", 11)]) (g := gName 11) (by rfl) nd (pi_list (pv 3)) (blkOk_by (own := [("_law_one", 11)]) (N := othN) (sc := defScope sOther) (by decide +kernel)) (fun _ _ _ _ _ => pg_name (i := 11) nd rfl (Or.inl rfl))
            (fun _ _ _ _ _ => pts_one (pt_cmpR (op_neDK (K := K) hr.units) (pe_tup (pa_cons (pe_ix (r := rIxT K) ix_tupK (pv 11) pe_int (fun _ _ => rfl)) (pa_cons (pe_ix (r := rIxT K) ix_tupK (pv 11) pe_int (fun _ _ => rfl)) pa_nil))) (pe_tup (pa_cons (pe_ix (r := rIxT K) ix_tupK (pv 4) pe_int (fun _ _ => rfl)) (pa_cons (pe_ix (r := rIxT K) ix_tupK (pv 4) pe_int (fun _ _ => rfl)) pa_nil))) (nomark _))) (fun _ _ _ _ _ => pv 11)) (pe_lst (pa_cons (pv 4) pa_nil))) ?cA))) pss_nil)
      (pss_cons (ps_set (i := 5) nd rfl (Or.inl rfl) (pe_df D hr (pa_cons (pv 0) (pa_cons (pe_callB call_len_seq (by rfl) T.len PySem.boot_len (pa_cons (pv 3) pa_nil)) pa_nil))))
      (pss_cons (ps_if (pt_cmpR op_eq (pv 2) pe_int (nomark _)) (pss_one (ps_ret (pe_op op_cat (pe_slice sl_list (pv 3) po_none (po_some (pv 5))) (pe_slice sl_list (pv 3) (po_some (pe_op op_add (pv 5) pe_int)) po_none)))) pss_nil)
      (pss_cons (ps_asg (pe_ix ix_list (pv 3) (pv 5) (fun _ _ => rfl)) (pg_tup rfl (pgs_cons (pg_name (i := 6) nd rfl (Or.inl rfl)) (pgs_cons (pg_name (i := 7) nd rfl (Or.inl rfl)) (pgs_cons (pg_name (i := 8) nd rfl (Or.inl rfl)) pgs_nil)))))
      (pss_cons (ps_if (PW.pt (pw_and (pt_cmpR op_eq (pv 2) pe_int (nomark _)) (pw_and (pt_cmpR op_eq (pe_ix ix_tup (pv 8) pe_int (fun _ _ => rfl)) pe_str (nomark _)) (pw_and (pt_cmpR op_eq (pv 6) pe_str (nomark _)) (pw_and1 (pt_cmpR op_eq (pe_callB call_len_seq (by rfl) T.len PySem.boot_len (pa_cons (pv 7) pa_nil)) pe_int (nomark _)))))))
        (pss_cons (ps_set (i := 9) nd rfl (Or.inl rfl) (pe_df C hr (pa_cons (pv 0) (pa_cons (pe_lst (pa_cons pe_str (pa_cons pe_str (pa_cons pe_str pa_nil)))) pa_nil))))
        (pss_cons (ps_set (i := 10) nd rfl (Or.inr rfl) (pe_tup (pa_cons pe_str (pa_cons (pe_op op_catW (pv 7) (pe_tup (pa_cons (pv 9) pa_nil))) (pa_cons (pe_tup (pa_cons pe_str (pa_cons (pe_op op_catW (pe_ix ix_tup (pv 8) pe_int (fun _ _ => rfl)) (pe_tup (pa_cons (pv 9) pa_nil))) (pa_cons (pe_ix ix_tup (pv 8) pe_int (fun _ _ => rfl)) pa_nil)))) pa_nil)))))
        (pss_one (ps_if (PW.pt (pw_and (pt_cmpR op_lt (pe_callB call_len_seq (by rfl) T.len PySem.boot_len (pa_cons (pe_ix ix_tup (pv 8) pe_int (fun _ _ => rfl)) pa_nil)) pe_int (nomark _))
            (pw_and1 (pt_cmpR (op_eq0 hr.units) (pe_lc (own := [("_law_one", 11)]) (g := gName 11) (by rfl) nd (pi_list (pv 3)) (blkOk_by (own := [("_law_one", 11)]) (N := othN) (sc := defScope sOther) (by decide +kernel)) (fun _ _ _ _ _ => pg_name (i := 11) nd rfl (Or.inl rfl))
              (fun _ _ _ _ _ => pts_one (pt_cmpR (op_eqDK (K := K) hr.units) (pe_slice (r := rSlW K) sl_tupK (pv 11) po_none (po_some pe_int)) (pe_slice (r := rSlW K) sl_tupK (pv 10) po_none (po_some pe_int)) (nomark _))) (fun _ _ _ _ _ => pv 11)) (pe_lst pa_nil) (nomark _)))))
          (pss_one (ps_ret (pe_op op_cat (pv 3) (pe_lst (pa_cons (pv 10) pa_nil))))) pss_nil)))) pss_nil)
      (pss_cons (ps_if (pt_cmpR op_eq (pe_ix ix_tup (pv 8) pe_int (fun _ _ => rfl)) pe_str (nomark _))
        (pss_one (ps_ret (pe_op op_cat (pe_op op_cat (pe_slice sl_list (pv 3) po_none (po_some (pv 5))) (pe_lst (pa_cons (pe_tup (pa_cons (pv 6) (pa_cons (pv 7) (pa_cons (pe_tup (pa_cons pe_str (pa_cons (pe_ix ix_tup (pv 8) pe_int (fun _ _ => rfl)) (pa_cons (pe_ifExp (pt_cmpR op_lt (pe_ix ix_tup (pv 8) pe_int (fun _ _ => rfl)) pe_int (nomark _)) (pe_op op_add (pe_ix ix_tup (pv 8) pe_int (fun _ _ => rfl)) pe_int) pe_int) pa_nil)))) pa_nil)))) pa_nil)))
            (pe_slice sl_list (pv 3) (po_some (pe_op op_add (pv 5) pe_int)) po_none)))) pss_nil)
      (pss_one (ps_ret (pe_op op_cat (pe_op op_cat (pe_slice sl_list (pv 3) po_none (po_some (pv 5))) (pe_lst (pa_cons (pe_tup (pa_cons (pv 6) (pa_cons (pv 7) (pa_cons (pe_tup (pa_cons pe_str pa_nil)) pa_nil)))) pa_nil))) (pe_slice sl_list (pv 3) (po_some (pe_op op_add (pv 5) pe_int)) po_none))))))))))), ?_⟩
    case cA =>
      rintro σ G Q2 ⟨L, xs, rs, v, r, u0, u1, u2, u5, u6, u7, u8, u9, u10, rfl, hL, hR, hG, rv, rok, h6, q2⟩
      refine ⟨_, rfl, L, rfl, ⟨_, .of hL⟩, fun D hD => ?_⟩
      refine lc_list (K := K) (a := L) (xs := xs) (fun i G1 => Same G G1 ∧ ∃ ys, G1 D = some (.lst ys) ∧ Rules K G1 ys (others r.ex r.pl (rs.take i)) ∧ ys.length ≤ i) ⟨Same.new hD, [], upd_same, by rw [List.take_zero]; exact .nil, Nat.zero_le _⟩ (fun i G1 _ z => .of (z.1 _ _ hL)) ?_ ?_
      · rintro i x G1 hx ⟨sG, ys, hk, hy, hn⟩
        obtain ⟨t, e1, tv⟩ := hR.get hx
        have hi : i < rs.length := (List.getElem?_eq_some_iff.mp e1).1
        have htok := hG.ok t (List.mem_of_getElem? e1)
        obtain ⟨ta, tp, ty, rfl, t1, t2, t3⟩ := tv.same sG
        obtain ⟨ra, rp, ry, rfl, r1, r2, r3⟩ := rv.same sG
        refine ⟨rfl, ?_⟩
        refine ⟨_, rfl, ta, _, _, _, rfl, rfl, t1, at0, _, rfl, ta, _, _, _, rfl, rfl, t1, at1, (show 2 ≤ sizeLine by decide), fun p1 hp1 => ?_⟩
        have s1 := Same.new (o := .tup [.str (sortS t.ex), .ref tp]) hp1
        have k1 := upd_same (H := G1) (a := p1) (o := .tup [.str (sortS t.ex), .ref tp])
        refine ⟨_, rfl, ra, _, _, _, rfl, rfl, same_T s1 r1, at0, _, rfl, ra, _, _, _, rfl, rfl, same_T s1 r1, at1, (show 2 ≤ sizeLine by decide), fun p2 hp2 => ?_⟩
        have s2 := Same.new (o := .tup [.str (sortS r.ex), .ref rp]) hp2
        have s12 := s1.trans s2
        refine ⟨headD t.ex t.pl, headD r.ex r.pl, head_dp (.of (s2 _ _ k1)) (same_T s12 t2), head_dp (.of upd_same) (same_T s12 r2), shaped_head _ htok.wds, shaped_head _ rok.wds, _, rfl, ?_⟩
        rw [eqv_head]
        have tv2 : RuleAt K _ (.ref ta) t := (tv.same sG).same s12
        have hk2 := s12 _ _ hk
        have hy2 := hy.same s12
        have sG2 := sG.trans s12
        generalize upd (upd G1 p1 (.tup [.str (sortS t.ex), .ref tp])) p2 (.tup [.str (sortS r.ex), .ref rp]) = G3 at tv2 hk2 hy2 sG2 ⊢
        have tk : rs.take (i + 1) = rs.take i ++ [t] := by rw [List.take_add_one, e1]; rfl
        show if (!sameK r.ex r.pl t) = true then _ else _
        cases es : sameK r.ex r.pl t with
        | true =>
          refine iteF ⟨sG2, ys, hk2, ?_, by omega⟩
          rw [tk, others_snoc, es, if_pos rfl, List.append_nil]
          exact hy2
        | false =>
          have fr : ∀ c o, c ≠ D → G3 c = some o → (upd G3 D (.lst (ys ++ [.ref ta]))) c = some o := fun c o n z => (upd_ne n).trans z
          refine iteT ⟨_, rfl, ys, hk2, Nat.lt_of_le_of_lt (show ys.length ≤ 40 by omega) (by decide), fun c o z => fr c o (ne_of_none z hD) (sG2 c o z), ys ++ [.ref ta], upd_same, ?_, by simp; omega⟩
          rw [tk, others_snoc, es, if_neg (by decide)]
          exact (Rules.at hy2 hk2 fr).snoc (tv2.mono fun _ _ q => sqT_off hk2 fr q)
      · rintro G1 ⟨sG, ys, hk, hy, hn⟩
        have lr := hR.length
        rw [List.take_of_length_le (by omega)] at hy
        refine ⟨_, rfl, (show 1 ≤ sizeLine by decide), fun L2 hL2 => ?_⟩
        have s1 := Same.new (o := .lst [v]) hL2
        refine ⟨D, L2, ys, [v], rfl, rfl, s1 _ _ hk, upd_same, Nat.le_trans (show ys.length + 1 ≤ 40 by omega) (by decide), fun D2 hD2 => ?_⟩
        have s2 := s1.trans (Same.new (o := .lst (ys ++ [v])) hD2)
        exact q2 D2 _ _ (sG.trans s2) upd_same (pair_app (hy.same s2) (.cons ((rv.same sG).same s2) .nil))
    refine ⟨_, rfl, wa, 5, rfl, hw, by decide, by decide, fun k G1 k0 k1 W1 s1 => ?_⟩
    have hl1 := s1 rl _ (hw.lst hl) hl
    have hR1 : Rules K G1 xs rs := hR.mono fun _ _ q => seqT hw s1 q
    refine ⟨_, rfl, rl, xs, rfl, .inl (.of hl1), fun L hL => ?_⟩
    have s2 := Same.new (o := .lst xs) hL
    have kL := upd_same (H := G1) (a := L) (o := .lst xs)
    have hR2 := hR1.same s2
    have W2 := W1.same s2
    have s02 := s1.trans (.of s2)
    generalize upd G1 L (.lst xs) = G2 at s2 kL hR2 W2 s02 ⊢
    refine ⟨_, rfl, wa, 2, rfl, by decide, W2, fun v r G3 rv rok rM W3 s3 => ⟨(show 2 ≤ sizeLine by decide), fun tt htt => ?_⟩⟩
    have s4 := Same.new (o := .tup [.ref L, v]) htt
    have kL4 := s4 _ _ (s3 L _ (W2.lst kL) kL)
    have hR4 := (hR2.mono fun _ _ q => seqT W2 s3 q).same s4
    have rv4 := rv.same s4
    have W4 := W3.same s4
    have s04 := s02.trans (s3.trans (.of s4))
    have kt := upd_same (H := G3) (a := tt) (o := .tup [.ref L, v])
    generalize upd G3 tt (.tup [.ref L, v]) = G4 at s4 kL4 hR4 rv4 W4 s04 kt ⊢
    refine ⟨tt, _, rfl, .of kt, rfl, _, _, rfl, _, _, rfl, rfl, ?_⟩
    have F0 := fun (x : Rl) (hx : x ∈ others r.ex r.pl rs) => h5 x (List.mem_filter.mp hx).1
    have few0 : (others r.ex r.pl rs).length ≤ 6 := Nat.le_trans (List.length_filter_le _ _) h6
    have retA : ∀ G5, Same G4 G5 → tOthA K [some (.ref wa), some (.ref rl), some (.int k), some (.ref L), some v, none, none, none, none, none, none, none] G5 Q := fun G5 s5 =>
      ⟨L, xs, rs, v, r, _, _, _, _, _, _, _, _, _, rfl, s5 _ _ kL4, hR4.same s5, hG, rv4.same s5, rok, h6, fun D ys G6 s6 hD hy => q D ys _ G6 hD hy (hG.more rok (by omega)) (fun x hx => by
        rcases List.mem_append.mp hx with z | z
        · exact F0 x z
        · rw [List.mem_singleton.mp z]
          exact M4_F5 rM) (by rw [List.length_append, List.length_singleton]; omega) (W4.same (s5.trans s6)) (s04.trans (.of (s5.trans s6)))⟩
    refine ⟨_, rfl, k, 2, rfl, rfl, _, rfl, ?_⟩
    by_cases hk2 : k < 2
    · rw [decide_eq_true hk2]
      exact iteT (iteT (retA G4 (Same.refl _)))
    rw [decide_eq_false hk2]
    refine iteF ⟨_, rfl, (show 0 ≤ sizeLine by decide), fun e he => ?_⟩
    have s5 := Same.new (o := .lst []) he
    have ke := upd_same (H := G4) (a := e) (o := .lst [])
    have kL5 := s5 _ _ kL4
    have hR5 := hR4.same s5
    have W5 := W4.same s5
    have s05 := s04.trans (.of s5)
    refine ⟨L, e, xs, rfl, rfl, kL5, ke, _, rfl, ?_⟩
    have lx := hR5.length
    cases exs : xs.isEmpty with
    | true => exact iteT (retA _ s5)
    | false =>
      have hx0 : 0 < xs.length := by
        cases xs with
        | nil => cases exs
        | cons x xs => simp
      refine iteF ?_
      clear retA hR4 kL4 s5 s4 ke
      generalize upd G4 e (.lst []) = G5 at kL5 hR5 W5 s05 ⊢
      refine ⟨_, rfl, _, rfl, L, xs, rfl, .inl (.of kL5), wa, (xs.length : Int), rfl, W5, by omega, by omega, fun j G6 j0 j1 W6 s6 => ?_⟩
      obtain ⟨jn, rfl⟩ : ∃ n : Nat, j = n := ⟨j.toNat, by omega⟩
      have hj : jn < rs.length := by omega
      have kL6 := s6 L _ (W5.lst kL5) kL5
      have hR6 : Rules K G6 xs rs := hR5.mono fun _ _ q => seqT W5 s6 q
      have s06 := s05.trans s6
      obtain ⟨r0, hr0⟩ : ∃ r0, rs[jn]? = some r0 := ⟨_, List.getElem?_eq_getElem hj⟩
      obtain ⟨x0, hx0'⟩ : ∃ x0, xs[jn]? = some x0 := ⟨_, List.getElem?_eq_getElem (by omega)⟩
      have rv0 : RuleAt K G6 x0 r0 := by
        obtain ⟨t, e1, e2⟩ := hR6.get hx0'
        rw [hr0] at e1
        cases e1
        exact e2
      have rok0 := hG.ok r0 (List.mem_of_getElem? hr0)
      have f50 := h5 r0 (List.mem_of_getElem? hr0)
      refine ⟨_, rfl, rfl, _, rfl, ?_⟩
      refine ite2 (fun _ => ?_) (fun _ => ?_)
      · refine ⟨_, rfl, _, rfl, _, rfl, L, xs, rfl, .of kL6, fun p1 hp1 => ?_⟩
        have s7 := Same.new (o := .lst (cutV xs none (some (jn : Int)))) hp1
        refine ⟨_, rfl, _, rfl, _, _, rfl, rfl, _, rfl, L, xs, rfl, .of (s7 _ _ kL6), fun p2 hp2 => ?_⟩
        have s8 := s7.trans (Same.new (o := .lst (cutV xs (some ((jn : Int) + 1)) none)) hp2)
        refine ⟨p1, p2, _, _, rfl, rfl, (Same.new (o := .lst (cutV xs (some ((jn : Int) + 1)) none)) hp2) _ _ upd_same, upd_same, ?_, fun D hD => ?_⟩
        · rw [cutL, show ((jn : Int) + 1) = ((jn + 1 : Nat) : Int) from rfl, cutR, List.length_take, List.length_drop]
          exact Nat.le_trans (show min jn xs.length + (xs.length - (jn + 1)) ≤ 20 by omega) (by decide)
        · have s9 := s8.trans (Same.new (o := .lst (cutV xs none (some (jn : Int)) ++ cutV xs (some ((jn : Int) + 1)) none)) hD)
          refine q D _ (rs.take jn ++ rs.drop (jn + 1)) _ upd_same ?_ (hG.sub (out_sub rs jn)) (fun x hx => h5 x ((out_sub rs jn).subset hx)) (Nat.le_trans (out_sub rs jn).length_le (by omega)) (W6.same s9) (s06.trans (.of s9))
          rw [cutL, show ((jn : Int) + 1) = ((jn + 1 : Nat) : Int) from rfl, cutR] at *
          exact pair_app (paired_take jn (hR6.same s9)) (paired_drop (jn + 1) (hR6.same s9))
      · obtain ⟨ra, rp, ry, rfl, t1, t2, t3⟩ := id rv0
        refine ⟨_, rfl, _, rfl, L, xs, _, _, rfl, rfl, .of kL6, atI_nat hx0', ra, _, rfl, t1, rfl, _, _, rfl, _, _, rfl, _, _, rfl, rfl, ?_⟩
        dsimp only
        refine seq_join (fun σ G => ∃ u9 u10, σ = [some (.ref wa), some (.ref rl), some (.int k), some (.ref L), some v, some (.int (jn : Int)), some (.str (sortS r0.ex)), some (.ref rp), some ry, u9, u10, none] ∧ Well G wa ∧ Sb wa H G ∧ G L = some (.lst xs) ∧ Rules K G xs rs ∧ SqT K G rp (r0.pl.map V.str) ∧ AnAt K G ry r0.ex r0.an) ?_ ?_
        · rintro σ G ⟨u9, u10, rfl, WG, sG, kG, hRG, tp, ta⟩
          cases ea : r0.an with
          | gone =>
            rw [ea] at ta
            obtain ⟨ya, rfl, a1⟩ := ta
            refine ⟨_, rfl, ya, _, _, _, rfl, rfl, a1, at0, rfl, _, rfl, ?_⟩
            rw [decide_eq_false (fun e => to_ne.1 (V.str.inj e))]
            refine iteF ?_
            refine ⟨_, rfl, _, rfl, _, rfl, L, xs, rfl, .of kG, fun p1 hp1 => ?_⟩
            have s1 := Same.new (o := .lst (cutV xs none (some (jn : Int)))) hp1
            have k1 := upd_same (H := G) (a := p1) (o := .lst (cutV xs none (some (jn : Int))))
            have kG1 := s1 _ _ kG
            generalize upd G p1 (.lst (cutV xs none (some (jn : Int)))) = G1 at s1 k1 kG1 ⊢
            refine ⟨_, rfl, _, rfl, (show 1 ≤ sizeLine by decide), fun g1 hg1 => ⟨(show 3 ≤ sizeLine by decide), fun nt hnt => ?_⟩⟩
            have sg := Same.new (o := .tup [.str "gone"]) hg1
            have sn := Same.new (o := .tup [.str (sortS r0.ex), .ref rp, .ref g1]) hnt
            have s2 := sg.trans sn
            have nok : Rl.Ok ⟨r0.ex, r0.pl, .gone⟩ := ⟨rok0.len, rok0.wds, True.intro⟩
            have nv : RuleAt K (upd (upd G1 g1 (.tup [.str "gone"])) nt (.tup [.str (sortS r0.ex), .ref rp, .ref g1])) (.ref nt) ⟨r0.ex, r0.pl, .gone⟩ := ⟨nt, rp, .ref g1, rfl, .of upd_same, same_T (s1.trans s2) tp, g1, rfl, .of (sn _ _ upd_same)⟩
            have s12 := s1.trans s2
            have k2 := s2 _ _ k1
            have kG2 := s2 _ _ kG1
            generalize upd (upd G1 g1 (.tup [.str "gone"])) nt (.tup [.str (sortS r0.ex), .ref rp, .ref g1]) = G2 at s2 nv s12 k2 kG2 ⊢
            refine ⟨(show 1 ≤ sizeLine by decide), fun l1 hl1 => ?_⟩
            have s3 := Same.new (o := .lst [.ref nt]) hl1
            refine ⟨p1, l1, _, _, rfl, rfl, s3 _ _ k2, upd_same, ?_, fun c1 hc1 => ?_⟩
            · rw [cutL, List.length_take, List.length_singleton]
              exact Nat.le_trans (show min jn xs.length + 1 ≤ 20 by omega) (by decide)
            have s4 := s3.trans (Same.new (o := .lst (cutV xs none (some (jn : Int)) ++ [.ref nt])) hc1)
            have k4 := upd_same (H := upd G2 l1 (.lst [.ref nt])) (a := c1) (o := .lst (cutV xs none (some (jn : Int)) ++ [.ref nt]))
            have kG4 := s4 _ _ kG2
            generalize upd (upd G2 l1 (.lst [.ref nt])) c1 (.lst (cutV xs none (some (jn : Int)) ++ [.ref nt])) = G4 at s4 k4 kG4 ⊢
            refine ⟨_, rfl, _, rfl, _, _, rfl, rfl, _, rfl, L, xs, rfl, .of kG4, fun p2 hp2 => ?_⟩
            have s5 := Same.new (o := .lst (cutV xs (some ((jn : Int) + 1)) none)) hp2
            refine ⟨c1, p2, _, _, rfl, rfl, s5 _ _ k4, upd_same, ?_, fun D hD => ?_⟩
            · rw [cutL, show ((jn : Int) + 1) = ((jn + 1 : Nat) : Int) from rfl, cutR, List.length_append, List.length_take, List.length_drop, List.length_singleton]
              exact Nat.le_trans (show min jn xs.length + 1 + (xs.length - (jn + 1)) ≤ 20 by omega) (by decide)
            have s6 := s5.trans (Same.new (o := .lst (cutV xs none (some (jn : Int)) ++ [.ref nt] ++ cutV xs (some ((jn : Int) + 1)) none)) hD)
            have sf := s12.trans (s4.trans s6)
            refine q D _ (rs.take jn ++ [(⟨r0.ex, r0.pl, .gone⟩ : Rl)] ++ rs.drop (jn + 1)) _ upd_same ?_ (hG.swap hr0 nok rfl) (F5_swap h5 f50) (by rw [len_swap hj]; omega) (WG.same sf) (sG.trans (.of sf))
            rw [cutL, show ((jn : Int) + 1) = ((jn + 1 : Nat) : Int) from rfl, cutR] at *
            have nv6 : RuleAt K _ (.ref nt) (⟨r0.ex, r0.pl, .gone⟩ : Rl) := nv.same (s4.trans s6)
            exact pair_app (pair_app (paired_take jn (hRG.same sf)) (.cons nv6 .nil)) (paired_drop (jn + 1) (hRG.same sf))
          | own z =>
            rw [ea] at ta
            obtain ⟨ya, rfl, a1⟩ := ta
            refine ⟨_, rfl, ya, _, _, _, rfl, rfl, a1, at0, rfl, _, rfl, ?_⟩
            rw [decide_eq_false (fun e => to_ne.2 _ (V.str.inj e))]
            refine iteF ?_
            refine ⟨_, rfl, _, rfl, _, rfl, L, xs, rfl, .of kG, fun p1 hp1 => ?_⟩
            have s1 := Same.new (o := .lst (cutV xs none (some (jn : Int)))) hp1
            have k1 := upd_same (H := G) (a := p1) (o := .lst (cutV xs none (some (jn : Int))))
            have kG1 := s1 _ _ kG
            generalize upd G p1 (.lst (cutV xs none (some (jn : Int)))) = G1 at s1 k1 kG1 ⊢
            refine ⟨_, rfl, _, rfl, (show 1 ≤ sizeLine by decide), fun g1 hg1 => ⟨(show 3 ≤ sizeLine by decide), fun nt hnt => ?_⟩⟩
            have sg := Same.new (o := .tup [.str "gone"]) hg1
            have sn := Same.new (o := .tup [.str (sortS r0.ex), .ref rp, .ref g1]) hnt
            have s2 := sg.trans sn
            have nok : Rl.Ok ⟨r0.ex, r0.pl, .gone⟩ := ⟨rok0.len, rok0.wds, True.intro⟩
            have nv : RuleAt K (upd (upd G1 g1 (.tup [.str "gone"])) nt (.tup [.str (sortS r0.ex), .ref rp, .ref g1])) (.ref nt) ⟨r0.ex, r0.pl, .gone⟩ := ⟨nt, rp, .ref g1, rfl, .of upd_same, same_T (s1.trans s2) tp, g1, rfl, .of (sn _ _ upd_same)⟩
            have s12 := s1.trans s2
            have k2 := s2 _ _ k1
            have kG2 := s2 _ _ kG1
            generalize upd (upd G1 g1 (.tup [.str "gone"])) nt (.tup [.str (sortS r0.ex), .ref rp, .ref g1]) = G2 at s2 nv s12 k2 kG2 ⊢
            refine ⟨(show 1 ≤ sizeLine by decide), fun l1 hl1 => ?_⟩
            have s3 := Same.new (o := .lst [.ref nt]) hl1
            refine ⟨p1, l1, _, _, rfl, rfl, s3 _ _ k2, upd_same, ?_, fun c1 hc1 => ?_⟩
            · rw [cutL, List.length_take, List.length_singleton]
              exact Nat.le_trans (show min jn xs.length + 1 ≤ 20 by omega) (by decide)
            have s4 := s3.trans (Same.new (o := .lst (cutV xs none (some (jn : Int)) ++ [.ref nt])) hc1)
            have k4 := upd_same (H := upd G2 l1 (.lst [.ref nt])) (a := c1) (o := .lst (cutV xs none (some (jn : Int)) ++ [.ref nt]))
            have kG4 := s4 _ _ kG2
            generalize upd (upd G2 l1 (.lst [.ref nt])) c1 (.lst (cutV xs none (some (jn : Int)) ++ [.ref nt])) = G4 at s4 k4 kG4 ⊢
            refine ⟨_, rfl, _, rfl, _, _, rfl, rfl, _, rfl, L, xs, rfl, .of kG4, fun p2 hp2 => ?_⟩
            have s5 := Same.new (o := .lst (cutV xs (some ((jn : Int) + 1)) none)) hp2
            refine ⟨c1, p2, _, _, rfl, rfl, s5 _ _ k4, upd_same, ?_, fun D hD => ?_⟩
            · rw [cutL, show ((jn : Int) + 1) = ((jn + 1 : Nat) : Int) from rfl, cutR, List.length_append, List.length_take, List.length_drop, List.length_singleton]
              exact Nat.le_trans (show min jn xs.length + 1 + (xs.length - (jn + 1)) ≤ 20 by omega) (by decide)
            have s6 := s5.trans (Same.new (o := .lst (cutV xs none (some (jn : Int)) ++ [.ref nt] ++ cutV xs (some ((jn : Int) + 1)) none)) hD)
            have sf := s12.trans (s4.trans s6)
            refine q D _ (rs.take jn ++ [(⟨r0.ex, r0.pl, .gone⟩ : Rl)] ++ rs.drop (jn + 1)) _ upd_same ?_ (hG.swap hr0 nok rfl) (F5_swap h5 f50) (by rw [len_swap hj]; omega) (WG.same sf) (sG.trans (.of sf))
            rw [cutL, show ((jn : Int) + 1) = ((jn + 1 : Nat) : Int) from rfl, cutR] at *
            have nv6 : RuleAt K _ (.ref nt) (⟨r0.ex, r0.pl, .gone⟩ : Rl) := nv.same (s4.trans s6)
            exact pair_app (pair_app (paired_take jn (hRG.same sf)) (.cons nv6 .nil)) (paired_drop (jn + 1) (hRG.same sf))
          | to tg n =>
            rw [ea] at ta
            obtain ⟨ya, yc, rfl, a1, a2⟩ := ta
            have ok0 : An.Ok (.to tg n) := by rw [← ea]; exact rok0.an
            refine ⟨_, rfl, ya, _, _, _, rfl, rfl, a1, at0, rfl, _, rfl, ?_⟩
            rw [decide_eq_true rfl]
            refine iteT ?_
            refine ⟨_, rfl, _, rfl, _, rfl, L, xs, rfl, .of kG, fun p1 hp1 => ?_⟩
            have s1 := Same.new (o := .lst (cutV xs none (some (jn : Int)))) hp1
            have k1 := upd_same (H := G) (a := p1) (o := .lst (cutV xs none (some (jn : Int))))
            have kG1 := s1 _ _ kG
            generalize upd G p1 (.lst (cutV xs none (some (jn : Int)))) = G1 at s1 k1 kG1 ⊢
            obtain ⟨_, _, on1, on2⟩ := id ok0
            refine ⟨_, rfl, _, rfl, _, rfl, ya, _, _, _, rfl, rfl, same_T s1 a1, at1, _, rfl, ya, _, _, _, rfl, rfl, same_T s1 a1, at2, _, _, rfl, rfl, _, rfl, ?_⟩
            by_cases hn : n < 10000
            · rw [decide_eq_true hn]
              refine iteT ⟨_, rfl, ya, _, _, _, rfl, rfl, same_T s1 a1, at2, _, _, rfl, rfl, (show 3 ≤ sizeLine by decide), fun g1 hg1 => ⟨(show 3 ≤ sizeLine by decide), fun nt hnt => ?_⟩⟩
              have sg := Same.new (o := .tup [.str "to", .ref yc, .int (n + 1)]) hg1
              have sn := Same.new (o := .tup [.str (sortS r0.ex), .ref rp, .ref g1]) hnt
              have s2 := sg.trans sn
              have nok : Rl.Ok ⟨r0.ex, r0.pl, .to tg (n + 1)⟩ := ⟨rok0.len, rok0.wds, ok0.1, ok0.2.1, by omega, by omega⟩
              have nv : RuleAt K (upd (upd G1 g1 (.tup [.str "to", .ref yc, .int (n + 1)])) nt (.tup [.str (sortS r0.ex), .ref rp, .ref g1])) (.ref nt) ⟨r0.ex, r0.pl, .to tg (n + 1)⟩ := ⟨nt, rp, .ref g1, rfl, .of upd_same, same_T (s1.trans s2) tp, g1, yc, rfl, .of (sn _ _ upd_same), same_T (s1.trans s2) a2⟩
              have s12 := s1.trans s2
              have k2 := s2 _ _ k1
              have kG2 := s2 _ _ kG1
              generalize upd (upd G1 g1 (.tup [.str "to", .ref yc, .int (n + 1)])) nt (.tup [.str (sortS r0.ex), .ref rp, .ref g1]) = G2 at s2 nv s12 k2 kG2 ⊢
              refine ⟨(show 1 ≤ sizeLine by decide), fun l1 hl1 => ?_⟩
              have s3 := Same.new (o := .lst [.ref nt]) hl1
              refine ⟨p1, l1, _, _, rfl, rfl, s3 _ _ k2, upd_same, ?_, fun c1 hc1 => ?_⟩
              · rw [cutL, List.length_take, List.length_singleton]
                exact Nat.le_trans (show min jn xs.length + 1 ≤ 20 by omega) (by decide)
              have s4 := s3.trans (Same.new (o := .lst (cutV xs none (some (jn : Int)) ++ [.ref nt])) hc1)
              have k4 := upd_same (H := upd G2 l1 (.lst [.ref nt])) (a := c1) (o := .lst (cutV xs none (some (jn : Int)) ++ [.ref nt]))
              have kG4 := s4 _ _ kG2
              generalize upd (upd G2 l1 (.lst [.ref nt])) c1 (.lst (cutV xs none (some (jn : Int)) ++ [.ref nt])) = G4 at s4 k4 kG4 ⊢
              refine ⟨_, rfl, _, rfl, _, _, rfl, rfl, _, rfl, L, xs, rfl, .of kG4, fun p2 hp2 => ?_⟩
              have s5 := Same.new (o := .lst (cutV xs (some ((jn : Int) + 1)) none)) hp2
              refine ⟨c1, p2, _, _, rfl, rfl, s5 _ _ k4, upd_same, ?_, fun D hD => ?_⟩
              · rw [cutL, show ((jn : Int) + 1) = ((jn + 1 : Nat) : Int) from rfl, cutR, List.length_append, List.length_take, List.length_drop, List.length_singleton]
                exact Nat.le_trans (show min jn xs.length + 1 + (xs.length - (jn + 1)) ≤ 20 by omega) (by decide)
              have s6 := s5.trans (Same.new (o := .lst (cutV xs none (some (jn : Int)) ++ [.ref nt] ++ cutV xs (some ((jn : Int) + 1)) none)) hD)
              have sf := s12.trans (s4.trans s6)
              refine q D _ (rs.take jn ++ [(⟨r0.ex, r0.pl, .to tg (n + 1)⟩ : Rl)] ++ rs.drop (jn + 1)) _ upd_same ?_ (hG.swap hr0 nok rfl) (F5_swap h5 f50) (by rw [len_swap hj]; omega) (WG.same sf) (sG.trans (.of sf))
              rw [cutL, show ((jn : Int) + 1) = ((jn + 1 : Nat) : Int) from rfl, cutR] at *
              have nv6 : RuleAt K _ (.ref nt) (⟨r0.ex, r0.pl, .to tg (n + 1)⟩ : Rl) := nv.same (s4.trans s6)
              exact pair_app (pair_app (paired_take jn (hRG.same sf)) (.cons nv6 .nil)) (paired_drop (jn + 1) (hRG.same sf))
            · rw [decide_eq_false hn]
              refine iteF ⟨(show 3 ≤ sizeLine by decide), fun g1 hg1 => ⟨(show 3 ≤ sizeLine by decide), fun nt hnt => ?_⟩⟩
              have sg := Same.new (o := .tup [.str "to", .ref yc, .int 0]) hg1
              have sn := Same.new (o := .tup [.str (sortS r0.ex), .ref rp, .ref g1]) hnt
              have s2 := sg.trans sn
              have nok : Rl.Ok ⟨r0.ex, r0.pl, .to tg 0⟩ := ⟨rok0.len, rok0.wds, ok0.1, ok0.2.1, by decide, by decide⟩
              have nv : RuleAt K (upd (upd G1 g1 (.tup [.str "to", .ref yc, .int 0])) nt (.tup [.str (sortS r0.ex), .ref rp, .ref g1])) (.ref nt) ⟨r0.ex, r0.pl, .to tg 0⟩ := ⟨nt, rp, .ref g1, rfl, .of upd_same, same_T (s1.trans s2) tp, g1, yc, rfl, .of (sn _ _ upd_same), same_T (s1.trans s2) a2⟩
              have s12 := s1.trans s2
              have k2 := s2 _ _ k1
              have kG2 := s2 _ _ kG1
              generalize upd (upd G1 g1 (.tup [.str "to", .ref yc, .int 0])) nt (.tup [.str (sortS r0.ex), .ref rp, .ref g1]) = G2 at s2 nv s12 k2 kG2 ⊢
              refine ⟨(show 1 ≤ sizeLine by decide), fun l1 hl1 => ?_⟩
              have s3 := Same.new (o := .lst [.ref nt]) hl1
              refine ⟨p1, l1, _, _, rfl, rfl, s3 _ _ k2, upd_same, ?_, fun c1 hc1 => ?_⟩
              · rw [cutL, List.length_take, List.length_singleton]
                exact Nat.le_trans (show min jn xs.length + 1 ≤ 20 by omega) (by decide)
              have s4 := s3.trans (Same.new (o := .lst (cutV xs none (some (jn : Int)) ++ [.ref nt])) hc1)
              have k4 := upd_same (H := upd G2 l1 (.lst [.ref nt])) (a := c1) (o := .lst (cutV xs none (some (jn : Int)) ++ [.ref nt]))
              have kG4 := s4 _ _ kG2
              generalize upd (upd G2 l1 (.lst [.ref nt])) c1 (.lst (cutV xs none (some (jn : Int)) ++ [.ref nt])) = G4 at s4 k4 kG4 ⊢
              refine ⟨_, rfl, _, rfl, _, _, rfl, rfl, _, rfl, L, xs, rfl, .of kG4, fun p2 hp2 => ?_⟩
              have s5 := Same.new (o := .lst (cutV xs (some ((jn : Int) + 1)) none)) hp2
              refine ⟨c1, p2, _, _, rfl, rfl, s5 _ _ k4, upd_same, ?_, fun D hD => ?_⟩
              · rw [cutL, show ((jn : Int) + 1) = ((jn + 1 : Nat) : Int) from rfl, cutR, List.length_append, List.length_take, List.length_drop, List.length_singleton]
                exact Nat.le_trans (show min jn xs.length + 1 + (xs.length - (jn + 1)) ≤ 20 by omega) (by decide)
              have s6 := s5.trans (Same.new (o := .lst (cutV xs none (some (jn : Int)) ++ [.ref nt] ++ cutV xs (some ((jn : Int) + 1)) none)) hD)
              have sf := s12.trans (s4.trans s6)
              refine q D _ (rs.take jn ++ [(⟨r0.ex, r0.pl, .to tg 0⟩ : Rl)] ++ rs.drop (jn + 1)) _ upd_same ?_ (hG.swap hr0 nok rfl) (F5_swap h5 f50) (by rw [len_swap hj]; omega) (WG.same sf) (sG.trans (.of sf))
              rw [cutL, show ((jn : Int) + 1) = ((jn + 1 : Nat) : Int) from rfl, cutR] at *
              have nv6 : RuleAt K _ (.ref nt) (⟨r0.ex, r0.pl, .to tg 0⟩ : Rl) := nv.same (s4.trans s6)
              exact pair_app (pair_app (paired_take jn (hRG.same sf)) (.cons nv6 .nil)) (paired_drop (jn + 1) (hRG.same sf))
        · intro R hR2
          have base : R [some (.ref wa), some (.ref rl), some (.int k), some (.ref L), some v, some (.int (jn : Int)), some (.str (sortS r0.ex)), some (.ref rp), some ry, none, none, none] G6 := hR2 _ _ ⟨_, _, rfl, W6, s06, kL6, hR6, t2, t3⟩
          refine ⟨_, rfl, rfl, _, rfl, ?_⟩
          refine ite2 (fun _ => ?_) (fun _ => iteF base)
          cases ea : r0.an with
          | gone =>
            rw [ea] at t3
            obtain ⟨ya, rfl, a1⟩ := t3
            refine ⟨_, rfl, ya, _, _, _, rfl, rfl, a1, at0, rfl, _, rfl, ?_⟩
            rw [decide_eq_false (fun e => to_ne.1 (V.str.inj e))]
            exact iteF base
          | own z =>
            rw [ea] at t3
            obtain ⟨ya, rfl, a1⟩ := t3
            refine ⟨_, rfl, ya, _, _, _, rfl, rfl, a1, at0, rfl, _, rfl, ?_⟩
            rw [decide_eq_false (fun e => to_ne.2 _ (V.str.inj e))]
            exact iteF base
          | to tg n =>
            rw [ea] at t3
            obtain ⟨ya, yc, rfl, a1, a2⟩ := id t3
            have ok0 : An.Ok (.to tg n) := by rw [← ea]; exact rok0.an
            refine ⟨_, rfl, ya, _, _, _, rfl, rfl, a1, at0, rfl, _, rfl, ?_⟩
            rw [decide_eq_true rfl]
            refine iteT ⟨_, rfl, rfl, _, rfl, ?_⟩
            cases eb : r0.ex with
            | true =>
              rw [show decide (V.str (sortS true) = V.str "open") = false from decide_eq_false fun e => absurd (V.str.inj e) (by decide +kernel)]
              rw [eb] at base
              exact iteF base
            | false =>
              rw [show decide (V.str (sortS false) = V.str "open") = true from decide_eq_true rfl]
              refine iteT ⟨_, rfl, rp, _, rfl, .inr t2, rfl, _, rfl, ?_⟩
              rw [eb] at base hR2 t3
              refine ite2 (fun hl1 => ?_) (fun _ => base)
              have hl1 : r0.pl.length = 1 := by
                have h := V.int.inj (of_decide_eq_true hl1)
                rw [List.length_map] at h
                omega
              refine ⟨_, rfl, (show 3 ≤ sizeLine by decide), fun wl hwl => ?_⟩
              have yl := Same.new (o := .lst [.str "a", .str "b", .str "zz"]) hwl
              refine ⟨wa, wl, _, rfl, W6.same yl, .of upd_same, by simp, (show 3 ≤ 1000 by decide), fun wv G7 hwv W7' s7 => ?_⟩
              obtain ⟨wd, rfl, wm, wW⟩ := wd3 wv hwv
              have s67 : Sb wa G6 G7 := (Sb.of yl).trans s7
              have kL7 := s67 L _ (W6.lst kL6) kL6
              have hR7 : Rules K G7 xs rs := hR6.mono fun _ _ q => seqT W6 s67 q
              have t27 := seqT W6 s67 t2
              have a17 := seqT W6 s67 a1
              have a27 := seqT W6 s67 a2
              have s07 := s06.trans s67
              clear s7 yl hwv
              refine ⟨_, rfl, _, rfl, (show 1 ≤ sizeLine by decide), fun w1 hw1 => ?_⟩
              have sw1 := Same.new (o := .tup [.str wd]) hw1
              refine ⟨rp, w1, _, _, rfl, rfl, same_T sw1 t27, .of upd_same, ?_, fun p2 G8 s8 h8 => ?_⟩
              · rw [List.length_map]
                exact Nat.le_trans (show r0.pl.length + 1 ≤ 2 by omega) (by decide)
              have s78 := sw1.trans s8
              refine ⟨_, rfl, ya, _, _, _, rfl, rfl, same_T s78 a17, at1, _, rfl, (show 1 ≤ sizeLine by decide), fun w2 hw2 => ?_⟩
              have sw2 := Same.new (o := .tup [.str wd]) hw2
              refine ⟨yc, w2, _, _, rfl, rfl, same_T (s78.trans sw2) a27, .of upd_same, ?_, fun p3 G9 s9 h9 => ?_⟩
              · rw [List.length_map]
                have := ok0.1
                exact Nat.le_trans (show tg.length + 1 ≤ 5 by omega) (by decide)
              have s79 := s78.trans (sw2.trans s9)
              refine ⟨_, rfl, ya, _, _, _, rfl, rfl, same_T s79 a17, at2, (show 3 ≤ sizeLine by decide), fun q1 hq1 => ⟨(show 3 ≤ sizeLine by decide), fun q2 hq2 => ?_⟩⟩
              have sq1 := Same.new (o := .tup [.str "to", .ref p3, .int n]) hq1
              have sq2 := Same.new (o := .tup [.str "open", .ref p2, .ref q1]) hq2
              have sq := sq1.trans sq2
              have e8 : (r0.pl.map V.str ++ [V.str wd]) = (r0.pl ++ [wd]).map V.str := by rw [List.map_append]; rfl
              have e9 : (tg.map V.str ++ [V.str wd]) = (tg ++ [wd]).map V.str := by rw [List.map_append]; rfl
              rw [e8] at h8
              rw [e9] at h9
              have nv : RuleAt K (upd (upd G9 q1 (.tup [.str "to", .ref p3, .int n])) q2 (.tup [.str "open", .ref p2, .ref q1])) (.ref q2) ⟨false, r0.pl ++ [wd], .to (tg ++ [wd]) n⟩ :=
                ⟨q2, p2, .ref q1, rfl, .of upd_same, same_T ((sw2.trans s9).trans sq) h8, q1, p3, rfl, .of (sq2 _ _ upd_same), same_T sq h9⟩
              have sA := s79.trans sq
              have kq := upd_same (H := upd G9 q1 (.tup [.str "to", .ref p3, .int n])) (a := q2) (o := .tup [.str "open", .ref p2, .ref q1])
              have hp2A : SqT K (upd (upd G9 q1 (.tup [.str "to", .ref p3, .int n])) q2 (.tup [.str "open", .ref p2, .ref q1])) p2 ((r0.pl ++ [wd]).map V.str) := same_T ((sw2.trans s9).trans sq) h8
              generalize upd (upd G9 q1 (.tup [.str "to", .ref p3, .int n])) q2 (.tup [.str "open", .ref p2, .ref q1]) = GA at nv sA kq hp2A ⊢
              have kLA := sA _ _ kL7
              have hRA := hR7.same sA
              have t2A := same_T sA t27
              have a1A := same_T sA a17
              have a2A := same_T sA a27
              have WA := W7'.same sA
              have s0A := s07.trans (.of sA)
              have toR : ∀ GB, Same GA GB → R [some (.ref wa), some (.ref rl), some (.int k), some (.ref L), some v, some (.int (jn : Int)), some (.str (sortS false)), some (.ref rp), some (.ref ya), some (.str wd), some (.ref q2), none] GB := fun GB sB =>
                hR2 _ _ ⟨_, _, rfl, WA.same sB, s0A.trans (.of sB), sB _ _ kLA, hRA.same sB, same_T sB t2A, by rw [ea]; exact ⟨ya, yc, rfl, same_T sB a1A, same_T sB a2A⟩⟩
              refine ⟨_, rfl, ya, _, _, _, rfl, rfl, a1A, at1, yc, _, rfl, .inr a2A, _, _, rfl, rfl, _, rfl, ?_⟩
              refine ite2 (fun h4 => ?_) (fun _ => toR GA (Same.refl _))
              have h4 : tg.length < 4 := by
                have h := of_decide_eq_true h4
                rw [List.length_map] at h
                omega
              have nok : Rl.Ok ⟨false, r0.pl ++ [wd], .to (tg ++ [wd]) n⟩ := by
                refine ⟨by simp; omega, fun z hz => ?_, by simp; omega, fun z hz => ?_, ok0.2.2.1, ok0.2.2.2⟩
                · rcases List.mem_append.mp hz with h | h
                  · exact rok0.wds z h
                  · rw [List.mem_singleton.mp h]
                    exact wW
                · rcases List.mem_append.mp hz with h | h
                  · exact ok0.2.1 z h
                  · rw [List.mem_singleton.mp h]
                    exact wW
              have nf5 : F5 ⟨false, r0.pl ++ [wd], .to (tg ++ [wd]) n⟩ := ⟨by simp; omega, fun z hz => by
                rcases List.mem_append.mp hz with h | h
                · exact f50.2 z h
                · rw [List.mem_singleton.mp h]
                  exact wm⟩
              refine ⟨_, rfl, L, rfl, ⟨_, .of kLA⟩, fun D1 hD1 => ?_⟩
              refine lc_list (K := K) (a := L) (xs := xs) (fun i GB => Same GA GB ∧ ∃ ys, GB D1 = some (.lst ys) ∧ ys.length ≤ i ∧ (ys = [] → ∀ t ∈ rs.take i, sameK false (r0.pl ++ [wd]) t = false)) ⟨Same.new hD1, [], upd_same, Nat.zero_le _, fun _ t ht => by rw [List.take_zero] at ht; cases ht⟩ (fun i GB _ z => .of (z.1 _ _ kLA)) ?_ ?_
              · rintro i x GB hx ⟨sB, ys, hk, hn, hno⟩
                obtain ⟨t, e1, tv⟩ := hRA.get hx
                have hi : i < rs.length := (List.getElem?_eq_some_iff.mp e1).1
                have htok := hG.ok t (List.mem_of_getElem? e1)
                obtain ⟨ta, tp, ty, rfl, u1, u2, u3⟩ := tv.same sB
                refine ⟨rfl, ?_⟩
                refine ⟨_, rfl, _, rfl, ta, _, rfl, u1, fun kp G2 s2 k1 => ⟨_, rfl, _, rfl, q2, _, rfl, .of (s2 _ _ (sB _ _ kq)), fun kp2 G3 s3 k3 => ?_⟩⟩
                rw [cutV_two] at k1 k3
                have s23 := s2.trans s3
                refine ⟨headD t.ex t.pl, headD false (r0.pl ++ [wd]), head_dp (same_T s3 k1) (same_T s23 u2), head_dp k3 (same_T (sB.trans s23) hp2A), shaped_head _ htok.wds, shaped_head _ nok.wds, _, rfl, ?_⟩
                rw [eqv_head]
                show if sameK false (r0.pl ++ [wd]) t = true then _ else _
                have tk : rs.take (i + 1) = rs.take i ++ [t] := by rw [List.take_add_one, e1]; rfl
                have hk3 := s23 _ _ hk
                cases es : sameK false (r0.pl ++ [wd]) t with
                | true =>
                  exact iteT ⟨_, rfl, ys, hk3, Nat.lt_of_le_of_lt (show ys.length ≤ 40 by omega) (by decide), fun c o z => (upd_ne (ne_of_none z hD1)).trans ((sB.trans s23) _ _ z), ys ++ [.ref ta], upd_same, by simp; omega, fun z => by simp at z⟩
                | false =>
                  refine iteF ⟨sB.trans s23, ys, hk3, by omega, fun z t2 ht2 => ?_⟩
                  rw [tk] at ht2
                  rcases List.mem_append.mp ht2 with h | h
                  · exact hno z t2 h
                  · rw [List.mem_singleton.mp h]
                    exact es
              · rintro GB ⟨sB, ys, hk, hn, hno⟩
                have lr := hRA.length
                rw [show rs.take xs.length = rs from List.take_of_length_le (by omega)] at hno
                refine ⟨(show 0 ≤ sizeLine by decide), fun e2 he2 => ?_⟩
                have se := Same.new (o := .lst []) he2
                refine ⟨D1, e2, ys, rfl, rfl, se _ _ hk, upd_same, _, rfl, ?_⟩
                cases eys : ys.isEmpty with
                | false => exact iteF (toR _ (sB.trans se))
                | true =>
                  have ynil : ys = [] := List.isEmpty_iff.mp eys
                  have oth := others_all (hno ynil)
                  have sC := sB.trans se
                  refine iteT ⟨_, rfl, _, rfl, (show 1 ≤ sizeLine by decide), fun l1 hl1 => ?_⟩
                  have sl := Same.new (o := .lst [.ref q2]) hl1
                  refine ⟨L, l1, xs, [.ref q2], rfl, rfl, sl _ _ (sC _ _ kLA), upd_same, Nat.le_trans (show xs.length + 1 ≤ 20 by omega) (by decide), fun D2 hD2 => ?_⟩
                  have sf := sC.trans (sl.trans (Same.new (o := .lst (xs ++ [.ref q2])) hD2))
                  have g := hG.more nok (by rw [oth]; omega)
                  rw [oth] at g
                  refine q D2 _ (rs ++ [⟨false, r0.pl ++ [wd], .to (tg ++ [wd]) n⟩]) _ upd_same (pair_app (hRA.same sf) (.cons (nv.same sf) .nil)) g (fun x hx => ?_) (by rw [List.length_append, List.length_singleton]; omega) (WA.same sf) (s0A.trans (.of sf))
                  rcases List.mem_append.mp hx with h | h
                  · exact h5 x h
                  · rw [List.mem_singleton.mp h]
                    exact nf5
end
end K7
namespace K7
open PySem L2 Ld PyProof.Rows
section
variable {K : PySem.W.Frag} {H H' : Hp}
mutual
/-- data without lists stands as long as its tuples do -/
theorem dp_off (hT : ∀ a xs, SqT K H a xs → SqT K H' a xs) : ∀ (d : PyData) (v : V), bareB d = true → Dp K H v d → Dp K H' v d
  | .none, _, _, z => by cases z; exact .non
  | .bool b, _, _, z => by cases z; exact .bl b
  | .int i, _, _, z => by cases z; exact .int i
  | .str x, _, _, z => by cases z; exact .str x
  | .list ds, _, e, _ => by cases e
  | .dict ds, _, e, _ => by cases e
  | .tuple ds, _, e, z => by
    cases z with
    | tup h1 h2 => exact .tup (hT _ _ h1) (dpAll_off hT ds _ e h2)
theorem dpAll_off (hT : ∀ a xs, SqT K H a xs → SqT K H' a xs) : ∀ (ds : List PyData) (vs : List V), bareAll ds = true → DpAll K H vs ds → DpAll K H' vs ds
  | [], _, _, z => by cases z; exact .nil
  | d :: ds, _, e, z => by
    have e2 := Bool.and_eq_true_iff.mp (show (bareB d && bareAll ds) = true from e)
    cases z with
    | cons a b => exact .cons (dp_off hT d _ e2.1 a) (dpAll_off hT ds _ e2.2 b)
end
end
theorem bare_ws : ∀ ws : List Str, bareAll (ws.map PyData.str) = true
  | [] => rfl
  | w :: ws => bare_ws ws
theorem bare_ans (rs : List Rl) (ws : List Str) : bareB (answerOf rs ws) = true := by
  unfold answerOf
  cases ruleFor rs ws with
  | none => rfl
  | some r =>
    obtain ⟨e, pl, an⟩ := r
    cases e <;> cases an <;> simp [ansOf, An.d, wt, bareB, bareAll, bare_ws, -List.map_append, -List.map_drop]
theorem eqv_ans (rs : List Rl) (ws : List Str) : PyData.eqv (answerOf rs ws) (answerOf rs ws) = true := by
  unfold answerOf
  cases ruleFor rs ws with
  | none => simp [PyData.eqv, PyData.eqvAll]
  | some r =>
    obtain ⟨e, pl, an⟩ := r
    cases e with
    | true =>
      show PyData.eqv (an.d true) (an.d true) = true
      rw [eqv_an]
      simp
    | false => cases an <;> simp [ansOf, PyData.eqv, PyData.eqvAll, eqv_wt]
theorem sus_low {rs ts : List Rl} (h1 : ∀ r ∈ rs, r.Ok) (h2 : ∀ r ∈ ts, r.Ok) (h39 : ∀ e ∈ entr rs ts, e.2.length ≤ 39) : ∀ ws ∈ suspects (entr rs ts), LowW ws := fun ws hw => by
  have hkeys : ∀ e ∈ entr rs ts, ∀ z ∈ e.1, Wd z := nextP_keys (Pk := fun ws => ∀ z ∈ ws, Wd z) (fun z hz => by cases hz) fun ws hw n => by
    obtain ⟨r, hr, rfl⟩ := List.mem_map.mp hw
    rcases List.mem_append.mp hr with q | q
    · exact fun z hz => (h1 r q).wds z (List.mem_of_mem_take hz)
    · exact fun z hz => (h2 r q).wds z (List.mem_of_mem_take hz)
  unfold suspects at hw
  obtain ⟨e, he, hw⟩ := List.mem_flatMap.mp hw
  have lw : LowW e.1 := fun z hz => (hkeys e he z hz).low
  have o1 := oddN_le e.2
  have o2 := h39 e he
  simp only [susp, List.mem_cons, List.not_mem_nil, or_false] at hw
  rcases hw with rfl | rfl
  · exact lw
  · intro z hz
    rcases List.mem_append.mp hz with hz | hz
    · exact lw z hz
    · rw [List.mem_singleton.mp hz]
      exact low_seq (by omega)
theorem dif_low {rs ts : List Rl} {ws : List Str} (h1 : ∀ r ∈ rs, r.Ok) (h2 : ∀ r ∈ ts, r.Ok) (h39 : ∀ e ∈ entr rs ts, e.2.length ≤ 39) (h : difOf rs ts = some ws) : LowW ws :=
  sus_low h1 h2 h39 ws ((List.mergeSort_perm _ _).mem_iff.mp (List.mem_of_find?_eq_some h))
theorem none_ok : bareB .none = true ∧ SeqAt.shaped .none = true ∧ PyData.eqv .none .none = true := ⟨rfl, by decide +kernel, by simp [PyData.eqv]⟩
theorem low_ok {ws : List Str} (h : LowW ws) : bareB (wt ws) = true ∧ SeqAt.shaped (wt ws) = true ∧ PyData.eqv (wt ws) (wt ws) = true := by
  refine ⟨bare_ws ws, ?_, by rw [eqv_wt]; simp⟩
  unfold SeqAt.shaped
  have := depth_words ws
  rw [lay_low h, decide_eq_true (by show (PyData.tuple (ws.map PyData.str)).depth ≤ _; simp only [PyData.depth, this]; decide)]
  rfl
def optD : Option (List Str) → PyData
  | none => .none
  | some ws => wt ws
theorem OptAt.dp {K : PySem.W.Frag} {H : Hp} {v : V} {o : Option (List Str)} (z : OptAt K H v o) : Dp K H v (optD o) := by
  cases o with
  | none =>
    have e : v = .non := z
    rw [e]
    exact .non
  | some ws =>
    obtain ⟨p, e, h⟩ := z
    rw [e]
    exact dp_wt h
theorem TabAt.good {P : Program} {w : World} {K : PySem.W.Frag} {CT a : Addr} {H : Hp} {rs : List Rl} (z : TabAt P w K CT H a rs) : Good rs := by
  obtain ⟨_, _, _, _, _, _, _, _, _, h, _⟩ := z
  exact h
theorem TabAt.off {P : Program} {w : World} {K : PySem.W.Frag} {CT a D : Addr} {H H' : Hp} {rs : List Rl} {ks : List V} (z : TabAt P w K CT H a rs) (hD : H D = some (.lst ks)) (fr : ∀ c o, c ≠ D → H c = some o → H' c = some o) : TabAt P w K CT H' a rs := by
  obtain ⟨dx, t, d, xs, rows, mx, h1, h2, h3, h4, h5, h6, h7⟩ := z
  have hT : ∀ b ys, SqT K H b ys → SqT K H' b ys := fun b ys q => sqT_off hD fr q
  exact ⟨dx, t, d, xs, rows, mx, fr _ _ (ne_of h1 hD fun e => nomatch e) h1, hT _ _ h2, Rules.at h3 hD fr, h4, ⟨fr _ _ (ne_of h5.at_ hD fun e => nomatch e) h5.at_, h5.low, h5.few, fun x hx => ⟨nis_mono hT (h5.key x hx).1, (h5.key x hx).2⟩⟩, h6.mono hT, h7⟩
/-! ### answers that differ, over few rules -/
theorem few_F5 {rs ts : List Rl} (h1 : ∀ r ∈ rs, F5 r) (h2 : ∀ r ∈ ts, F5 r) : Few (rs ++ ts) :=
  have a : ∀ r ∈ rs ++ ts, F5 r := fun r hr => (List.mem_append.mp hr).elim (h1 r) (h2 r)
  ⟨fun r hr => (a r hr).1, fun r hr => (a r hr).2⟩
theorem F5_sort {rs : List Rl} (h : ∀ r ∈ rs, F5 r) : ∀ r ∈ sortR rs, F5 r := fun r hr => h r ((sortR_perm rs).mem_iff.mp hr)
theorem difB_comm (rs ts : List Rl) : difB rs ts = difB ts rs := by
  funext ws
  unfold difB
  rw [PySem.W.eqv_comm]
theorem dif_self (rs : List Rl) : difOf rs rs = none := by
  refine List.find?_eq_none.mpr fun x _ => ?_
  rw [eqv_ans]
  simp
theorem w7_low : ∀ z ∈ W7, ∀ c ∈ z.cps.toList, c < 128 := by decide +kernel
theorem allA_low {ws : List Str} (h : ws ∈ allA) : LowW ws := fun z hz => w7_low z (((mem_addrs 3 ws).mp h).2 z hz)
theorem allA_len {ws : List Str} (h : ws ∈ allA) : ws.length ≤ 3 := ((mem_addrs 3 ws).mp h).1
theorem difChk {rs ts : List Rl} {x : List Str} (h : (decide (x ∈ suspects (entr rs ts)) && difB rs ts x && (suspects (entr rs ts)).all fun y => !difB rs ts y || !keyLt y x) = true) : difOf rs ts = some x := by
  simp only [Bool.and_eq_true, decide_eq_true_iff, List.all_eq_true] at h
  obtain ⟨⟨h1, h2⟩, h3⟩ := h
  show (sortA (suspects (entr rs ts))).find? (difB rs ts) = some x
  cases h4 : (sortA (suspects (entr rs ts))).find? (difB rs ts) with
  | none => exact absurd h2 (List.find?_eq_none.mp h4 x (sortA_mem.mpr h1))
  | some z =>
    obtain ⟨z1, z2, z3⟩ := find_first (sortA_pw _) h4
    have a1 := z3 x (sortA_mem.mpr h1) h2
    have a2 := h3 z (sortA_mem.mp z1)
    rw [z2] at a2
    have a3 : leA x z = true := by rw [leA_eq]; simpa using a2
    rw [leA_anti a1 a3]
theorem lay_list : ∀ {l : List (List Str)}, (∀ ws ∈ l, LowW ws) → PyData.canLayAll0 (l.map wt) = true
  | [], _ => rfl
  | ws :: l, h => by
    simp only [List.map_cons, PyData.canLayAll0, lay_low (h ws List.mem_cons_self), lay_list fun x hx => h x (List.mem_cons_of_mem _ hx), Bool.and_self]
theorem deep_list : ∀ l : List (List Str), PyData.depthAll (l.map wt) ≤ 1
  | [] => Nat.zero_le _
  | ws :: l => by
    have h1 := depth_words ws
    have h2 := deep_list l
    simp only [List.map_cons, PyData.depthAll, wt, PyData.depth] at h2 ⊢
    omega
theorem shaped_list {l : List (List Str)} (h : ∀ ws ∈ l, LowW ws) : SeqAt.shaped (.list (l.map wt)) = true := by
  unfold SeqAt.shaped
  have h1 := deep_list l
  have h2 : (PyData.list (l.map wt)).depth ≤ 64 := by
    simp only [PyData.depth]
    omega
  rw [decide_eq_true h2]
  simp only [PyData.canLay0, lay_list h, Bool.and_self]
theorem eqv_empty (l : List (List Str)) : PyData.eqv (.list (l.map wt)) (.list []) = l.isEmpty := by
  cases l <;> simp [PyData.eqv, PyData.eqvAll]
theorem places_dp {K : PySem.W.Frag} {H : Hp} : ∀ {xs : List V} {l : List (List Str)}, Places K H xs l → DpAll K H xs (l.map wt)
  | _, _, .nil => .nil
  | _, _, .cons ⟨_, e, z⟩ t => by
    subst e
    exact .cons (dp_wt z) (places_dp t)
/-! ### what the last rows ask -/
def gA (b : Bool) (ws : List Str) : Rl := ⟨b, ws, .gone⟩
abbrev a4 : List Str := ["a", "a", "a", "a"]
abbrev a5 : List Str := ["a", "a", "a", "a", "a"]
theorem wd_a : Wd "a" := by unfold Wd; decide +kernel
theorem wd_aa : Wd "aa" := by unfold Wd; decide +kernel
theorem dif_deep : difOf [gA false a4] [] = some a4 := difChk (by decide +kernel)
theorem dif_wide : difOf [gA false []] [] = some [] := difChk (by decide +kernel)
theorem dif_four : difOf [gA true a4] [gA false a4] = some a5 := difChk (by decide +kernel)
theorem dif_four2 : difOf [gA false a4] [gA true a4] = some a5 := difChk (by decide +kernel)
def closeR : List Rl := [gA true ["a"], gA true ["aa"], gA true []]
def closeS : List Rl := [gA true [], gA true ["a"], gA true ["aa"]]
theorem close_sort : sortR closeR = closeS := by
  have e : sortR closeR = sortR closeS := sortR_eq (by decide +kernel) (by decide +kernel)
  rw [e]
  exact List.mergeSort_of_pairwise (by decide +kernel)
theorem dif_close : difOf closeS [gA false []] = some [("aaa" : Str)] := difChk (by decide +kernel)
theorem sort_one (r : Rl) : sortR [r] = [r] := List.perm_singleton.mp (sortR_perm [r])
theorem good_one {r : Rl} (h : r.Ok) : Good [r] := ⟨fun t ht => by rw [List.mem_singleton.mp ht]; exact h, (show 1 ≤ 40 by decide), by simp⟩
theorem ok_gA (b : Bool) {ws : List Str} (h : ws.length ≤ 4) (h2 : ∀ z ∈ ws, Wd z) : (gA b ws).Ok := ⟨h, h2, trivial⟩
theorem good_close : Good closeR := by
  refine ⟨fun r hr => ?_, by decide, by decide +kernel⟩
  simp only [closeR, List.mem_cons, List.not_mem_nil, or_false] at hr
  rcases hr with rfl | rfl | rfl
  · exact ok_gA _ (by decide) fun z hz => by rw [List.mem_singleton.mp hz]; exact wd_a
  · exact ok_gA _ (by decide) fun z hz => by rw [List.mem_singleton.mp hz]; exact wd_aa
  · exact ok_gA _ (by decide) fun z hz => by cases hz
theorem wd_a4 : ∀ z ∈ a4, Wd z := fun z hz => by
  simp only [a4, List.mem_cons, List.not_mem_nil, or_false, or_self] at hz
  rw [hz]
  exact wd_a
theorem h39_of {rs ts : List Rl} (h : (entr rs ts).all (fun e => decide (e.2.length ≤ 39)) = true) : ∀ e ∈ entr rs ts, e.2.length ≤ 39 := fun e he => of_decide_eq_true (List.all_eq_true.mp h e he)
theorem opt_low {o : Option (List Str)} (h : ∀ ws, o = some ws → LowW ws) : SeqAt.shaped (optD o) = true ∧ PyData.eqv (optD o) (optD o) = true := by
  cases o with
  | none => exact none_ok.2
  | some ws => exact (low_ok (h ws rfl)).2
end K7
namespace K7
open PySem L2 Ld PyProof.Rows
abbrev sLaw : Stmt := top 38
def lawN : List Str := ["_law_script", "_law_words", "_law_start", "_law_well_here", "_law_turn", "_law_rules_here", "_law_other_here", "_law_one", "_law_two", "_law_odd", "_law_due", "_law_deep", "_law_wide", "_law_four", "_law_close", "_law_address_here", "_law_sort"]
theorem scLaw : FnScope lawN ["_law_script"] (defScope sLaw) := ⟨rfl, rfl, rfl, by decide +kernel, rfl, by decide +kernel, by decide +kernel⟩
/-- all that the written part says of the class -/
structure Meths (P : Program) (w : World) (K : PySem.W.Frag) (mg : Str → Option Value) (base : Heap) (CT : Addr) : Prop where
  c : Tcl K CT
  tb : Tmk P w K mg base CT
  t0 : Tmk0 P w K mg base CT
  ans : ∃ f fd, Meth K CT "answer" f ∧ Binds K fd ["self", "address"] [] ∧ FnOk P w K mg base CX0 4 f fd ["self", "address"] (spAns P w K CT)
structure Defs (P : Program) (w : World) (K : PySem.W.Frag) (mg : Str → Option Value) (base : Heap) (CT : Addr) : Prop where
  well : Df P w K mg base 1 "_law_well" ["_law_script", "_law_start"] (spWell K)
  draw : Df P w K mg base 1 "_law_draw" ["_law_well_here", "_law_many"] spDraw
  rules : Df P w K mg base 5 "_law_rules" ["_law_well_here", "_law_many", "_law_most"] (spRulesOf P w K)
  other : Df P w K mg base 5 "_law_other" ["_law_well_here", "_law_rules_here"] (spOther K)
  addrs : Df P w K mg base 1 "_law_addresses" ["_law_words", "_law_most"] (spAddrs K)
  ad : Df P w K mg base 5 "answers_differ" ["first", "second"] (spAD P w K CT)
theorem op_repLK {X : Cx} {K : PySem.W.Frag} (hK : X.K = K := by rfl) : OpR X (binaryOp .Mult) (rRepL K) := by
  subst hK
  exact op_repL
theorem pe_tableP {X : Cx} {P : Program} {w : World} {K : PySem.W.Frag} {CT : Addr} {e : Expr} {ta : TA} {p pos : Pos} {j : Nat} (B : Tmk P w K X.mg X.base CT) (hr : Room j X.A) (ha : PA X [e] ta) (hj : 7 ≤ j := by decide) (hg : Gl X "Table" := by rfl) (he : starEach [e] X.env = (false, eval e X.env) :: starEach [] X.env := by rfl)
    (hP : X.prog = P := by rfl) (hw : X.w = w := by rfl) (hK : X.K = K := by rfl) : PE X (.Call (.Name "Table" p) [e] [] pos) (tMake CT (spInit P w K CT) [] E0 ta) := by
  subst hP hw hK
  exact pe_table B hr ha hj hg he
section
variable {P : Program} {w : World} {K : PySem.W.Frag} {mg : Str → Option Value} {base : Heap} {f : Addr} {fd : FuncData} {CT : Addr}
def spLaw (K : PySem.W.Frag) : Sp := fun vs H Q _ => ∃ (a : Addr) (ns : List Int), vs = [.ref a] ∧ SqL K H a (ns.map V.int) ∧ ns.length ≤ 63 ∧ (∀ z ∈ ns, Builtin.Int.intBits z ≤ 1048576) ∧ ∀ H', Q (.bl true) H'
/-- the second rules: drawn, or the first ones changed -/
def tOthI (K : PySem.W.Frag) : TE := fun σ H Q => ∃ (wa rl : Addr) (xs : List V) (rs : List Rl), σ[3]? = some (some (.ref wa)) ∧ σ[5]? = some (some (.ref rl)) ∧ Well H wa ∧ H rl = some (.lst xs) ∧ Rules K H xs rs ∧ Good rs ∧ (∀ r ∈ rs, F5 r) ∧ rs.length ≤ 6 ∧
  ∀ D ys ts H', H' D = some (.lst ys) → Rules K H' ys ts → Good ts → (∀ r ∈ ts, F5 r) → Well H' wa → Sb wa H H' → Q (.ref D) H'
/-- the first of the odd ones, or None -/
def tDueI (K : PySem.W.Frag) : TE := fun σ H Q => ∃ (L : Addr) (xs : List V) (l : List (List Str)), σ[9]? = some (some (.ref L)) ∧ SqL K H L xs ∧ Places K H xs l ∧ (∀ ws ∈ l, LowW ws) ∧ ∀ v H', Same H H' → OptAt K H' v l.head? → Q v H'
theorem paired_rev {α β : Type} {F : α → β → Prop} : ∀ {xs : List α} {l : List β}, Paired F xs l → Paired F xs.reverse l.reverse
  | _, _, .nil => .nil
  | _, _, .cons a b => by
    rw [List.reverse_cons, List.reverse_cons]
    exact (paired_rev b).snoc a
theorem mk_gA {H G : Hp} {p g r : Addr} {b : Bool} {ws : List Str} {z : Str} {ps : List V} (e : ps = ws.map V.str) (ez : z = sortS b) (hp : H p = none) (hg : (upd H p (.tup ps)) g = none) (hr : (upd (upd H p (.tup ps)) g (.tup [.str "gone"])) r = none)
    (eG : upd (upd (upd H p (.tup ps)) g (.tup [.str "gone"])) r (.tup [.str z, .ref p, .ref g]) = G) : Same H G ∧ RuleAt K G (.ref r) (gA b ws) := by
  subst eG e ez
  have s1 := Same.new (o := .tup (ws.map V.str)) hp
  have s2 := Same.new (o := .tup [.str "gone"]) hg
  have s3 := Same.new (o := .tup [.str (sortS b), .ref p, .ref g]) hr
  exact ⟨s1.trans (s2.trans s3), r, p, .ref g, rfl, .of upd_same, .of (s3 _ _ (s2 _ _ upd_same)), g, rfl, .of (s3 _ _ upd_same)⟩
theorem opt_eqv {o : Option (List Str)} (h : ∀ ws, o = some ws → LowW ws) : SeqAt.shaped (optD o) = true ∧ PyData.eqv (optD o) (optD o) = true := opt_low h
theorem ok_law (Fd : Fun K "law" "law" sLaw f fd) (T : Tx mg) (M : Meths P w K mg base CT) (D : Defs P w K mg base CT) : FnOk P w K mg base CX0 10 f fd ["_law_script"] (spLaw K) := by
  refine Fd.ok scLaw (fun vs H Q E h => ?_) (fun cdv A0 outer s H vs Q Ex hr h => ?_)
  · obtain ⟨a, ns, rfl, _⟩ := h
    rfl
  · obtain ⟨a, ns, rfl, hS, hlen, hb, q⟩ := h
    have nd := scLaw.nd
    have C := M.c.cls
    have B := M.tb
    have B0 := M.t0
    obtain ⟨fA, fdA, mA, bA, FA⟩ := M.ans
    refine ⟨_, (pss_cons (ps_set (i := 1) nd rfl (Or.inl rfl) (pe_lstN (pa_cons pe_str (pa_cons pe_str (pa_cons pe_str (pa_cons pe_str (pa_cons pe_str (pa_cons pe_str (pa_cons pe_str pa_nil)))))))))
      (pss_cons (ps_for PassesOwn.never rfl (pi_range1 rfl T.range (pa_cons (pe_callB (call_max2 rfl) (by rfl) T.max (by decide +kernel) (pa_cons pe_int (pa_cons (pe_callB (call_min2 rfl) (by rfl) T.min (by decide +kernel) (pa_cons pe_int (pa_cons (pe_callB call_len_seq (by rfl) T.len PySem.boot_len (pa_cons (pv 0) pa_nil)) pa_nil))) pa_nil))) pa_nil)) (pg_name (i := 2) nd rfl (Or.inl rfl))
        (pss_cons (ps_set (i := 3) nd rfl (Or.inl rfl) (pe_df D.well hr (pa_cons (pv 0) (pa_cons (pv 2) pa_nil))))
        (pss_one (ps_for PassesOwn.never rfl (pi_range1 rfl T.range (pa_cons pe_int pa_nil)) (pg_name (i := 4) nd rfl (Or.inl rfl))
          (pss_cons (ps_set (i := 5) nd rfl (Or.inl rfl) (pe_df D.rules hr (pa_cons (pv 3) (pa_cons pe_int (pa_cons pe_int pa_nil)))))
          (pss_cons (ps_set (i := 6) nd rfl (Or.inl rfl) (PE.conv (t := tOthI K) (pe_ifExp (pt_cmpR op_eq (pe_df D.draw hr (pa_cons (pv 3) (pa_cons pe_int pa_nil))) pe_int (nomark _)) (pe_df D.rules hr (pa_cons (pv 3) (pa_cons pe_int (pa_cons pe_int pa_nil)))) (pe_df D.other hr (pa_cons (pv 3) (pa_cons (pv 5) pa_nil)))) ?cO))
          (pss_cons (ps_asg (pe_tup (pa_cons (pe_table B hr (pa_cons (pv 5) pa_nil)) (pa_cons (pe_table B hr (pa_cons (pv 6) pa_nil)) pa_nil))) (pg_tup rfl (pgs_cons (pg_name (i := 7) nd rfl (Or.inr rfl)) (pgs_cons (pg_name (i := 8) nd rfl (Or.inr rfl)) pgs_nil))))
          (pss_cons (ps_setLc (i := 9) (own := [("_law_address_here", 15)]) (g := gName 15) (by rfl) nd rfl rfl (sw_true rfl rfl rfl rfl) (pi_list (pe_df D.addrs hr (pa_cons (pv 1) (pa_cons pe_int pa_nil)))) (blkOk_by (own := [("_law_address_here", 15)]) (N := lawN) (sc := defScope sLaw) (by decide +kernel)) (fun _ _ _ _ _ => pg_name (i := 15) nd rfl (Or.inl rfl))
              (fun _ _ _ _ _ => pts_one (pt_cmpR (op_neDK (K := K) hr.units) (pe_meth (E := E0) (dvs := []) (pv 7) C mA FA (hr.mono (by decide)) bA .nil (fun _ _ _ _ _ _ _ z => z) (pa_cons (pv 15) pa_nil)) (pe_meth (E := E0) (dvs := []) (pv 8) C mA FA (hr.mono (by decide)) bA .nil (fun _ _ _ _ _ _ _ z => z) (pa_cons (pv 15) pa_nil)) (nomark _))) (fun _ _ _ _ _ => pv 15))
          (pss_cons (ps_set (i := 10) nd rfl (Or.inl rfl) (PE.conv (t := tDueI K) (pe_ifExp (pt_cmpR (op_neD hr.units) (pv 9) (pe_lst pa_nil) (nomark _)) (pe_ix ix_list (pv 9) pe_int (fun _ _ => rfl)) pe_non) ?cD))
          (pss_cons (ps_if (PW.pt (pw_or (pt_cmpR (op_neD hr.units) (pe_df D.ad hr (pa_cons (pv 7) (pa_cons (pv 8) pa_nil))) (pv 10) (nomark _)) (pw_or1 (pt_cmpR (op_neD hr.units) (pe_df D.ad hr (pa_cons (pv 8) (pa_cons (pv 7) pa_nil))) (pv 10) (nomark _))))) pss_dead pss_nil)
          (pss_one (ps_if (pt_cmp (pc_notN (pe_df D.ad hr (pa_cons (pv 7) (pa_cons (pe_table B hr (pa_cons (pe_revL (pv 5)) pa_nil)) pa_nil))))) pss_dead pss_nil))))))))))))
      (pss_cons (ps_par (i := 11) (j := 12) (by rfl) nd rfl rfl (by decide) rfl rfl (pa_cons (pe_table B hr (pa_cons (pe_lst (pa_cons (pe_tup (pa_cons pe_str (pa_cons (pe_tup (pa_cons pe_str (pa_cons pe_str (pa_cons pe_str (pa_cons pe_str pa_nil))))) (pa_cons (pe_tup (pa_cons pe_str pa_nil)) pa_nil)))) pa_nil)) pa_nil))
          (pa_cons (pe_table B hr (pa_cons (pe_lst (pa_cons (pe_tup (pa_cons pe_str (pa_cons (pe_tup pa_nil) (pa_cons (pe_tup (pa_cons pe_str pa_nil)) pa_nil)))) pa_nil)) pa_nil)) pa_nil)) (by rfl))
      (pss_cons (ps_if (PW.pt (pw_or (pt_cmpR (op_neD hr.units) (pe_df D.ad hr (pa_cons (pv 11) (pa_cons (pe_table0 B0 hr) pa_nil))) (pe_op op_repL (pe_tup (pa_cons pe_str pa_nil)) pe_int) (nomark _)) (pw_or1 (pt_cmpR (op_neD hr.units) (pe_df D.ad hr (pa_cons (pv 12) (pa_cons (pe_table0 B0 hr) pa_nil))) (pe_tup pa_nil) (nomark _))))) pss_dead pss_nil)
      (pss_cons (ps_setLc (i := 13) (own := [("_law_sort", 16)]) (g := gName 16) (tt := tYes) (by rfl) nd rfl rfl (sw_true rfl rfl rfl rfl) (pi_list (pe_lst (pa_cons pe_str (pa_cons pe_str pa_nil)))) (blkOk_by (own := [("_law_sort", 16)]) (N := lawN) (sc := defScope sLaw) (by decide +kernel)) (fun _ _ _ _ _ => pg_name (i := 16) nd rfl (Or.inl rfl)) (fun _ _ _ _ _ => pts_nil)
          (fun _ _ _ _ _ => pe_tableP (P := P) (w := w) (K := K) B hr (pa_cons (pe_lst (pa_cons (pe_tup (pa_cons (pv 16) (pa_cons (pe_op (op_repLK (K := K)) (pe_tup (pa_cons pe_str pa_nil)) pe_int) (pa_cons (pe_tup (pa_cons pe_str pa_nil)) pa_nil)))) pa_nil)) pa_nil)))
      (pss_cons (ps_if (PW.pt (pw_or (pt_cmpR (op_neD hr.units) (pe_df D.ad hr (pa_cons (pe_ix ix_list (pv 13) pe_int (fun _ _ => rfl)) (pa_cons (pe_ix ix_list (pv 13) pe_int (fun _ _ => rfl)) pa_nil))) (pe_op op_repL (pe_tup (pa_cons pe_str pa_nil)) pe_int) (nomark _)) (pw_or1 (pt_cmpR (op_neD hr.units) (pe_df D.ad hr (pa_cons (pe_ix ix_list (pv 13) pe_int (fun _ _ => rfl)) (pa_cons (pe_ix ix_list (pv 13) pe_int (fun _ _ => rfl)) pa_nil))) (pe_op op_repL (pe_tup (pa_cons pe_str pa_nil)) pe_int) (nomark _))))) pss_dead pss_nil)
      (pss_cons (ps_set (i := 14) nd rfl (Or.inl rfl) (pe_lst (pa_cons (pe_tup (pa_cons pe_str (pa_cons (pe_tup (pa_cons pe_str pa_nil)) (pa_cons (pe_tup (pa_cons pe_str pa_nil)) pa_nil)))) (pa_cons (pe_tup (pa_cons pe_str (pa_cons (pe_tup (pa_cons pe_str pa_nil)) (pa_cons (pe_tup (pa_cons pe_str pa_nil)) pa_nil)))) (pa_cons (pe_tup (pa_cons pe_str (pa_cons (pe_tup pa_nil) (pa_cons (pe_tup (pa_cons pe_str pa_nil)) pa_nil)))) pa_nil)))))
      (pss_one (ps_ret (pe_cmpR (op_eqD hr.units) (pe_df D.ad hr (pa_cons (pe_table B hr (pa_cons (pv 14) pa_nil)) (pa_cons (pv 12) pa_nil))) (pe_tup (pa_cons pe_str pa_nil)) (nomark _))))))))))), ?_⟩
    case cO =>
      rintro σ G Qv ⟨wa, rl, xs, rs, e3, e5, W, hrl, hR, hG, hF, hn, q⟩
      refine ⟨_, e3, wa, 3, rfl, W, by decide, by decide, fun k G1 k0 k1 W1 s1 => ⟨rfl, _, rfl, ?_⟩⟩
      generalize decide (V.int k = V.int 0) = c
      cases c
      rotate_left
      · refine iteT ?_
        exact ⟨_, e3, wa, 5, 2, rfl, by decide, by decide, W1, fun l ys ts G2 hl hR2 hG2 hM hn2 W2 s2 nl => q l ys ts G2 hl hR2 hG2 (fun t ht => M4_F5 (hM t ht)) W2 (s1.trans s2)⟩
      · refine iteF ?_
        exact ⟨_, e3, _, e5, wa, rl, xs, rs, rfl, W1, s1 _ _ (W.ne hrl trivial) hrl, hR.mono (fun _ _ z => seqT W s1 z), hG, hF, hn, fun D ys ts G2 hD hR2 hG2 hF2 hn2 W2 s2 => q D ys ts G2 hD hR2 hG2 hF2 W2 (s1.trans s2)⟩
    case cD =>
      rintro σ G Qv ⟨L, xs, l, e9, hL, hP, hlow, q⟩
      refine ⟨_, e9, (show 0 ≤ sizeLine by decide), fun D2 hD2 => ?_⟩
      have s1 := Same.new (o := .lst []) hD2
      have hP1 := places_mono hP fun _ _ z => same_T s1 z
      refine ⟨.list (l.map wt), .list [], .lst (s1.seq hL) (places_dp hP1), .lst (.of upd_same) .nil, shaped_list hlow, (by decide +kernel), _, rfl, ?_⟩
      rw [eqv_empty]
      cases l with
      | nil => exact iteF (q _ _ s1 rfl)
      | cons ws l =>
        refine iteT ?_
        cases hP1 with
        | cons a b =>
          obtain ⟨p, rfl, hp⟩ := a
          exact ⟨_, e9, L, _, _, _, rfl, rfl, s1.seq hL, at0, q _ _ s1 ⟨p, rfl, hp⟩⟩
    refine ⟨(show 7 ≤ sizeLine by decide), fun wl hwl nwl => ?_⟩
    have s0 := Same.new (o := .lst [V.str "a", V.str "aa", V.str "b", V.str "c", V.str "aaa", V.str "ab", V.str "zz"]) hwl
    have kw : (upd H wl (.lst [V.str "a", V.str "aa", V.str "b", V.str "c", V.str "aaa", V.str "ab", V.str "zz"])) wl = some (.lst (W7u.map V.str)) := upd_same
    have rangeN : ∃ N : Nat, (if (if (((ns.map V.int).length : Nat) : Int) < 5 then (((ns.map V.int).length : Nat) : Int) else 5) > 2 then (if (((ns.map V.int).length : Nat) : Int) < 5 then (((ns.map V.int).length : Nat) : Int) else 5) else 2) = (N : Int) ∧ N ≤ 5 := by
      generalize (ns.map V.int).length = l
      by_cases h1 : (l : Int) < 5
      · rw [if_pos h1]
        by_cases h2 : (l : Int) > 2
        · exact ⟨l, if_pos h2, by omega⟩
        · exact ⟨2, if_neg h2, by decide⟩
      · rw [if_neg h1]
        exact ⟨5, rfl, by decide⟩
    obtain ⟨N, eN, hN⟩ := rangeN
    generalize upd H wl (.lst [V.str "a", V.str "aa", V.str "b", V.str "c", V.str "aaa", V.str "ab", V.str "zz"]) = H1 at s0 kw ⊢
    have hS1 := s0.seq hS
    refine ⟨_, rfl, a, _, rfl, .inl hS1, _, _, rfl, _, _, rfl, (N : Int), by rw [eN], by omega, by omega, for_range (lo := 0) (n := (N : Int).toNat) (fun i σ G => Same H1 G ∧ ∃ v2 v3 v4 v5 v6 v7 v8 v9 v10, σ = [some (.ref a), some (.ref wl), v2, v3, v4, v5, v6, v7, v8, v9, v10, none, none, none, none, none, none])
      ⟨Same.refl H1, none, none, none, none, none, none, none, none, none, rfl⟩ ?_ ?_⟩
    · rintro j σ G hj ⟨sG, v2, v3, v4, v5, v6, v7, v8, v9, v10, rfl⟩
      refine ⟨_, rfl, _, rfl, a, ns, _, 1048576, rfl, sG.seq hS1, hlen, by decide, by decide, hb, by omega, by omega, fun wa G1 nwa W1 s1 => ?_⟩
      have nH : H1 wa = none := sG.free nwa
      refine ⟨3, rfl, by decide, by decide, for_range (lo := 0) (n := 3) (fun i σ G2 => Same H1 G2 ∧ Well G2 wa ∧ ∃ v2 v4 v5 v6 v7 v8 v9 v10, σ = [some (.ref a), some (.ref wl), v2, some (.ref wa), v4, v5, v6, v7, v8, v9, v10, none, none, none, none, none, none])
        ⟨sG.trans s1, W1, _, _, _, _, _, _, _, _, rfl⟩ ?_ ?_⟩
      · rintro i σ G2 hi ⟨sH, W2, v2, v4, v5, v6, v7, v8, v9, v10, rfl⟩
        refine ⟨_, rfl, wa, 5, 2, rfl, by decide, by decide, W2, fun rl xs rs G3 hrl hR hG hM hn W3 s3 nrl => ?_⟩
        refine ⟨wa, rl, xs, rs, rfl, rfl, W3, hrl, hR, hG, (fun r hr => M4_F5 (hM r hr)), Nat.le_trans hn (by decide), fun ol ys ts G4 hol hR4 hG4 hF4 W4 s4 => ?_⟩
        have hrl4 := s4 _ _ (W3.ne hrl trivial) hrl
        have hR3 : Rules K G4 xs rs := hR.mono fun _ _ z => seqT W3 s4 z
        have s24 : Sb wa G2 G4 := s3.trans s4
        have sH4 : Same H1 G4 := fun c o e => s24 c o (ne_of_none e nH) (sH c o e)
        clear s24 s3 s4 hR hrl
        refine ⟨_, rfl, make_sp (.of hrl4) hR3 hG fun one G5 n5 s5 T5 => ?_⟩
        refine ⟨_, rfl, make_sp (.of (s5 _ _ hol)) (hR4.same s5) hG4 fun two G6 n6 s6 T6 => ?_⟩
        have T5 : TabAt P w K CT G5 one (sortR rs) := T5
        have T6 : TabAt P w K CT G6 two (sortR ts) := T6
        refine ⟨(show 2 ≤ sizeLine by decide), fun tp htp => ?_⟩
        have s7 := Same.new (o := .tup [.ref one, .ref two]) htp
        have k7 := upd_same (H := G6) (a := tp) (o := .tup [.ref one, .ref two])
        have T1 := T5.same (s6.trans s7)
        have T2 := T6.same s7
        have s57 := s5.trans (s6.trans s7)
        have hrl7 := s57 _ _ hrl4
        have hR7 := hR3.same s57
        have W7' := W4.same s57
        have sH7 := sH4.trans s57
        clear T5 T6 s5 s6 s7 n5 n6 hol hR4 hR3 hrl4 W4 W3 W2 sH sH4 s57
        generalize upd G6 tp (.tup [.ref one, .ref two]) = G7 at k7 T1 T2 hrl7 hR7 W7' sH7 ⊢
        have F1 : ∀ r ∈ sortR rs, F5 r := F5_sort fun r hr => M4_F5 (hM r hr)
        have F2 : ∀ r ∈ sortR ts, F5 r := F5_sort hF4
        have g1 := hG.sort
        have g2 := hG4.sort
        have hrev : sortR rs.reverse = sortR rs := sortR_eq (by rw [List.map_reverse]; exact (List.reverse_perm _).nodup_iff.mpr hG.one) (List.reverse_perm rs)
        have grev : Good rs.reverse := ⟨fun r hr => hG.ok r (List.mem_reverse.mp hr), by rw [List.length_reverse]; exact hG.few, by rw [List.map_reverse]; exact (List.reverse_perm _).nodup_iff.mpr hG.one⟩
        generalize sortR rs = r1 at T1 F1 g1 hrev
        generalize sortR ts = r2 at T2 F2 g2
        have fw := few_F5 F1 F2
        have fw2 := few_F5 F2 F1
        have fw3 := few_F5 F1 F1
        obtain ⟨ox, ot, od, oz, orows, om, o8, _⟩ := id T1
        obtain ⟨tx, tt, td, tz, trows, tm, t8, _⟩ := id T2
        refine ⟨tp, _, rfl, .of k7, rfl, _, _, rfl, _, _, rfl, rfl, ?_⟩
        refine ⟨_, rfl, wl, rfl, .of (sH7 _ _ kw), fun DA xs8 G8 nD8 s8 hD8 hP8 => ⟨DA, rfl, ⟨_, .of hD8⟩, fun L hL => ?_⟩⟩
        refine lc_list (K := K) (a := DA) (xs := xs8) (fun i G => Same G8 G ∧ ∃ ys, G L = some (.lst ys) ∧ Places K G ys ((allA.take i).filter (difB r1 r2)) ∧ ys.length ≤ i) ⟨Same.new hL, [], upd_same, by rw [List.take_zero]; exact .nil, Nat.zero_le _⟩ (fun i G _ z => z.1.seq (.of hD8)) ?_ ?_
        · rintro e x G hx ⟨sG, ys, kL, hP, hn9⟩
          obtain ⟨ws, e1, p, rfl, hp⟩ := pair_get hP8 hx
          have hws : ws ∈ allA := List.mem_of_getElem? e1
          have he : e < 400 := by
            have := (List.getElem?_eq_some_iff.mp e1).1
            have := (lens 3 (by decide)).2
            show e < 400
            have h3 : allA.length = (addrs 3).length := rfl
            omega
          have low := allA_low hws
          have hlw := allA_len hws
          have s7G := s8.trans sG
          refine ⟨rfl, ?_⟩
          refine ⟨_, rfl, one, ox, _, rfl, s7G _ _ o8, (by first | rfl | (simp only [List.lookup]; rfl) | (simp only [List.lookup]; decide +kernel)), _, rfl, one, p, r1, ws, rfl, T1.same s7G, same_T sG hp, by omega, fun y1 Ga sa d1 => ?_⟩
          refine ⟨_, rfl, two, tx, _, rfl, (s7G.trans sa) _ _ t8, (by first | rfl | (simp only [List.lookup]; rfl) | (simp only [List.lookup]; decide +kernel)), _, rfl, two, p, r2, ws, rfl, T2.same (s7G.trans sa), same_T (sG.trans sa) hp, by omega, fun y2 Gb sb d2 => ?_⟩
          refine ⟨answerOf r1 ws, answerOf r2 ws, dp_same sb d1, d2, shaped_ansL g1.ok low, shaped_ansL g2.ok low, _, rfl, ?_⟩
          have sab := sa.trans sb
          have sG2 := sG.trans sab
          have kL2 := sab _ _ kL
          have hP2 := places_mono hP fun _ _ z => same_T sab z
          have hp2 := same_T sG2 hp
          clear d1 d2 sa sb sab
          have tk : (allA.take (e + 1)).filter (difB r1 r2) = (allA.take e).filter (difB r1 r2) ++ (if difB r1 r2 ws = true then [ws] else []) := by
            rw [List.take_add_one, e1, List.filter_append]
            congr 1
            cases h : difB r1 r2 ws <;> simp [List.filter, h]
          show if difB r1 r2 ws = true then _ else _
          cases hd : difB r1 r2 ws with
          | true =>
            rw [hd] at tk
            have hTL : ∀ b zs, SqT K Gb b zs → SqT K (upd Gb L (.lst (ys ++ [V.ref p]))) b zs := fun b zs z => sqT_list kL2 z
            refine iteT ⟨_, rfl, ys, kL2, Nat.lt_of_le_of_lt (show ys.length ≤ 400 by omega) (by decide), fun c o ec => (upd_ne (ne_of_none ec hL)).trans (sG2 _ _ ec), _, upd_same, ?_, by simp; omega⟩
            rw [tk, if_pos rfl]
            exact (places_mono hP2 hTL).snoc ⟨p, rfl, hTL _ _ hp2⟩
          | false =>
            rw [hd] at tk
            refine iteF ⟨sG2, ys, kL2, ?_, by omega⟩
            rw [tk, if_neg (by decide), List.append_nil]
            exact hP2
        rintro G9 ⟨s9, odd, k9, hP9, hn9⟩
        have l9 : allA.length ≤ xs8.length := by rw [Paired.length hP8]; exact Nat.le_refl _
        rw [List.take_of_length_le l9] at hP9
        have s79 := s8.trans s9
        refine ⟨L, odd, _, rfl, .of k9, hP9, (fun ws hw => allA_low (List.mem_filter.mp hw).1), fun due G10 s10 hdue => ?_⟩
        rw [List.head?_filter] at hdue
        have eo : difOf r1 r2 = allA.find? (difB r1 r2) := dif_first fw (few_39 fw)
        have eo2 : difOf r2 r1 = allA.find? (difB r1 r2) := by
          rw [dif_first fw2 (few_39 fw2), difB_comm]
        have lo : ∀ ws, allA.find? (difB r1 r2) = some ws → LowW ws := fun ws e => allA_low (List.mem_of_find?_eq_some e)
        generalize allA.find? (difB r1 r2) = o at hdue eo eo2 lo
        obtain ⟨so, qo⟩ := opt_eqv lo
        have s710 := s79.trans s10
        have dd := hdue.dp
        refine ⟨_, rfl, _, rfl, one, two, r1, r2, rfl, T1.same s710, T2.same s710, few_39 fw, fun v1 G11 s11 o1 => ⟨_, rfl, ?_⟩⟩
        rw [eo] at o1
        refine ⟨optD o, optD o, o1.dp, dp_same s11 dd, so, so, _, rfl, ?_⟩
        rw [qo]
        refine iteF ?_
        have s711 := s710.trans s11
        refine ⟨_, rfl, _, rfl, two, one, r2, r1, rfl, T2.same s711, T1.same s711, few_39 fw2, fun v2 G12 s12 o2 => ⟨_, rfl, ?_⟩⟩
        rw [eo2] at o2
        refine ⟨optD o, optD o, o2.dp, dp_same (s11.trans s12) dd, so, so, _, rfl, ?_⟩
        rw [qo]
        refine iteF ?_
        have s712 := s711.trans s12
        refine ⟨_, rfl, _, rfl, rl, xs, rfl, .of (s712 _ _ hrl7), fun rv hrv => ?_⟩
        have s13 := Same.new (o := .lst xs.reverse) hrv
        refine make_sp (.of upd_same) (paired_rev (hR7.same (s712.trans s13))) grev fun th G14 n14 s14 T14 => ?_
        have T14 : TabAt P w K CT G14 th (sortR rs.reverse) := T14
        rw [hrev] at T14
        have s714 := s712.trans (s13.trans s14)
        refine ⟨one, th, r1, r1, rfl, T1.same s714, T14, few_39 fw3, fun v3 G15 s15 o3 => ?_⟩
        rw [dif_self] at o3
        have e3 : v3 = .non := o3
        subst e3
        have s715 := s714.trans s15
        refine ⟨_, rfl, ?_⟩
        exact iteF ⟨sH7.trans s715, W7'.same s715, _, _, _, _, _, _, _, _, rfl⟩
      · rintro σ G2 ⟨sH, W2, v2, v4, v5, v6, v7, v8, v9, v10, rfl⟩
        exact ⟨sH, _, _, _, _, _, _, _, _, _, rfl⟩
    · rintro σ G ⟨sG, v2, v3, v4, v5, v6, v7, v8, v9, v10, rfl⟩
      have one1 : (1 : Nat) ≤ sizeLine := by decide
      have lowa : ∀ ws ∈ ([a4, a5, [], [("aaa" : Str)]] : List (List Str)), LowW ws := by
        intro ws hws z hz
        exact w7_low z (by revert z; revert ws; decide +kernel)
      have oka4 : ∀ b, (gA b a4).Ok := fun b => ok_gA b (by decide) wd_a4
      have oke : ∀ b, (gA b []).Ok := fun b => ok_gA b (by decide) fun z hz => by cases hz
      refine ⟨(show 4 ≤ sizeLine by decide), fun p1 hp1 => ⟨one1, fun g1 hg1 => ⟨(show 3 ≤ sizeLine by decide), fun r1 hr1 => ?_⟩⟩⟩
      obtain ⟨s1, rv1⟩ := mk_gA (b := false) (ws := a4) (z := "open") (ps := [V.str "a", V.str "a", V.str "a", V.str "a"]) rfl rfl hp1 hg1 hr1 rfl
      generalize upd (upd (upd G p1 (.tup [V.str "a", V.str "a", V.str "a", V.str "a"])) g1 (.tup [V.str "gone"])) r1 (.tup [V.str "open", .ref p1, .ref g1]) = G1 at s1 rv1 ⊢
      refine ⟨one1, fun l1 hl1 => ?_⟩
      have t1 := Same.new (o := .lst [V.ref r1]) hl1
      dsimp only [tNil]
      refine make_sp (.of upd_same) (.cons (rv1.same t1) .nil) (good_one (oka4 false)) fun deep G2 n2 s2 Td => ?_
      have Td : TabAt P w K CT G2 deep (sortR [gA false a4]) := Td
      rw [sort_one] at Td
      clear rv1 s1 t1
      refine ⟨(show 0 ≤ sizeLine by decide), fun p2 hp2 => ⟨one1, fun g2 hg2 => ⟨(show 3 ≤ sizeLine by decide), fun r2 hr2 => ?_⟩⟩⟩
      obtain ⟨s3, rv3⟩ := mk_gA (b := false) (ws := []) (z := "open") (ps := []) rfl rfl hp2 hg2 hr2 rfl
      generalize upd (upd (upd G2 p2 (.tup [])) g2 (.tup [V.str "gone"])) r2 (.tup [V.str "open", .ref p2, .ref g2]) = G3 at s3 rv3 ⊢
      refine ⟨one1, fun l2 hl2 => ?_⟩
      have t3 := Same.new (o := .lst [V.ref r2]) hl2
      refine make_sp (.of upd_same) (.cons (rv3.same t3) .nil) (good_one (oke false)) fun wide G4 n4 s4 Tw => ?_
      have Tw : TabAt P w K CT G4 wide (sortR [gA false []]) := Tw
      rw [sort_one] at Tw
      have Td4 := Td.same (s3.trans (t3.trans s4))
      clear rv3 s3 t3 s4 Td
      refine ⟨_, _, rfl, ?_⟩
      refine ⟨_, rfl, fun t0 G5 n5 s5 T0 => ⟨deep, t0, [gA false a4], [], rfl, Td4.same s5, T0, h39_of (by decide +kernel), fun v1 G6 s6 o1 => ?_⟩⟩
      rw [dif_deep] at o1
      obtain ⟨x1, x2, x3⟩ := low_ok (lowa a4 (by simp))
      refine ⟨one1, fun u1 hu1 => ⟨u1, 4, [V.str "a"], rfl, rfl, .of upd_same, by simp, by decide, by decide, fun q1 hq1 => ?_⟩⟩
      have s7 := (Same.new (o := .tup [V.str "a"]) hu1).trans (Same.new (o := .tup (List.replicate 4 [V.str "a"]).flatten) hq1)
      refine ⟨wt a4, wt a4, dp_same s7 o1.dp, dp_wt (ws := a4) (.of upd_same), x2, x2, _, rfl, ?_⟩
      rw [x3]
      have s57 := s5.trans (s6.trans s7)
      have Td5 := Td4.same s57
      have Tw5 := Tw.same s57
      clear Td4 Tw s5 s6 s7 s57 o1 T0 n5
      generalize upd (upd G6 u1 (.tup [V.str "a"])) q1 (.tup (List.replicate 4 [V.str "a"]).flatten) = G7 at Td5 Tw5 ⊢
      refine iteF ?_
      refine ⟨_, rfl, fun t0 G5 n5 s5 T0 => ⟨wide, t0, [gA false []], [], rfl, Tw5.same s5, T0, h39_of (by decide +kernel), fun v1 G6 s6 o1 => ?_⟩⟩
      rw [dif_wide] at o1
      obtain ⟨y1, y2, y3⟩ := low_ok (lowa [] (by simp))
      refine ⟨(show 0 ≤ sizeLine by decide), fun q2 hq2 => ?_⟩
      have s7 := Same.new (o := .tup []) hq2
      refine ⟨wt [], wt [], dp_same s7 o1.dp, dp_wt (ws := []) (.of upd_same), y2, y2, _, rfl, ?_⟩
      rw [y3]
      have s57 := s5.trans (s6.trans s7)
      have Td8 := Td5.same s57
      have Tw8 := Tw5.same s57
      clear Td5 Tw5 s5 s6 s7 s57 o1 T0 n5
      generalize upd G6 q2 (.tup []) = G8 at Td8 Tw8 ⊢
      refine iteF ?_
      clear Td8
      refine ⟨(show 2 ≤ sizeLine by decide), fun ls hls => ⟨ls, rfl, ⟨_, .of upd_same⟩, fun L hL => ?_⟩⟩
      have kls := upd_same (H := G8) (a := ls) (o := .lst [V.str "exact", V.str "open"])
      have Tw9 := Tw8.same (Same.new (o := .lst [V.str "exact", V.str "open"]) hls)
      clear Tw8 hls
      generalize upd G8 ls (.lst [V.str "exact", V.str "open"]) = G9 at kls Tw9 hL ⊢
      refine lc_list (K := K) (a := ls) (xs := [V.str "exact", V.str "open"]) (fun i G => Same G9 G ∧ ∃ bs : List Addr, G L = some (.lst (bs.map V.ref)) ∧ Paired (fun b rs => TabAt P w K CT G b rs) bs ([[gA true a4], [gA false a4]].take i) ∧ bs.length ≤ i) ⟨Same.new hL, [], upd_same, .nil, Nat.le_refl _⟩ (fun i G _ z => z.1.seq (.of kls)) ?_ ?_
      · rintro i x G hx ⟨sG, bs, kL, hB, hn⟩
        have hi : ∃ b, x = V.str (sortS b) ∧ ([[gA true a4], [gA false a4]] : List (List Rl))[i]? = some [gA b a4] := by
          match i, hx with
          | 0, hx => exact ⟨true, by cases hx; rfl, rfl⟩
          | 1, hx => exact ⟨false, by cases hx; rfl, rfl⟩
          | i + 2, hx => simp at hx
        obtain ⟨b, rfl, eb⟩ := hi
        have i2 : i < 2 := (List.getElem?_eq_some_iff.mp hx).1
        refine ⟨rfl, ?_⟩
        dsimp only [tYes]
        refine iteT ?_
        refine ⟨_, rfl, one1, fun u hu => ⟨u, 4, [V.str "a"], rfl, rfl, .of upd_same, by simp, by decide, by decide, fun p hp => ⟨one1, fun g hg => ⟨(show 3 ≤ sizeLine by decide), fun r hr => ?_⟩⟩⟩⟩
        have su := Same.new (o := .tup [V.str "a"]) hu
        obtain ⟨s1, rv⟩ := mk_gA (b := b) (ws := a4) (z := sortS b) (ps := (List.replicate 4 [V.str "a"]).flatten) rfl rfl hp hg hr rfl
        have s2 := su.trans s1
        generalize upd (upd (upd (upd G u (.tup [V.str "a"])) p (.tup (List.replicate 4 [V.str "a"]).flatten)) g (.tup [V.str "gone"])) r (.tup [V.str (sortS b), .ref p, .ref g]) = Ga at s2 rv ⊢
        refine ⟨one1, fun l hl => ?_⟩
        have t1 := Same.new (o := .lst [V.ref r]) hl
        refine make_sp (.of upd_same) (.cons (rv.same t1) .nil) (good_one (oka4 b)) fun tb Gb nb sb Tb => ?_
        have Tb : TabAt P w K CT Gb tb (sortR [gA b a4]) := Tb
        rw [sort_one] at Tb
        have sf := s2.trans (t1.trans sb)
        have kLb := sf _ _ kL
        refine ⟨bs.map V.ref, kLb, Nat.lt_of_le_of_lt (show (bs.map V.ref).length ≤ 2 by rw [List.length_map]; omega) (by decide), fun c o ec => (upd_ne (ne_of_none ec hL)).trans (sf _ _ (sG _ _ ec)), bs ++ [tb], ?_, ?_, by simp; omega⟩
        · rw [upd_same, List.map_append]
          rfl
        · rw [List.take_add_one, eb]
          have off : ∀ c o, c ≠ L → Gb c = some o → (upd Gb L (.lst (bs.map V.ref ++ [V.ref tb]))) c = some o := fun c o nc ec => (upd_ne nc).trans ec
          exact (Paired.mono (fun _ _ z => (TabAt.same z sf).off kLb off) hB).snoc (Tb.off kLb off)
      rintro G10 ⟨s10, bs, k10, hB, hn⟩
      obtain ⟨b1, b2, rfl, Tb1, Tb2⟩ : ∃ b1 b2, bs = [b1, b2] ∧ TabAt P w K CT G10 b1 [gA true a4] ∧ TabAt P w K CT G10 b2 [gA false a4] := by
        cases hB with
        | cons a b =>
          cases b with
          | cons a2 b =>
            cases b
            exact ⟨_, _, rfl, a, a2⟩
      have Tw10 := Tw9.same s10
      clear hB hn s10 Tw9 kls
      obtain ⟨f1, f2, f3⟩ := low_ok (lowa a5 (by simp))
      refine ⟨_, rfl, L, _, _, _, rfl, rfl, .of k10, at0, _, rfl, L, _, _, _, rfl, rfl, .of k10, at1, b1, b2, _, _, rfl, Tb1, Tb2, h39_of (by decide +kernel), fun v1 G6 s6 o1 => ?_⟩
      rw [dif_four] at o1
      refine ⟨one1, fun u1 hu1 => ⟨u1, 5, [V.str "a"], rfl, rfl, .of upd_same, by simp, by decide, by decide, fun q1 hq1 => ?_⟩⟩
      have s7 := (Same.new (o := .tup [V.str "a"]) hu1).trans (Same.new (o := .tup (List.replicate 5 [V.str "a"]).flatten) hq1)
      refine ⟨wt a5, wt a5, dp_same s7 o1.dp, dp_wt (ws := a5) (.of upd_same), f2, f2, _, rfl, ?_⟩
      rw [f3]
      have s67 := s6.trans s7
      replace Tb1 := Tb1.same s67
      replace Tb2 := Tb2.same s67
      replace Tw10 := Tw10.same s67
      have k11 := s67 _ _ k10
      clear s6 s7 s67 o1 k10
      generalize upd (upd G6 u1 (.tup [V.str "a"])) q1 (.tup (List.replicate 5 [V.str "a"]).flatten) = H11 at Tb1 Tb2 Tw10 k11 ⊢
      refine iteF ?_
      refine ⟨_, rfl, L, _, _, _, rfl, rfl, .of k11, at1, _, rfl, L, _, _, _, rfl, rfl, .of k11, at0, b2, b1, _, _, rfl, Tb2, Tb1, h39_of (by decide +kernel), fun v1 G6 s6 o1 => ?_⟩
      rw [dif_four2] at o1
      refine ⟨one1, fun u1 hu1 => ⟨u1, 5, [V.str "a"], rfl, rfl, .of upd_same, by simp, by decide, by decide, fun q1 hq1 => ?_⟩⟩
      have s7 := (Same.new (o := .tup [V.str "a"]) hu1).trans (Same.new (o := .tup (List.replicate 5 [V.str "a"]).flatten) hq1)
      refine ⟨wt a5, wt a5, dp_same s7 o1.dp, dp_wt (ws := a5) (.of upd_same), f2, f2, _, rfl, ?_⟩
      rw [f3]
      have s67 := s6.trans s7
      replace Tb1 := Tb1.same s67
      replace Tb2 := Tb2.same s67
      replace Tw10 := Tw10.same s67
      have k12 := s67 _ _ k11
      clear s6 s7 s67 o1 k11
      generalize upd (upd G6 u1 (.tup [V.str "a"])) q1 (.tup (List.replicate 5 [V.str "a"]).flatten) = H12 at Tb1 Tb2 Tw10 k12 ⊢
      refine iteF ?_
      refine ⟨(show 1 ≤ sizeLine by decide), fun p1 hp1 => ⟨one1, fun g1 hg1 => ⟨(show 3 ≤ sizeLine by decide), fun r1 hr1 => ?_⟩⟩⟩
      obtain ⟨s1, rv1⟩ := mk_gA (b := true) (ws := ["a"]) (z := "exact") (ps := [V.str "a"]) rfl rfl hp1 hg1 hr1 rfl
      generalize upd (upd (upd H12 p1 (.tup [V.str "a"])) g1 (.tup [V.str "gone"])) r1 (.tup [V.str "exact", .ref p1, .ref g1]) = H13 at s1 rv1 ⊢
      refine ⟨(show 1 ≤ sizeLine by decide), fun p2 hp2 => ⟨one1, fun g2 hg2 => ⟨(show 3 ≤ sizeLine by decide), fun r2 hr2 => ?_⟩⟩⟩
      obtain ⟨s2, rv2⟩ := mk_gA (b := true) (ws := ["aa"]) (z := "exact") (ps := [V.str "aa"]) rfl rfl hp2 hg2 hr2 rfl
      generalize upd (upd (upd H13 p2 (.tup [V.str "aa"])) g2 (.tup [V.str "gone"])) r2 (.tup [V.str "exact", .ref p2, .ref g2]) = H14 at s2 rv2 ⊢
      refine ⟨(show 0 ≤ sizeLine by decide), fun p3 hp3 => ⟨one1, fun g3 hg3 => ⟨(show 3 ≤ sizeLine by decide), fun r3 hr3 => ?_⟩⟩⟩
      obtain ⟨s3, rv3⟩ := mk_gA (b := true) (ws := []) (z := "exact") (ps := []) rfl rfl hp3 hg3 hr3 rfl
      generalize upd (upd (upd H14 p3 (.tup [])) g3 (.tup [V.str "gone"])) r3 (.tup [V.str "exact", .ref p3, .ref g3]) = H15 at s3 rv3 ⊢
      refine ⟨(show 3 ≤ sizeLine by decide), fun lc hlc => ?_⟩
      have s4 := Same.new (o := .lst [V.ref r1, V.ref r2, V.ref r3]) hlc
      refine ⟨_, rfl, make_sp (rs := closeR) (.of upd_same) (.cons (rv1.same (s2.trans (s3.trans s4))) (.cons (rv2.same (s3.trans s4)) (.cons (rv3.same s4) .nil))) good_close fun tc H16 n16 s16 Tc => ?_⟩
      have Tc : TabAt P w K CT H16 tc (sortR closeR) := Tc
      rw [close_sort] at Tc
      refine ⟨_, rfl, tc, wide, closeS, [gA false []], rfl, Tc, Tw10.same (s1.trans (s2.trans (s3.trans (s4.trans s16)))), h39_of (by decide +kernel), fun v1 G6 s6 o1 => ?_⟩
      rw [dif_close] at o1
      obtain ⟨z1, z2, z3⟩ := low_ok (lowa [("aaa" : Str)] (by simp))
      refine ⟨one1, fun q1 hq1 => ⟨wt ["aaa"], wt ["aaa"], dp_same (Same.new (o := .tup [V.str "aaa"]) hq1) o1.dp, dp_wt (ws := ["aaa"]) (.of upd_same), z2, z2, ?_⟩⟩
      rw [z3]
      exact q _
end
end K7
namespace K7
open PySem PySem.Spec PyProof.Rows L2 Ld
theorem kit_yes {K : PySem.W.Frag} {C C' : Addr} (s : PySem.W.subIn K (.ref C) (.ref C') = some true) (hc : PySem.W.isClsIn K C' = true) (ht : PySem.W.typeIn K (.ref C') = some (.type "type")) : PySem.W.kitOne K (.ref C) (.ref C') = some true := by
  unfold PySem.W.kitOne
  by_cases e2 : (Value.ref C == Value.ref C') = true
  · rw [if_pos e2]
  · rw [if_neg e2]
    show (if ((PySem.W.clsIn K C').isSome && PySem.W.typeIn K (.ref C') == some (.type "type")) = true then PySem.W.subIn K (.ref C) (.ref C') else none) = some true
    rw [show (PySem.W.clsIn K C').isSome = true from hc, ht, if_pos (by decide)]
    exact s
theorem all_mk {l : PySem.W.OpenLaw} {w : World} {K : PySem.W.Frag} {h : Heap} {mg : Str → Option Value} {fa : Addr} (X : K.In h) (G : h.Ns mainGlobals mg) (hfa : mg "law" = some (.ref fa))
    {f1 f2 f3 f4 f5 f6 f7 f8 f9 f10 f11 f12 f13 f14 f15 f16 f17 f18 f19 f20 f21 f22 f23 f24 CT fT dT eT kd pR qR qA qF : Addr}
    {od1 an1 od2 an2 od3 an3 od4 an4 od5 an5 od6 an6 od7 an7 od8 an8 od9 an9 od10 an10 od11 an11 od12 an12 od13 an13 od14 an14 od15 an15 od16 an16 od17 an17 od18 an18 od19 an19 od20 an20 od21 an21 od22 an22 od23 an23 od24 an24 odT anT odRm anRm odAm anAm odFm anFm : Option Addr}
    {sl1 sl2 sl3 sl4 sl5 sl6 sl7 sl8 sl9 sl10 sl11 sl12 sl13 sl14 sl15 sl16 sl17 sl18 sl19 sl20 sl21 sl22 sl23 sl24 slT slRm slAm slFm dts eds : Array (Option Value)}
    {oc1 kV1 dc1 pm1 cd1 ct1 oc2 kV2 dc2 pm2 cd2 ct2 oc3 kV3 dc3 pm3 cd3 ct3 oc4 kV4 dc4 pm4 cd4 ct4 oc5 kV5 dc5 pm5 cd5 ct5 oc6 kV6 dc6 pm6 cd6 ct6 oc7 kV7 dc7 pm7 cd7 ct7 oc8 kV8 dc8 pm8 cd8 ct8 oc9 kV9 dc9 pm9 cd9 ct9 oc10 kV10 dc10 pm10 cd10 ct10 oc11 kV11 dc11 pm11 cd11 ct11 oc12 kV12 dc12 pm12 cd12 ct12 oc13 kV13 dc13 pm13 cd13 ct13 oc14 kV14 dc14 pm14 cd14 ct14 oc15 kV15 dc15 pm15 cd15 ct15 oc16 kV16 dc16 pm16 cd16 ct16 oc17 kV17 dc17 pm17 cd17 ct17 oc18 kV18 dc18 pm18 cd18 ct18 oc19 kV19 dc19 pm19 cd19 ct19 oc20 kV20 dc20 pm20 cd20 ct20 oc21 kV21 dc21 pm21 cd21 ct21 oc22 kV22 dc22 pm22 cd22 ct22 oc23 kV23 dc23 pm23 cd23 ct23 oc24 kV24 dc24 pm24 cd24 ct24 ocT kVT dcT pmT cdT ctT ocRm kVRm dcRm pmRm cdRm ctRm ocAm kVAm dcAm pmAm cdAm ctAm ocFm kVFm dcFm pmFm cdFm ctFm dtc : Value} {dtd edd : Option Addr} {dn kn edn : Nat} {h1 h2 : Int} {t1' t2' u1 u2 : Tok} {rr : List Value}
    (a1 : PySem.W.nsIn K mainGlobals "is_number_to" = some (some (.ref f1)))
    (l1 : K.lookup f1 = some ⟨oc1, od1, .func (PySem.W.fnOf "is_number_to" "is_number_to" (defArgs sNum) (defBody sNum) (defScope sNum) .none kV1 dc1 pm1 an1 cd1 ct1), sl1⟩)
    (c1 : PySem.W.codeIn K cd1 "is_number_to" = true)
    (k1 : PySem.W.keepIn K (.ref f1) = true)
    (a2 : PySem.W.nsIn K mainGlobals "is_word" = some (some (.ref f2)))
    (l2 : K.lookup f2 = some ⟨oc2, od2, .func (PySem.W.fnOf "is_word" "is_word" (defArgs sWord) (defBody sWord) (defScope sWord) .none kV2 dc2 pm2 an2 cd2 ct2), sl2⟩)
    (c2 : PySem.W.codeIn K cd2 "is_word" = true)
    (k2 : PySem.W.keepIn K (.ref f2) = true)
    (a3 : PySem.W.nsIn K mainGlobals "is_address" = some (some (.ref f3)))
    (l3 : K.lookup f3 = some ⟨oc3, od3, .func (PySem.W.fnOf "is_address" "is_address" (defArgs sAddr) (defBody sAddr) (defScope sAddr) .none kV3 dc3 pm3 an3 cd3 ct3), sl3⟩)
    (c3 : PySem.W.codeIn K cd3 "is_address" = true)
    (k3 : PySem.W.keepIn K (.ref f3) = true)
    (a4 : PySem.W.nsIn K mainGlobals "is_place" = some (some (.ref f4)))
    (l4 : K.lookup f4 = some ⟨oc4, od4, .func (PySem.W.fnOf "is_place" "is_place" (defArgs sPlace) (defBody sPlace) (defScope sPlace) .none kV4 dc4 pm4 an4 cd4 ct4), sl4⟩)
    (c4 : PySem.W.codeIn K cd4 "is_place" = true)
    (k4 : PySem.W.keepIn K (.ref f4) = true)
    (a5 : PySem.W.nsIn K mainGlobals "is_rule" = some (some (.ref f5)))
    (l5 : K.lookup f5 = some ⟨oc5, od5, .func (PySem.W.fnOf "is_rule" "is_rule" (defArgs sRule) (defBody sRule) (defScope sRule) .none kV5 dc5 pm5 an5 cd5 ct5), sl5⟩)
    (c5 : PySem.W.codeIn K cd5 "is_rule" = true)
    (k5 : PySem.W.keepIn K (.ref f5) = true)
    (a6 : PySem.W.nsIn K mainGlobals "_is_answer" = some (some (.ref f6)))
    (l6 : K.lookup f6 = some ⟨oc6, od6, .func (PySem.W.fnOf "_is_answer" "_is_answer" (defArgs sAnswer) (defBody sAnswer) (defScope sAnswer) .none kV6 dc6 pm6 an6 cd6 ct6), sl6⟩)
    (c6 : PySem.W.codeIn K cd6 "_is_answer" = true)
    (k6 : PySem.W.keepIn K (.ref f6) = true)
    (a7 : PySem.W.nsIn K mainGlobals "rest_of" = some (some (.ref f7)))
    (l7 : K.lookup f7 = some ⟨oc7, od7, .func (PySem.W.fnOf "rest_of" "rest_of" (defArgs sRest) (defBody sRest) (defScope sRest) .none kV7 dc7 pm7 an7 cd7 ct7), sl7⟩)
    (c7 : PySem.W.codeIn K cd7 "rest_of" = true)
    (k7 : PySem.W.keepIn K (.ref f7) = true)
    (a8 : PySem.W.nsIn K mainGlobals "address_key" = some (some (.ref f8)))
    (l8 : K.lookup f8 = some ⟨oc8, od8, .func (PySem.W.fnOf "address_key" "address_key" (defArgs sKey) (defBody sKey) (defScope sKey) .none kV8 dc8 pm8 an8 cd8 ct8), sl8⟩)
    (c8 : PySem.W.codeIn K cd8 "address_key" = true)
    (k8 : PySem.W.keepIn K (.ref f8) = true)
    (a9 : PySem.W.nsIn K mainGlobals "beginnings" = some (some (.ref f9)))
    (l9 : K.lookup f9 = some ⟨oc9, od9, .func (PySem.W.fnOf "beginnings" "beginnings" (defArgs sBegs) (defBody sBegs) (defScope sBegs) .none kV9 dc9 pm9 an9 cd9 ct9), sl9⟩)
    (c9 : PySem.W.codeIn K cd9 "beginnings" = true)
    (k9 : PySem.W.keepIn K (.ref f9) = true)
    (a10 : PySem.W.nsIn K mainGlobals "rule_key" = some (some (.ref f10)))
    (l10 : K.lookup f10 = some ⟨oc10, od10, .func (PySem.W.fnOf "rule_key" "rule_key" (defArgs sRK) (defBody sRK) (defScope sRK) .none kV10 dc10 pm10 an10 cd10 ct10), sl10⟩)
    (c10 : PySem.W.codeIn K cd10 "rule_key" = true)
    (k10 : PySem.W.keepIn K (.ref f10) = true)
    (a11 : PySem.W.nsIn K mainGlobals "_answer_by" = some (some (.ref f11)))
    (l11 : K.lookup f11 = some ⟨oc11, od11, .func (PySem.W.fnOf "_answer_by" "_answer_by" (defArgs sBy) (defBody sBy) (defScope sBy) .none kV11 dc11 pm11 an11 cd11 ct11), sl11⟩)
    (c11 : PySem.W.codeIn K cd11 "_answer_by" = true)
    (k11 : PySem.W.keepIn K (.ref f11) = true)
    (a12 : PySem.W.nsIn K mainGlobals "strange_word" = some (some (.ref f12)))
    (l12 : K.lookup f12 = some ⟨oc12, od12, .func (PySem.W.fnOf "strange_word" "strange_word" (defArgs sStrange) (defBody sStrange) (defScope sStrange) .none kV12 dc12 pm12 an12 cd12 ct12), sl12⟩)
    (c12 : PySem.W.codeIn K cd12 "strange_word" = true)
    (k12 : PySem.W.keepIn K (.ref f12) = true)
    (a13 : PySem.W.nsIn K mainGlobals "_next_word" = some (some (.ref f13)))
    (l13 : K.lookup f13 = some ⟨oc13, od13, .func (PySem.W.fnOf "_next_word" "_next_word" (defArgs sNext) (defBody sNext) (defScope sNext) .none kV13 dc13 pm13 an13 cd13 ct13), sl13⟩)
    (c13 : PySem.W.codeIn K cd13 "_next_word" = true)
    (k13 : PySem.W.keepIn K (.ref f13) = true)
    (a14 : PySem.W.nsIn K mainGlobals "answers_differ" = some (some (.ref f14)))
    (l14 : K.lookup f14 = some ⟨oc14, od14, .func (PySem.W.fnOf "answers_differ" "answers_differ" (defArgs sAD) (defBody sAD) (defScope sAD) .none kV14 dc14 pm14 an14 cd14 ct14), sl14⟩)
    (c14 : PySem.W.codeIn K cd14 "answers_differ" = true)
    (k14 : PySem.W.keepIn K (.ref f14) = true)
    (a15 : PySem.W.nsIn K mainGlobals "_next_words" = some (some (.ref f15)))
    (l15 : K.lookup f15 = some ⟨oc15, od15, .func (PySem.W.fnOf "_next_words" "_next_words" (defArgs sNextWords) (defBody sNextWords) (defScope sNextWords) .none kV15 dc15 pm15 an15 cd15 ct15), sl15⟩)
    (c15 : PySem.W.codeIn K cd15 "_next_words" = true)
    (k15 : PySem.W.keepIn K (.ref f15) = true)
    (a16 : PySem.W.nsIn K mainGlobals "_law_well" = some (some (.ref f16)))
    (l16 : K.lookup f16 = some ⟨oc16, od16, .func (PySem.W.fnOf "_law_well" "_law_well" (defArgs sWell) (defBody sWell) (defScope sWell) .none kV16 dc16 pm16 an16 cd16 ct16), sl16⟩)
    (c16 : PySem.W.codeIn K cd16 "_law_well" = true)
    (k16 : PySem.W.keepIn K (.ref f16) = true)
    (a17 : PySem.W.nsIn K mainGlobals "_law_draw" = some (some (.ref f17)))
    (l17 : K.lookup f17 = some ⟨oc17, od17, .func (PySem.W.fnOf "_law_draw" "_law_draw" (defArgs sDraw) (defBody sDraw) (defScope sDraw) .none kV17 dc17 pm17 an17 cd17 ct17), sl17⟩)
    (c17 : PySem.W.codeIn K cd17 "_law_draw" = true)
    (k17 : PySem.W.keepIn K (.ref f17) = true)
    (a18 : PySem.W.nsIn K mainGlobals "_law_choose" = some (some (.ref f18)))
    (l18 : K.lookup f18 = some ⟨oc18, od18, .func (PySem.W.fnOf "_law_choose" "_law_choose" (defArgs sChoose) (defBody sChoose) (defScope sChoose) .none kV18 dc18 pm18 an18 cd18 ct18), sl18⟩)
    (c18 : PySem.W.codeIn K cd18 "_law_choose" = true)
    (k18 : PySem.W.keepIn K (.ref f18) = true)
    (a19 : PySem.W.nsIn K mainGlobals "_law_address" = some (some (.ref f19)))
    (l19 : K.lookup f19 = some ⟨oc19, od19, .func (PySem.W.fnOf "_law_address" "_law_address" (defArgs sAddress) (defBody sAddress) (defScope sAddress) .none kV19 dc19 pm19 an19 cd19 ct19), sl19⟩)
    (c19 : PySem.W.codeIn K cd19 "_law_address" = true)
    (k19 : PySem.W.keepIn K (.ref f19) = true)
    (a20 : PySem.W.nsIn K mainGlobals "_law_rule" = some (some (.ref f20)))
    (l20 : K.lookup f20 = some ⟨oc20, od20, .func (PySem.W.fnOf "_law_rule" "_law_rule" (defArgs sRuleOf) (defBody sRuleOf) (defScope sRuleOf) .none kV20 dc20 pm20 an20 cd20 ct20), sl20⟩)
    (c20 : PySem.W.codeIn K cd20 "_law_rule" = true)
    (k20 : PySem.W.keepIn K (.ref f20) = true)
    (a21 : PySem.W.nsIn K mainGlobals "_law_rules" = some (some (.ref f21)))
    (l21 : K.lookup f21 = some ⟨oc21, od21, .func (PySem.W.fnOf "_law_rules" "_law_rules" (defArgs sRulesOf) (defBody sRulesOf) (defScope sRulesOf) .none kV21 dc21 pm21 an21 cd21 ct21), sl21⟩)
    (c21 : PySem.W.codeIn K cd21 "_law_rules" = true)
    (k21 : PySem.W.keepIn K (.ref f21) = true)
    (a22 : PySem.W.nsIn K mainGlobals "_law_addresses" = some (some (.ref f22)))
    (l22 : K.lookup f22 = some ⟨oc22, od22, .func (PySem.W.fnOf "_law_addresses" "_law_addresses" (defArgs sAddrs) (defBody sAddrs) (defScope sAddrs) .none kV22 dc22 pm22 an22 cd22 ct22), sl22⟩)
    (c22 : PySem.W.codeIn K cd22 "_law_addresses" = true)
    (k22 : PySem.W.keepIn K (.ref f22) = true)
    (a23 : PySem.W.nsIn K mainGlobals "_law_other" = some (some (.ref f23)))
    (l23 : K.lookup f23 = some ⟨oc23, od23, .func (PySem.W.fnOf "_law_other" "_law_other" (defArgs sOther) (defBody sOther) (defScope sOther) .none kV23 dc23 pm23 an23 cd23 ct23), sl23⟩)
    (c23 : PySem.W.codeIn K cd23 "_law_other" = true)
    (k23 : PySem.W.keepIn K (.ref f23) = true)
    (a24 : PySem.W.nsIn K mainGlobals "law" = some (some (.ref f24)))
    (l24 : K.lookup f24 = some ⟨oc24, od24, .func (PySem.W.fnOf "law" "law" (defArgs sLaw) (defBody sLaw) (defScope sLaw) .none kV24 dc24 pm24 an24 cd24 ct24), sl24⟩)
    (c24 : PySem.W.codeIn K cd24 "law" = true)
    (k24 : PySem.W.keepIn K (.ref f24) = true)
    (z1 : PySem.W.nsIn K mainGlobals "isinstance" = some none)
    (z2 : PySem.W.nsIn K mainGlobals "int" = some none)
    (z3 : PySem.W.nsIn K mainGlobals "bool" = some none)
    (z4 : PySem.W.nsIn K mainGlobals "str" = some none)
    (z5 : PySem.W.nsIn K mainGlobals "tuple" = some none)
    (z6 : PySem.W.nsIn K mainGlobals "list" = some none)
    (z7 : PySem.W.nsIn K mainGlobals "len" = some none)
    (z8 : PySem.W.nsIn K mainGlobals "range" = some none)
    (z9 : PySem.W.nsIn K mainGlobals "repr" = some none)
    (z10 : PySem.W.nsIn K mainGlobals "max" = some none)
    (z11 : PySem.W.nsIn K mainGlobals "min" = some none)
    (z12 : PySem.W.nsIn K mainGlobals "sorted" = some none)
    (z13 : PySem.W.nsIn K mainGlobals "reversed" = some none)
    (z14 : PySem.W.nsIn K mainGlobals "set" = some none)
    {t1 : Tok}
    (g1 : PySem.W.nsIn K mainGlobals "WORD_LETTERS" = some (some (.int 12 t1)))
    {t2 : Tok}
    (g2 : PySem.W.nsIn K mainGlobals "PLACE_WORDS" = some (some (.int 4 t2)))
    {t3 : Tok}
    (g3 : PySem.W.nsIn K mainGlobals "MOST_DAYS" = some (some (.int 10000 t3)))
    {t4 : Tok}
    (g4 : PySem.W.nsIn K mainGlobals "MOST_RULES" = some (some (.int 40 t4)))
    {t5 : Tok}
    (g5 : PySem.W.nsIn K mainGlobals "LETTERS" = some (some (.str abcS t5)))
    (d1 : PySem.W.nsIn K mainGlobals "OWN_KINDS" = some (some (.ref kd)))
    (d2 : K.lookup kd = some ⟨.type "dict", none, .dict #[⟨h1, .str "exact" t1', .str "page" u1⟩, ⟨h2, .str "open" t2', .str "section" u2⟩] kn, #[]⟩)
    (d3 : h1 = PyData.keyHash w.params "exact")
    (d4 : h2 = PyData.keyHash w.params "open")
    (d5 : (kd == sysModules) = false)
    (kn1 : PySem.W.specialIn K (.builtin "object.__class__") "__get__" = some (some (.builtin "getset_descriptor.__get__")))
    (kt1 : PySem.W.takesIn K (.builtin "object.__class__") = some true)
    (tb1 : PySem.W.nsIn K mainGlobals "Table" = some (some (.ref CT)))
    (tb2 : PySem.W.makesIn K CT = true)
    (tb3 : PySem.W.findIn K (.ref CT) "__init__" = some (some (.ref fT)))
    (tb4 : PySem.W.isFn K (.ref fT) = true)
    (tb5 : PySem.W.keepIn K (.ref CT) = true)
    (tb6 : K.lookup fT = some ⟨ocT, odT, .func (PySem.W.fnOf "__init__" "Table.__init__" (defArgs sInit) (defBody sInit) (defScope sInit) (.ref dT) kVT dcT pmT anT cdT ctT), slT⟩)
    (tb7 : PySem.W.codeIn K cdT "Table.__init__" = true)
    (tb8 : PySem.W.keepIn K (.ref fT) = true)
    (tb9 : K.lookup dT = some ⟨dtc, dtd, .seq #[.ref eT] dn, dts⟩)
    (te : K.lookup eT = some ⟨.type "tuple", edd, .seq #[] edn, eds⟩)
    (y1 : PySem.W.plainGet K CT Str.empty = true)
    (y2 : PySem.W.hasDictIn K CT = true)
    (y3 : PySem.W.plainOver K CT = true)
    (y4 : PySem.W.findIn K (.ref CT) "__setattr__" = some (some (.builtin "object.__setattr__")))
    (y5 : PySem.W.findIn K (.ref CT) "_rules" = some none)
    (y6 : PySem.W.findIn K (.ref CT) "_found" = some none)
    (y6b : PySem.W.findIn K (.ref CT) "_longest" = some none)
    (y7 : PySem.W.findIn K (.ref CT) "__class__" = some (some (.builtin "object.__class__")))
    (y8 : PySem.W.mroIn K CT (.type "object") = some true)
    (y9 : PySem.W.subIn K (.ref CT) (.ref CT) = some true)
    (y10 : PySem.W.isClsIn K CT = true)
    (y11 : PySem.W.typeIn K (.ref CT) = some (.type "type"))
    (y12 : PySem.W.findIn K (.ref CT) "__ne__" = some (some (.builtin "object.__ne__")))
    (y13 : PySem.W.subIn K (.ref CT) (.type "object") = some true)
    (r1 : PySem.W.findIn K (.ref CT) "rules" = some (some (.ref pR)))
    (r2 : PySem.W.specialIn K (.ref pR) "__get__" = some (some (.builtin "property.__get__")))
    (r3 : PySem.W.takesIn K (.ref pR) = some true)
    (r4 : PySem.W.recIn K pR "property" = some (.ref qR :: rr))
    (sR : PySem.W.isFn K (.ref qR) = true)
    (xR : K.lookup qR = some ⟨ocRm, odRm, .func (PySem.W.fnOf "rules" "Table.rules" (defArgs sRules) (defBody sRules) (defScope sRules) .none kVRm dcRm pmRm anRm cdRm ctRm), slRm⟩)
    (vR : PySem.W.codeIn K cdRm "Table.rules" = true)
    (wR : PySem.W.keepIn K (.ref qR) = true)
    (nA : PySem.W.findIn K (.ref CT) "answer" = some (some (.ref qA)))
    (sA : PySem.W.isFn K (.ref qA) = true)
    (xA : K.lookup qA = some ⟨ocAm, odAm, .func (PySem.W.fnOf "answer" "Table.answer" (defArgs sAns) (defBody sAns) (defScope sAns) .none kVAm dcAm pmAm anAm cdAm ctAm), slAm⟩)
    (vA : PySem.W.codeIn K cdAm "Table.answer" = true)
    (wA : PySem.W.keepIn K (.ref qA) = true)
    (nF : PySem.W.findIn K (.ref CT) "rule_for" = some (some (.ref qF)))
    (sF : PySem.W.isFn K (.ref qF) = true)
    (xF : K.lookup qF = some ⟨ocFm, odFm, .func (PySem.W.fnOf "rule_for" "Table.rule_for" (defArgs sFor) (defBody sFor) (defScope sFor) .none kVFm dcFm pmFm anFm cdFm ctFm), slFm⟩)
    (vF : PySem.W.codeIn K cdFm "Table.rule_for" = true)
    (wF : PySem.W.keepIn K (.ref qF) = true)
    : ∃ fd : FuncData, (∀ (s : Shared) (v : Value), BindsTo s fd ⟨[v], []⟩ [("_law_script", v)]) ∧ ∀ base : Heap, K.In base → base.Ns mainGlobals mg → FnG l.prog w K mg base 10 fa fd ["_law_script"] (spLaw K) := by
  have e := hfa.symm.trans (PySem.W.mg_of X G a24)
  cases e
  have F1 := fun_mk (st := sNum) l1 c1 k1
  have b1 := F1.binds (ps := ["value", "highest"]) fun _ _ _ _ _ _ us hl => match us, hl with | [_, _], _ => rfl
  have m1 := PySem.W.mg_of X G a1
  have F2 := fun_mk (st := sWord) l2 c2 k2
  have b2 := F2.binds (ps := ["value"]) fun _ _ _ _ _ _ us hl => match us, hl with | [_], _ => rfl
  have m2 := PySem.W.mg_of X G a2
  have F3 := fun_mk (st := sAddr) l3 c3 k3
  have b3 := F3.binds (ps := ["value"]) fun _ _ _ _ _ _ us hl => match us, hl with | [_], _ => rfl
  have m3 := PySem.W.mg_of X G a3
  have F4 := fun_mk (st := sPlace) l4 c4 k4
  have b4 := F4.binds (ps := ["value"]) fun _ _ _ _ _ _ us hl => match us, hl with | [_], _ => rfl
  have m4 := PySem.W.mg_of X G a4
  have F5 := fun_mk (st := sRule) l5 c5 k5
  have b5 := F5.binds (ps := ["value"]) fun _ _ _ _ _ _ us hl => match us, hl with | [_], _ => rfl
  have m5 := PySem.W.mg_of X G a5
  have F6 := fun_mk (st := sAnswer) l6 c6 k6
  have b6 := F6.binds (ps := ["value", "own_kind"]) fun _ _ _ _ _ _ us hl => match us, hl with | [_, _], _ => rfl
  have m6 := PySem.W.mg_of X G a6
  have F7 := fun_mk (st := sRest) l7 c7 k7
  have b7 := F7.binds (ps := ["address", "beginning"]) fun _ _ _ _ _ _ us hl => match us, hl with | [_, _], _ => rfl
  have m7 := PySem.W.mg_of X G a7
  have F8 := fun_mk (st := sKey) l8 c8 k8
  have b8 := F8.binds (ps := ["address"]) fun _ _ _ _ _ _ us hl => match us, hl with | [_], _ => rfl
  have m8 := PySem.W.mg_of X G a8
  have F9 := fun_mk (st := sBegs) l9 c9 k9
  have b9 := F9.binds (ps := ["address"]) fun _ _ _ _ _ _ us hl => match us, hl with | [_], _ => rfl
  have m9 := PySem.W.mg_of X G a9
  have F10 := fun_mk (st := sRK) l10 c10 k10
  have b10 := F10.binds (ps := ["rule"]) fun _ _ _ _ _ _ us hl => match us, hl with | [_], _ => rfl
  have m10 := PySem.W.mg_of X G a10
  have F11 := fun_mk (st := sBy) l11 c11 k11
  have b11 := F11.binds (ps := ["rule", "address"]) fun _ _ _ _ _ _ us hl => match us, hl with | [_, _], _ => rfl
  have m11 := PySem.W.mg_of X G a11
  have F12 := fun_mk (st := sStrange) l12 c12 k12
  have b12 := F12.binds (ps := ["words"]) fun _ _ _ _ _ _ us hl => match us, hl with | [_], _ => rfl
  have m12 := PySem.W.mg_of X G a12
  have F13 := fun_mk (st := sNext) l13 c13 k13
  have b13 := F13.binds (ps := ["word"]) fun _ _ _ _ _ _ us hl => match us, hl with | [_], _ => rfl
  have m13 := PySem.W.mg_of X G a13
  have F14 := fun_mk (st := sAD) l14 c14 k14
  have b14 := F14.binds (ps := ["first", "second"]) fun _ _ _ _ _ _ us hl => match us, hl with | [_, _], _ => rfl
  have m14 := PySem.W.mg_of X G a14
  have F15 := fun_mk (st := sNextWords) l15 c15 k15
  have b15 := F15.binds (ps := ["places"]) fun _ _ _ _ _ _ us hl => match us, hl with | [_], _ => rfl
  have m15 := PySem.W.mg_of X G a15
  have F16 := fun_mk (st := sWell) l16 c16 k16
  have b16 := F16.binds (ps := ["_law_script", "_law_start"]) fun _ _ _ _ _ _ us hl => match us, hl with | [_, _], _ => rfl
  have m16 := PySem.W.mg_of X G a16
  have F17 := fun_mk (st := sDraw) l17 c17 k17
  have b17 := F17.binds (ps := ["_law_well_here", "_law_many"]) fun _ _ _ _ _ _ us hl => match us, hl with | [_, _], _ => rfl
  have m17 := PySem.W.mg_of X G a17
  have F18 := fun_mk (st := sChoose) l18 c18 k18
  have b18 := F18.binds (ps := ["_law_well_here", "_law_things"]) fun _ _ _ _ _ _ us hl => match us, hl with | [_, _], _ => rfl
  have m18 := PySem.W.mg_of X G a18
  have F19 := fun_mk (st := sAddress) l19 c19 k19
  have b19 := F19.binds (ps := ["_law_well_here", "_law_most"]) fun _ _ _ _ _ _ us hl => match us, hl with | [_, _], _ => rfl
  have m19 := PySem.W.mg_of X G a19
  have F20 := fun_mk (st := sRuleOf) l20 c20 k20
  have b20 := F20.binds (ps := ["_law_well_here", "_law_most"]) fun _ _ _ _ _ _ us hl => match us, hl with | [_, _], _ => rfl
  have m20 := PySem.W.mg_of X G a20
  have F21 := fun_mk (st := sRulesOf) l21 c21 k21
  have b21 := F21.binds (ps := ["_law_well_here", "_law_many", "_law_most"]) fun _ _ _ _ _ _ us hl => match us, hl with | [_, _, _], _ => rfl
  have m21 := PySem.W.mg_of X G a21
  have F22 := fun_mk (st := sAddrs) l22 c22 k22
  have b22 := F22.binds (ps := ["_law_words", "_law_most"]) fun _ _ _ _ _ _ us hl => match us, hl with | [_, _], _ => rfl
  have m22 := PySem.W.mg_of X G a22
  have F23 := fun_mk (st := sOther) l23 c23 k23
  have b23 := F23.binds (ps := ["_law_well_here", "_law_rules_here"]) fun _ _ _ _ _ _ us hl => match us, hl with | [_, _], _ => rfl
  have m23 := PySem.W.mg_of X G a23
  have F24 := fun_mk (st := sLaw) l24 c24 k24
  have MR := fun_mk (st := sRules) xR vR wR
  have BR := MR.binds (ps := ["self"]) fun _ _ _ _ _ _ us hl => match us, hl with | [_], _ => rfl
  have MA := fun_mk (st := sAns) xA vA wA
  have BA := MA.binds (ps := ["self", "address"]) fun _ _ _ _ _ _ us hl => match us, hl with | [_, _], _ => rfl
  have MF := fun_mk (st := sFor) xF vF wF
  have BF := MF.binds (ps := ["self", "address"]) fun _ _ _ _ _ _ us hl => match us, hl with | [_, _], _ => rfl
  have T : Tx mg := ⟨PySem.W.mg_none_of X G z1, PySem.W.mg_none_of X G z2, PySem.W.mg_none_of X G z3, PySem.W.mg_none_of X G z4, PySem.W.mg_none_of X G z5, PySem.W.mg_none_of X G z6, PySem.W.mg_none_of X G z7, PySem.W.mg_none_of X G z8, PySem.W.mg_none_of X G z9, PySem.W.mg_none_of X G z10, PySem.W.mg_none_of X G z11, ⟨_, PySem.W.mg_of X G g1⟩, ⟨_, PySem.W.mg_of X G g2⟩, ⟨_, PySem.W.mg_of X G g3⟩⟩
  have Y : Ty mg := ⟨PySem.W.mg_none_of X G z12, PySem.W.mg_none_of X G z13, ⟨_, PySem.W.mg_of X G g4⟩⟩
  have C : Tcl K CT := ⟨⟨y1, y2, y3, y4⟩, y5, y6, y6b⟩
  have U : Ts mg := ⟨PySem.W.mg_none_of X G z14, ⟨_, PySem.W.mg_of X G g5⟩⟩
  have gT := PySem.W.mg_of X G tb1
  refine ⟨PySem.W.fnOf "law" "law" (defArgs sLaw) (defBody sLaw) (defScope sLaw) .none kV24 dc24 pm24 an24 cd24 ct24, fun s v => .of_eq rfl, fun base _ _ => ?_⟩
  have Kk : Kinds K w mg kd _ kn := ⟨PySem.W.mg_of X G d1, ⟨d2, ⟨⟨_, _, rfl, d3⟩, ⟨_, _, rfl, d4⟩, trivial⟩, d5⟩, ⟨_, _, _, _, _, _, rfl, rfl, rfl, rfl, rfl⟩⟩
  have dNum : Df l.prog w K mg base 1 "is_number_to" ["value", "highest"] (spNum K) := ⟨_, _, m1, k1, b1, ok_num F1 T⟩
  have dWord : Df l.prog w K mg base 1 "is_word" ["value"] (spWord K) := ⟨_, _, m2, k2, b2, ok_word F2 T⟩
  have dAddr : Df l.prog w K mg base 2 "is_address" ["value"] (spAddr K) := ⟨_, _, m3, k3, b3, ok_addr F3 T dWord⟩
  have dPlace : Df l.prog w K mg base 3 "is_place" ["value"] (spPlace K) := ⟨_, _, m4, k4, b4, ok_place F4 T dAddr⟩
  have dAns : Df l.prog w K mg base 4 "_is_answer" ["value", "own_kind"] (spAnswer K) := ⟨_, _, m6, k6, b6, ok_answer F6 T dNum dWord dPlace⟩
  have dRule : Df l.prog w K mg base 5 "is_rule" ["value"] (spRule K) := ⟨_, _, m5, k5, b5, ok_rule F5 T Kk dPlace dAns⟩
  have dRest : Df l.prog w K mg base 1 "rest_of" ["address", "beginning"] (spRest K) := ⟨_, _, m7, k7, b7, ok_rest F7 T⟩
  have dKey : Df l.prog w K mg base 1 "address_key" ["address"] (spKey K) := ⟨_, _, m8, k8, b8, ok_key F8 T⟩
  have dBegs : Df l.prog w K mg base 1 "beginnings" ["address"] (spBegs K) := ⟨_, _, m9, k9, b9, ok_begs F9 T⟩
  have dRK : Df l.prog w K mg base 2 "rule_key" ["rule"] (spRK K) := ⟨_, _, m10, k10, b10, ok_ruleKey F10 T dKey⟩
  have dBy : Df l.prog w K mg base 2 "_answer_by" ["rule", "address"] (spBy K) := ⟨_, _, m11, k11, b11, ok_by F11 T dRest⟩
  have dNx : Df l.prog w K mg base 1 "_next_word" ["word"] spNext := ⟨_, _, m13, k13, b13, ok_next F13 T U⟩
  have dSt : Df l.prog w K mg base 2 "strange_word" ["words"] (spStrange K) := ⟨_, _, m12, k12, b12, ok_strange F12 T U dNx⟩
  have dNw : Df l.prog w K mg base 4 "_next_words" ["places"] (spNW l.prog w K) := ⟨_, _, m15, k15, b15, ok_nextWords F15 T dBegs⟩
  have dWell : Df l.prog w K mg base 1 "_law_well" ["_law_script", "_law_start"] (spWell K) := ⟨_, _, m16, k16, b16, ok_well F16 T⟩
  have dDraw : Df l.prog w K mg base 1 "_law_draw" ["_law_well_here", "_law_many"] spDraw := ⟨_, _, m17, k17, b17, ok_draw F17 T⟩
  have dChoose : Df l.prog w K mg base 2 "_law_choose" ["_law_well_here", "_law_things"] (spChoose K) := ⟨_, _, m18, k18, b18, ok_choose F18 T dDraw⟩
  have dAd : Df l.prog w K mg base 3 "_law_address" ["_law_well_here", "_law_most"] (spAddress K) := ⟨_, _, m19, k19, b19, ok_address F19 T dDraw dChoose⟩
  have dRo : Df l.prog w K mg base 4 "_law_rule" ["_law_well_here", "_law_most"] (spRuleOf K) := ⟨_, _, m20, k20, b20, ok_ruleOf F20 T dDraw dChoose dAd⟩
  have dRs : Df l.prog w K mg base 5 "_law_rules" ["_law_well_here", "_law_many", "_law_most"] (spRulesOf l.prog w K) := ⟨_, _, m21, k21, b21, ok_rulesOf F21 T dDraw dRo⟩
  have FT : FunD K "__init__" "Table.__init__" (defArgs sInit) (defBody sInit) (defScope sInit) [.ref eT] [] fT _ := ⟨⟨_, _, _, _, _, _, _, _, _, _, rfl, tb6, tb7, .inr ⟨by simp, dT, _, [.ref eT], dn, rfl, tb9, rfl, .cons rfl .nil⟩, .inl rfl⟩, tb8⟩
  obtain ⟨dsT, vT, bT⟩ := FT.binds1 (ps := ["self", "rules"]) 2 1 (by simp) rfl fun _ _ _ _ _ _ _ us its h1 h2 => match us, its, h1, h2 with | [_, _], [_], _, _ => ⟨_, rfl, rfl⟩
  cases vT
  have FI := ok_init FT T Y C dRule dRK
  have B : Tmk l.prog w K mg base CT := ⟨gT, fT, _, ⟨tb2, tb3, tb4, tb5⟩, bT, FI⟩
  obtain ⟨dsE, vE, bE⟩ := FT.binds1 (ps := ["self", "rules"]) 1 0 (by simp) rfl fun _ _ _ _ _ _ _ us its h1 h2 => match us, its, h1, h2 with | [_], [_], _, _ => ⟨_, rfl, rfl⟩
  have B0 : Tmk0 l.prog w K mg base CT := ⟨gT, fT, _, eT, dsE, ⟨tb2, tb3, tb4, tb5⟩, vE, bE, ok_initE FT T Y C dRule dRK, fun H => .inr ⟨_, #[], _, te, rfl, rfl, Nat.zero_le _, .nil⟩⟩
  have FF := ok_for (P := l.prog) (w := w) (base := base) MF T C
  have FA := ok_ans MA T C ⟨nF, sF, wF⟩ FF BF dBy
  have FR := ok_rules (P := l.prog) (w := w) (base := base) MR T C
  have PR : PropOf K CT "rules" pR qR := ⟨r1, r2, r3, ⟨_, r4⟩⟩
  have dADF : Df l.prog w K mg base 5 "answers_differ" ["first", "second"] (spAD l.prog w K CT) := ⟨_, _, m14, k14, b14, ok_ad F14 T Y C PR BR FR ⟨nA, sA, wA⟩ BA FA dNw dSt dKey⟩
  have dAr : Df l.prog w K mg base 1 "_law_addresses" ["_law_words", "_law_most"] (spAddrs K) := ⟨_, _, m22, k22, b22, ok_addrs F22 T Y⟩
  have dOt : Df l.prog w K mg base 5 "_law_other" ["_law_well_here", "_law_rules_here"] (spOther K) := ⟨_, _, m23, k23, b23, ok_other F23 T dDraw dChoose dRo⟩
  have M : Meths l.prog w K mg base CT := ⟨C, B, B0, ⟨qA, _, ⟨nA, sA, wA⟩, BA, FA⟩⟩
  have D : Defs l.prog w K mg base CT := ⟨dWell, dDraw, dRs, dOt, dAr, dADF⟩
  exact FnG.of (ok_law F24 T M D)
theorem walk {l : PySem.W.OpenLaw} {q : Program} {loose : List Str} {XP : (Str → Option Value) → Heap → Prop} {YP : World → Heap → Prop} {d : DefRec} {K : Params → PySem.W.Frag} (hn : l.most = some 63) (hdf : d.params.defaults = []) (hY : ∀ (w : World) (h : Heap), YP w h → (K w.params).In h)
    (F : ∀ (w : World) (mg : Str → Option Value) (fa : Addr) (h : Heap), (K w.params).In h → h.Ns mainGlobals mg → mg d.name = some (.ref fa) → ∃ fd : FuncData, (∀ (s : Shared) (u : Value), BindsTo s fd ⟨[u], []⟩ [("_law_script", u)]) ∧
      ∀ base : Heap, (K w.params).In base → base.Ns mainGlobals mg → FnG l.prog w (K w.params) mg base 10 fa fd ["_law_script"] (spLaw (K w.params))) : PySem.W.WalkO q loose XP YP l.row.toRowW d [] (fun f vs => PySem.call f vs) :=
  Ld.walk_G (n := 63) (k := 10) (x := "_law_script") (sp := fun w => spLaw (K w.params)) hn (by decide) hdf ⟨rfl, by decide, by decide⟩ hY F fun w H a ns h1 h2 h3 => ⟨a, ns, rfl, h3, h1, h2, fun _ => rfl⟩
end K7
open PySem PySem.W PyProof.Rows
set_option maxRecDepth 100000 in
set_option maxHeartbeats 0 in
theorem PySem.Challenge.cw_leadsever_k07_answers_that_differ_holds : PySem.Challenge.rw_leadsever_k07_answers_that_differ.Holds := by
  w_on; o_law; k_head; (case hw => w_witness2)
  k_fill
  refine K7.walk (l := PySem.Challenge.rw_leadsever_k07_answers_that_differ) rfl rfl (fun w h Y => PySem.W.kIn_of Y) ?F
  case F =>
    intro w mg fa h KX G hmg
    refine' K7.all_mk KX G hmg ?a1 ?l1 ?c1 ?k1 ?a2 ?l2 ?c2 ?k2 ?a3 ?l3 ?c3 ?k3 ?a4 ?l4 ?c4 ?k4 ?a5 ?l5 ?c5 ?k5 ?a6 ?l6 ?c6 ?k6 ?a7 ?l7 ?c7 ?k7 ?a8 ?l8 ?c8 ?k8 ?a9 ?l9 ?c9 ?k9 ?a10 ?l10 ?c10 ?k10 ?a11 ?l11 ?c11 ?k11 ?a12 ?l12 ?c12 ?k12 ?a13 ?l13 ?c13 ?k13 ?a14 ?l14 ?c14 ?k14 ?a15 ?l15 ?c15 ?k15 ?a16 ?l16 ?c16 ?k16 ?a17 ?l17 ?c17 ?k17 ?a18 ?l18 ?c18 ?k18 ?a19 ?l19 ?c19 ?k19 ?a20 ?l20 ?c20 ?k20 ?a21 ?l21 ?c21 ?k21 ?a22 ?l22 ?c22 ?k22 ?a23 ?l23 ?c23 ?k23 ?a24 ?l24 ?c24 ?k24 ?z1 ?z2 ?z3 ?z4 ?z5 ?z6 ?z7 ?z8 ?z9 ?z10 ?z11 ?z12 ?z13 ?z14 ?g1 ?g2 ?g3 ?g4 ?g5 ?d1 ?d2 ?d3 ?d4 ?d5 ?kn1 ?kt1 ?tb1 ?tb2 ?tb3 ?tb4 ?tb5 ?tb6 ?tb7 ?tb8 ?tb9 ?te ?y1 ?y2 ?y3 ?y4 ?y5 ?y6 ?y6b ?y7 ?y8 ?y9 ?y10 ?y11 ?y12 ?y13 ?r1 ?r2 ?r3 ?r4 ?sR ?xR ?vR ?wR ?nA ?sA ?xA ?vA ?wA ?nF ?sF ?xF ?vF ?wF
    (case a1 => k_is)
    (case l1 => k_is)
    (case c1 => k_is)
    (case k1 => k_is)
    (case a2 => k_is)
    (case l2 => k_is)
    (case c2 => k_is)
    (case k2 => k_is)
    (case a3 => k_is)
    (case l3 => k_is)
    (case c3 => k_is)
    (case k3 => k_is)
    (case a4 => k_is)
    (case l4 => k_is)
    (case c4 => k_is)
    (case k4 => k_is)
    (case a5 => k_is)
    (case l5 => k_is)
    (case c5 => k_is)
    (case k5 => k_is)
    (case a6 => k_is)
    (case l6 => k_is)
    (case c6 => k_is)
    (case k6 => k_is)
    (case a7 => k_is)
    (case l7 => k_is)
    (case c7 => k_is)
    (case k7 => k_is)
    (case a8 => k_is)
    (case l8 => k_is)
    (case c8 => k_is)
    (case k8 => k_is)
    (case a9 => k_is)
    (case l9 => k_is)
    (case c9 => k_is)
    (case k9 => k_is)
    (case a10 => k_is)
    (case l10 => k_is)
    (case c10 => k_is)
    (case k10 => k_is)
    (case a11 => k_is)
    (case l11 => k_is)
    (case c11 => k_is)
    (case k11 => k_is)
    (case a12 => k_is)
    (case l12 => k_is)
    (case c12 => k_is)
    (case k12 => k_is)
    (case a13 => k_is)
    (case l13 => k_is)
    (case c13 => k_is)
    (case k13 => k_is)
    (case a14 => k_is)
    (case l14 => k_is)
    (case c14 => k_is)
    (case k14 => k_is)
    (case a15 => k_is)
    (case l15 => k_is)
    (case c15 => k_is)
    (case k15 => k_is)
    (case a16 => k_is)
    (case l16 => k_is)
    (case c16 => k_is)
    (case k16 => k_is)
    (case a17 => k_is)
    (case l17 => k_is)
    (case c17 => k_is)
    (case k17 => k_is)
    (case a18 => k_is)
    (case l18 => k_is)
    (case c18 => k_is)
    (case k18 => k_is)
    (case a19 => k_is)
    (case l19 => k_is)
    (case c19 => k_is)
    (case k19 => k_is)
    (case a20 => k_is)
    (case l20 => k_is)
    (case c20 => k_is)
    (case k20 => k_is)
    (case a21 => k_is)
    (case l21 => k_is)
    (case c21 => k_is)
    (case k21 => k_is)
    (case a22 => k_is)
    (case l22 => k_is)
    (case c22 => k_is)
    (case k22 => k_is)
    (case a23 => k_is)
    (case l23 => k_is)
    (case c23 => k_is)
    (case k23 => k_is)
    (case a24 => k_is)
    (case l24 => k_is)
    (case c24 => k_is)
    (case k24 => k_is)
    (case z1 => k_is)
    (case z2 => k_is)
    (case z3 => k_is)
    (case z4 => k_is)
    (case z5 => k_is)
    (case z6 => k_is)
    (case z7 => k_is)
    (case z8 => k_is)
    (case z9 => k_is)
    (case z10 => k_is)
    (case z11 => k_is)
    (case z12 => k_is)
    (case z13 => k_is)
    (case z14 => k_is)
    (case g1 => k_is)
    (case g2 => k_is)
    (case g3 => k_is)
    (case g4 => k_is)
    (case g5 => k_is)
    (case d1 => k_is)
    (case d2 => k_is)
    (case d3 => first | rfl | decide)
    (case d4 => first | rfl | decide)
    (case d5 => first | rfl | decide)
    (case kn1 => k_is)
    (case kt1 => k_is)
    (case tb1 => k_is)
    (case tb2 => k_is)
    (case tb3 => k_is)
    (case tb4 => k_is)
    (case tb5 => k_is)
    (case tb6 => k_is)
    (case tb7 => k_is)
    (case tb8 => k_is)
    (case tb9 => k_is)
    (case te => k_is)
    (case y1 => k_is)
    (case y2 => k_is)
    (case y3 => k_is)
    (case y4 => k_is)
    (case y5 => k_is)
    (case y6 => k_is)
    (case y6b => k_is)
    (case y7 => k_is)
    (case y8 => k_is)
    (case y9 => k_is)
    (case y10 => k_is)
    (case y11 => k_is)
    (case y12 => k_is)
    (case y13 => k_is)
    (case r1 => k_is)
    (case r2 => k_is)
    (case r3 => k_is)
    (case r4 => k_is)
    (case sR => k_is)
    (case xR => k_is)
    (case vR => k_is)
    (case wR => k_is)
    (case nA => k_is)
    (case sA => k_is)
    (case xA => k_is)
    (case vA => k_is)
    (case wA => k_is)
    (case nF => k_is)
    (case sF => k_is)
    (case xF => k_is)
    (case vF => k_is)
    (case wF => k_is)
