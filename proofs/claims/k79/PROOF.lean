import PyProof.Rows.All
import Wide.All
import OpenK.AllK
import Wide.FinOn
import HandS.ForMost
import HandS.Wide
import HandS.IsInst
import PyProof.FString3
import PyProof.ReprRoads
import PyProof.Rows.StrIntSpec
import PyProof.Rows.RegReprOcc
import HandS.SortInts
import HandS.More
import HandS.SetFor
import HandS.Zip
import HandS.Strs
import HandS.ExcInit
import HandS.ExcField
import HandS.ExcIs
import HandS.CallSlots
import HandS.WordsExc
import HandS.SetBool
import HandS.Style
import HandS.TupAny
import KE.KRevSl
import HandS.Text
import HandS.Walk
import HandS.Zip0
import KE.GoesEnum
import HandS.SetKeys
import HandS.WideBits
import PyProof.P3Eq
import PyProof.ReprLen
import PySem.Challenge.RW_xorbanks_k79_whole_recodings_and_kernels
set_option Elab.async false
set_option maxRecDepth 100000
set_option maxHeartbeats 4000000
/-! Rules of my own: powers of great ints, {n:b}, repr of data, defs that know their guards. -/
namespace G
open PySem PySem.Spec PyProof.Rows L2
open PySem.Builtin PySem.Builtin.Str PySem.Builtin.Int PySem.Builtin.Float

def CPowW (i j : Int) : Prop := 0 ≤ j ∧ (Builtin.Int.intBits i : Int) * j ≤ 2 ^ 27
theorem op_powW {X : Cx} : OpR X (binaryOp .Pow) (rI CPowW fun i j => .int (i ^ j.toNat)) :=
  opI fun _ _ _ _ _ _ _ hc q => pow_int hc.1 hc.2 q

/-! ### the binary digits of a number as a text -/
def binL (n : Nat) : List Nat := (Nat.toDigits 2 n).map Char.toNat
def binText (n : Nat) : Str := ⟨(binL n).toArray⟩

theorem binL_ne (n : Nat) : binL n ≠ [] := by
  intro e
  have h := congrArg List.length e
  have h2 := tDigits_len_ge 2 n
  unfold binL at h
  rw [List.length_map] at h
  simp at h
theorem intField_plain {ds : List Nat} {g : Nat} (h : ds ≠ []) : intField' { align := 62, type := some 98 } false [] ds [] g = ⟨ds.toArray⟩ := by
  cases ds with
  | nil => exact absurd rfl h
  | cons d ds =>
    have e : ((-1 : Int) - (0 + 0 + 0) - ((d :: ds).length : Nat)).toNat = 0 := by
      rw [List.length_cons]
      omega
    unfold intField'
    simp
    omega

theorem gives_b (n : Nat) (t u : Tok) : Gives (Builtin.«int.__format__» ⟨[.int (n : Int) t, .str (Str.ofString "b") u], []⟩) (.str (binText n)) := by
  intro prog w A R s hq
  unfold Builtin.«int.__format__»
  have hne : ((Str.ofString "b").length == 0) = false := by decide +kernel
  have hasc : (((Str.ofString "b").cps.toList.drop 1).any (· ≥ 128) || ((Str.ofString "b").cps.getD 0 0 ≥ 128 && !([60, 62, 61, 94] : List Nat).contains ((Str.ofString "b").cps.getD 1 0))) = false := by decide +kernel
  simp only [selfAndOne, noKeywords, Int.intOfSelf, asInt?, asStr?, List.isEmpty_nil, if_true, pure_bind, bind_pure, bind_assoc, hne, hasc, Bool.false_eq_true, if_false,
    show (Value.str (Str.ofString "b") u == Value.none) = false from rfl]
  refine wpAny_bind (wpAny_typeNameOf (T := "str") (typeIs_str _ _ _) (by decide) fun _ => ?_)
  refine wpAny_bind (wpAny_typeNameOfCut_int ?_)
  have hp : ∃ f, parseFormatSpec (Str.ofString "b").cps.toList "int" 62 = .ok f ∧ f = { align := 62, type := some 98 } := ⟨_, rfl, by rfl⟩
  obtain ⟨f, hp, hf⟩ := hp
  rw [hp]
  dsimp only
  subst hf
  rw [if_pos (by decide)]
  show wpAny _ _ (retStr (intField' { align := 62, type := some 98 } (decide ((n : Int) < 0)) [] (binL n) [] 4)) _ _ _
  rw [show decide ((n : Int) < 0) = false from decide_eq_false (by omega), intField_plain (binL_ne n)]
  exact gives_retStr (binText n) prog w A R s hq

/-- {n:b} -/
def tFmtB (te : TE) : TE := fun σ H Q => te σ H fun x H1 => ∃ n : Nat, x = .int (n : Int) ∧ n < 2 ^ 2000 ∧ Q (.str (binText n)) H1
theorem binText_len {n k : Nat} (hk : 1 ≤ k) (h : n < 2 ^ k) : (binText n).length ≤ k := by
  have := toDigits_len_pow (b := 2) (by decide) hk h
  show (binL n).toArray.size ≤ k
  unfold binL
  rw [List.size_toArray, List.length_map]
  exact this
theorem pe_fmtB {X : Cx} {e : Expr} {te : TE} {p1 p2 pos : Pos} (he : PE X e te) :
    PE X (.FormattedValue e (-1) (some (.JoinedStr [.Constant (.str (Str.ofString "b")) 0 p1] p2)) pos) (tFmtB te) := by
  refine ⟨fun pins s σ H Q I h => ?_⟩
  refine wpAny_FormattedValue_spec (thn (he.run pins s σ H _ I h) fun v s1 hv => ?_)
  obtain ⟨x, H1, I1, r1, n, rfl, hn, q⟩ := hv
  obtain ⟨t, rfl⟩ := r1
  refine JoinedStr_one (wpAny_Constant_str ?_)
  refine ⟨_, _, rfl, ?_⟩
  exact wpAny_formatField_spec (by decide +kernel) (fun s' => typeIs_int s' _ _) F.slot_int_format F.entry_int_format F.args_int_format_2 (fun u => gives_b n t u)
    ⟨.str (binText n), H1, (I1.tok _).tok _, ⟨_, rfl⟩, q⟩ (by decide +kernel) (Nat.le_trans (binText_len (k := 2000) (by decide) hn) (by rw [sizeLine_eq]; decide))

/-! ### repr of data: wants that nothing is being shown around -/
theorem call_repr_data {X : Cx} {k : Nat} (hg : X.A.guards = some []) (hr : Room k X.A) :
    CallR X (.builtin "repr") (fun xs H Q => ∃ (p : Addr) (d : PyData), xs = [.ref p] ∧ Dp X.K H (.ref p) d ∧ d.showable = true ∧ d.hasDict = false ∧ d.depth ≤ 60 ∧ d.shown.length ≤ sizeLine ∧ Q (.str d.shown) H) := by
  intro pins s σ H xs us Q I r h
  obtain ⟨p, d, rfl, hd, hs, hn, hdp, hsz, q⟩ := h
  obtain ⟨u, rfl, hu⟩ := vals1 r
  obtain ⟨as, rd⟩ := Dp.reads I d _ u hd hu
  cases (show u = Value.ref p from hu)
  have hU := hr.units
  refine repr_of_reads' rd hs (fun z => by rw [hn] at z; cases z) hg (by omega) (fun b o e => e) (fun h' u tk hk => ?_) hsz
  exact ⟨.str d.shown, H, I.kept (t' := tk) hk, ⟨_, rfl⟩, q⟩

/-! ### f(k = v, ..), no argument by position -/
section
variable {X : Cx} {CX : CXT} {k : Nat} {f : Addr} {fd : FuncData} {ps ks : List Str} {sp : Sp} {E : XK} {x : Str} {p pos : Pos} {kws : List Keyword} {tk : TA} {g : List Value → List Value → List Value} {gV : List V → List V → List V}
theorem pe_callK0 (F : FnOk X.prog X.w X.K X.mg X.base CX k f fd ps sp) (hr : Room k X.A) (hg : Gl X x) (hm : X.mg x = some (.ref f)) (hk : PySem.W.keepIn X.K (.ref f) = true)
    (hb : KBinds X.K fd ps ks g gV) (hx : Passes CX X E) (hkw : PK X kws tk) (hall : (backToKw pos (keywordEach kws X.env)).all (·.1.isSome) = true := by rfl)
    (hks : (backToKw pos (keywordEach kws X.env)).filterMap (·.1) = ks := by rfl) (hdb : (x == ("__debug__" : Str)) = false := by decide)
    (hpl : (backToKw pos (keywordEach kws X.env)).any (·.1.isNone) = false := by rfl) :
    PE X (.Call (.Name x p) [] kws pos) (tCallK sp gV E tNil tk) := by
  refine ⟨fun pins s σ H Q I h => ?_⟩
  refine wpAny_Call_Name_kw (ld_glob I hg hm ?_ hdb)
  refine PySem.W.callWith_KW0 (h₀ := X.base) I.ok.mod.kin hk hall (thn (hkw.run pos pins s σ H _ I h) fun ws s2 ⟨zs, H2, I2, rz, q2⟩ => ⟨I2.kIn, ?_⟩) hpl
  rw [hks]
  exact run_fnk F hr hb hx I2 .nil rz q2
end

/-! ### a def of which it is known that nothing is being shown around -/
structure FnG (P : Program) (w : World) (K : PySem.W.Frag) (mg : Str → Option Value) (base : Heap) (k : Nat) (f : Addr) (fd : FuncData) (ps : List Str) (sp : Sp) : Prop where
  len : ∀ vs H Q E, sp vs H Q E → vs.length = ps.length
  run : ∀ (A : Around) (outer : List Env) (s : Shared) (H : Hp) (args : Args) (us : List Value) (vs : List V) (Q : VK) (E : XK), A.guards = some [] → Room k A → Env0 P w K mg base A outer s H →
    BindsTo s fd args (ps.zip us) → Vals vs us → sp vs H Q E → codeAny (model P w) A (.call (.ref f) args) (CR CX0 outer P w H s Q E) s
end G
set_option Elab.async false
set_option maxRecDepth 100000
set_option maxHeartbeats 4000000
namespace G
open PySem PySem.Spec PyProof.Rows L2
section
variable {P : Program} {w : World} {K : PySem.W.Frag} {mg : Str → Option Value} {base : Heap}
theorem FnG.mono {j k : Nat} {f : Addr} {fd : FuncData} {ps : List Str} {sp : Sp} (F : FnG P w K mg base j f fd ps sp) (h : j ≤ k) : FnG P w K mg base k f fd ps sp :=
  ⟨F.len, fun A outer s H args us vs Q E hg hr => F.run A outer s H args us vs Q E hg (hr.mono h)⟩
/-- a def of the text, by its body -/
theorem okG {x qual : Str} {st : Stmt} {f : Addr} {fd : FuncData} {N ps : List Str} {k : Nat} {sp : Sp} (F : Fun K x qual st f fd) (S : FnScope N ps (defScope st)) (len : ∀ vs H Q E, sp vs H Q E → vs.length = ps.length)
    (body : ∀ (cdv : Value) (A : Around) (outer : List Env) (s : Shared) (H : Hp) (vs : List V) (Q : VK) (E : XK), A.guards = some [] → Room k (A.deeper (envOfC qual (defScope st) s.heap.objs.size f cdv)) → sp vs H Q E →
      ∃ t, PSs (cxOf CX0 P w K mg base N qual (defScope st) f cdv A outer s H E).nox (defBody st) t ∧ t { nx := fun _ H' => Q .non H', rt := Q } (start N vs) H) :
    FnG P w K mg base (k + 1) f fd ps sp := by
  obtain ⟨oc, od, kV, doc, pm, an, cdv, ct, osl, efd, lk, hcd⟩ := F.ex
  subst efd
  refine ⟨len, fun A outer s H args us vs Q E hg hr e0 hb r hsp => ?_⟩
  refine Att.call_fn (e0.mod.kin.keeps fun b o z => (e0.bs b o z).1) (e0.mod.nolimit.keeps fun b o z => (e0.bs b o z).1) lk hcd hr.depth hb ?_ (fun s1 x => ?_) S.co S.gen S.kind
  · rw [List.all_eq_true]
    rintro ⟨n, v⟩ hy
    rcases S.par n (List.of_mem_zip hy).1 with q | q
    · show (_ == _ || _) = true
      rw [q]
      rfl
    · show (_ || _ == _) = true
      rw [q]
      rfl
  · obtain ⟨t, ht, hq⟩ := body cdv A outer s H vs Q E hg (hr.deeper _) hsp
    have I := inv_start (CX := CX0) (E := E) S hr.hd e0 (len _ _ _ _ hsp) r x
    refine wpAny_mono (ht.nox.run [] s1 (start N vs) H _ I hq) (fun fl s' hs => ?_) fun e s' hs => hs
    cases fl with
    | ret u =>
      obtain ⟨v, σ', H', J, rv, q⟩ := hs
      exact ⟨v, H', J.os, J.bare, J.base, J.hok, rv, q⟩
    | next =>
      obtain ⟨σ', H', J, q⟩ := hs
      exact ⟨V.non, H', J.os, J.bare, J.base, J.hok, rfl, q⟩
    | brk =>
      obtain ⟨_, _, _, q⟩ := hs
      exact False.elim q
    | cont =>
      obtain ⟨_, _, _, q⟩ := hs
      exact False.elim q
/-- a def that does not mind -/
theorem FnG.of {k : Nat} {f : Addr} {fd : FuncData} {ps : List Str} {sp : Sp} (F : FnOk P w K mg base CX0 k f fd ps sp) : FnG P w K mg base k f fd ps sp :=
  ⟨F.len, fun A outer s H args us vs Q E _ => F.run A outer s H args us vs Q E⟩
end
section
variable {X : Cx} {k : Nat} {f : Addr} {fd : FuncData} {ps : List Str} {sp : Sp} {dvs : List V} {ds : List Value} {x : Str} {p pos : Pos} {e : Expr} {es : List Expr} {t : TA}
theorem pe_callG (F : FnG X.prog X.w X.K X.mg X.base k f fd ps sp) (hgu : X.A.guards = some []) (hr : Room k X.A) (hg : Gl X x) (hm : X.mg x = some (.ref f)) (hk : PySem.W.keepIn X.K (.ref f) = true) (hb : Binds X.K fd ps ds) (hd : Vals dvs ds)
    (ha : PA X (e :: es) t) (hdb : (x == ("__debug__" : Str)) = false := by decide) (he : starEach (e :: es) X.env = (false, eval e X.env) :: starEach es X.env := by rfl)
    (hpl : (backTo pos (starEach es X.env)).any (·.1) = false := by rfl) : PE X (.Call (.Name x p) (e :: es) [] pos) (tCall sp dvs E0 t) := by
  refine ⟨fun pins s σ H Q I h => wpAny_Call_Name_kw (ld_glob I hg hm ?_ hdb)⟩
  refine PySem.W.callWith_K (h₀ := X.base) I.ok.mod.kin hk (thn (ha.run pos pins s σ H _ I h) fun us s1 ⟨vs, H1, I1, r, q⟩ => ⟨I1.kIn, ?_⟩) he hpl
  have r2 : Vals (vs ++ dvs) (us ++ ds) := r.append hd
  refine wpAny_call (codeAny_mono (F.run X.A X.stack s1 H1 ⟨us, []⟩ (us ++ ds) (vs ++ dvs) Q E0 hgu hr I1.env0 (hb s1 us I1.kIn (r2.length.symm.trans (F.len _ _ _ _ q))) r2 q) fun r s' hq => ?_)
  match r, hq with
  | .ok (.ret u), hq => exact I1.after hq
end
/-! ### the law's own call -/
/-- what is tracked ahead of the law: the script, where it is none of the module's own objects -/
def scr (K : PySem.W.Frag) (a : Addr) (vs : List Value) (ns : List Int) : Hp := fun b => if b = a ∧ K.lookup a = none then some (.frz { cls := .type "list", data := .seq vs.toArray } (.lst (ns.map V.int))) else none
theorem scr_or (K : PySem.W.Frag) (a : Addr) (vs : List Value) (ns : List Int) (b : Addr) :
    scr K a vs ns b = none ∨ (b = a ∧ K.lookup a = none ∧ scr K a vs ns b = some (.frz { cls := .type "list", data := .seq vs.toArray } (.lst (ns.map V.int)))) := by
  by_cases h : b = a ∧ K.lookup a = none
  · exact .inr ⟨h.1, h.2, if_pos h⟩
  · exact .inl (if_neg h)
section
variable {P : Program} {w : World} {K : PySem.W.Frag} {mg mb : Str → Option Value} {k : Nat} {fa a : Addr} {fd : FuncData} {x : Str} {sp : Sp} {s₁ : Shared} {vs : List Value} {ns : List Int}
theorem law_runs (KX : K.In s₁.heap) (hns : s₁.heap.Ns mainGlobals mg) (hb : s₁.heap.Ns builtinsNs mb) (hbb : ∀ x : Str, x ≠ "__name__" → mb x = bootBuiltins x) (hlim : s₁.heap.NoLimit) (hg : s₁.gens = #[])
    (ha : s₁.heap.get? a = some { cls := .type "list", data := .seq vs.toArray }) (hi : IntsAre vs ns) (hl : ns.length ≤ sizeLine) (hr : Room k callerA)
    (F : ∀ base : Heap, K.In base → base.Ns mainGlobals mg → FnG P w K mg base k fa fd [x] sp) (hbind : ∀ (s : Shared) (u : Value), BindsTo s fd ⟨[u], []⟩ [(x, u)])
    (hsp : ∀ H : Hp, SqL K H a (ns.map V.int) → sp [.ref a] H (fun v _ => v = .bl true) fun _ _ _ => False) :
    codeAny (model P w) callerA (.call (.ref fa) ⟨[.ref a], []⟩) (fun r s' => r = .ok (.ret (.bool true)) ∧ OldK s₁.heap s'.heap ∧ s'.os = s₁.os ∧ AllBare s'.gens) s₁ := by
  have tell := scr_or K a vs ns
  have rv := vals_ints hi
  have sees : SqL K (scr K a vs ns) a (ns.map V.int) := by
    cases hk : K.lookup a with
    | none => exact .inl (.inr ⟨_, if_pos ⟨rfl, hk⟩⟩)
    | some o =>
      have e := ha.symm.trans (KX a o hk)
      cases e
      exact .inr ⟨_, vs.toArray, _, hk, rfl, rfl, rfl, by rw [List.size_toArray, hi.length]; exact hl, by simpa using rv⟩
  have okH : HOk P w (scr K a vs ns) s₁.heap := fun b u z => by
    rcases tell b with q | ⟨rfl, _, q⟩
    · cases q.symm.trans z
    · cases q.symm.trans z
      exact ⟨ha, by rw [List.length_map]; exact hl, vs, _, rv, ha⟩
  have low : ∀ {b : Addr} {m : Str → Option Value}, s₁.heap.Ns b m → (hidT s₁.heap (scr K a vs ns)).Ns b m := by
    rintro b m ⟨o, es, ep, e, d, r⟩
    refine ⟨o, es, ep, hidT_get e ?_, d, r⟩
    rcases tell b with q | ⟨rfl, _, _⟩
    · exact q
    · cases ha.symm.trans e
      cases d
  have lowK : K.In (hidT s₁.heap (scr K a vs ns)) := fun b o e => hidT_get (KX b o e) (by
    rcases tell b with q | ⟨rfl, z, _⟩
    · exact q
    · cases z.symm.trans e)
  obtain ⟨mc, c1, c2⟩ := hlim
  have e0 : Env0 P w K mg (hidT s₁.heap (scr K a vs ns)) callerA [] s₁ (scr K a vs ns) :=
    { frames := rfl, mod := ⟨lowK, low hns, ⟨mb, low hb, hbb⟩, ⟨mc, low c1, c2⟩⟩, bs := fun b o e => of_hidT e, bsz := Nat.le_of_eq (hidT_size _ _), funs := trivial,
      frf := fun b z => (List.not_mem_nil (show b ∈ ([] : List Addr) from z)).elim, hok := okH, bare := .of_eq hg }
  refine codeAny_mono ((F _ lowK (low hns)).run callerA [] s₁ _ ⟨[.ref a], []⟩ [.ref a] [.ref a] _ _ rfl hr e0 (hbind s₁ (.ref a)) (.cons rfl .nil) (hsp _ sees)) fun r s' h => ?_
  match r, h with
  | .ok (.ret u), ⟨v, H', os, bare, un, hok', r', q⟩ =>
    subst q
    cases (show u = Value.bool true from r')
    refine ⟨rfl, OldK.of_keep fun b o e => ?_, os, bare⟩
    rcases tell b with z | ⟨rfl, _, z⟩
    · exact un.keep b o e z (fun z => List.not_mem_nil (show b ∈ ([] : List Addr) from z)) List.not_mem_nil
    · cases ha.symm.trans e
      exact (hok' b _ (un.frzs b _ _ z)).1
end
theorem walk_G {l : PySem.W.OpenLaw} {n k : Nat} {q : Program} {loose : List Str} {XP : (Str → Option Value) → Heap → Prop} {YP : World → Heap → Prop} {d : DefRec} {K : Params → PySem.W.Frag} {sp : PySem.W.Frag → Sp} {x : Str}
    (hn : l.most = some n) (hn2 : n ≤ sizeLine) (hdf : d.params.defaults = []) (hr : Room k callerA) (hY : ∀ (w : World) (h : Heap), YP w h → (K w.params).In h)
    (F : ∀ (w : World) (mg : Str → Option Value) (fa : Addr) (h : Heap), (K w.params).In h → h.Ns mainGlobals mg → mg d.name = some (.ref fa) →
      ∃ fd : FuncData, (∀ (s : Shared) (u : Value), BindsTo s fd ⟨[u], []⟩ [(x, u)]) ∧ ∀ base : Heap, (K w.params).In base → base.Ns mainGlobals mg → FnG l.prog w (K w.params) mg base k fa fd [x] (sp (K w.params)))
    (hsp : ∀ (K : PySem.W.Frag) (H : Hp) (a : Addr) (ns : List Int), ns.length ≤ n → SqL K H a (ns.map V.int) → sp K [.ref a] H (fun v _ => v = .bl true) fun _ _ _ => False) :
    PySem.W.WalkO q loose XP YP l.row.toRowW d [] (fun f vs => PySem.call f vs) := by
  refine Att.attach_call hn hdf fun w s₀ s₁ mg mb fa o pm cd doc a vs ns G Y ho hd hcd hmg hobj hints hlen hg => ?_
  obtain ⟨fd, hb, hF⟩ := F w mg fa _ (hY w _ Y) G.T.g hmg
  exact law_runs (hY w _ Y) G.T.g G.T.b G.T.builtins G.T.nolimit hg hobj hints (Nat.le_trans hlen hn2) hr hF hb fun H hS => hsp _ H a ns hlen hS
end G
set_option Elab.async false
set_option maxRecDepth 100000
set_option maxHeartbeats 4000000
/-! d.update(e), sorted(d) -/
namespace G
open PySem PySem.Spec PyProof.Rows L2
section
variable {X : Cx}
theorem mt_dupd : MtR X "dict.update" (fun x xs H Q => ∃ (a b : Addr) (kvs more : List (Key × V)), x = .ref a ∧ xs = [.ref b] ∧ H a = some (.dK kvs) ∧ H b = some (.dK more) ∧ a ≠ b ∧ kvs.length + more.length ≤ sizeLine ∧ Q .non (upd H a (.dK (mergeK kvs more)))) := by
  intro pins s σ H x xs v us Q I rx rxs h
  obtain ⟨a, b, kvs, more, rfl, rfl, ha, hb, hne, hsz, q⟩ := h
  cases rx
  obtain ⟨u, rfl, ru⟩ := vals1 rxs
  cases (show u = Value.ref b from ru)
  obtain ⟨z1, lo1, vs, rel1, dd1⟩ := dk_of I.hok ha
  obtain ⟨z2, lo2, ws, rel2, dd2⟩ := dk_of I.hok hb
  refine call_meetsIn PySem.F.slot_dict_update dd1.typeIs PySem.F.entry_dict_update (PySem.F.args_dict_update_2 _ _) (meets_dict_update (mixKind X.prog X.w) a b hne lo2)
    ⟨vs, ws, dd1, dd2, by rw [← rel1.length, ← rel2.length]; exact hsz, fun h' hd' _ hs => ?_⟩
  have he : ∃ q, h'.get? a = some q := let ⟨q, _, _, hq, _⟩ := hd'; ⟨q, hq⟩
  exact ⟨.non, _, d_write (t' := s.toks) I (by rw [ha]; exact True.intro) hs he (dk_new (Nat.le_trans (length_mergeK more kvs) hsz) lo1 (KV.merge rel2 rel1) hd'), rfl, q⟩
/-- sorted(d), a dict of ints of any length -/
theorem cr_sortedAny (hcalm : X.calm = true) : CallR X (.builtin "sorted") (fun xs H Q => ∃ (a : Addr) (kvs : List (Key × V)) (ks : List Int), xs = [.ref a] ∧ Rd H a (.dK kvs) ∧ kvs.map (·.1) = ks.map Sum.inl ∧
    ∀ (ys : List Int) (p : Addr), ys.Perm ks → ys.Pairwise (· ≤ ·) → H p = none → Q (.ref p) (upd H p (.lst (ys.map V.int)))) := by
  intro pins s σ H xs us Q I r ⟨a, kvs, ks, ex, hd, hks, q⟩
  subst ex
  obtain ⟨u, rfl, rx⟩ := vals1 r
  cases (show u = Value.ref a from rx)
  obtain ⟨z, lo, vs, rel, dd⟩ := dk_rd I.hok hd
  obtain ⟨ep, hat⟩ := dd.dictAt
  have hkeys : vs.map (·.1) = ks.map Sum.inl := rel.keys.symm.trans hks
  have hl : vs.length = ks.length := by simpa using congrArg List.length hkeys
  have h16 : vs.length ≤ sizeLine := rel.length ▸ z
  refine Calls.call_function_entry PyProof.Rows.kind_sorted PyProof.Rows.plain_sorted PyProof.Rows.entry_sorted (PyProof.Rows.args_sorted1 _) ?_
  refine wpAny_bind (m := checkCount "sorted" 1 1 _) (wpAny_pure (wpAny_bind (PySem.W.kdu_collect (A := X.A.in1) (PySem.W.kdl_dict (knd := mixKind X.prog X.w) (kvs := vs) (ep := ep) lo) (I.ok.hd hcalm) hat h16 fun h' tk acc hk hacc => ?_)))
  have hal : acc.toList.length = ks.length := by rw [Array.length_toList, hacc.1, hl]
  have hS : IntsAre acc.toList ks := ints_each hal fun j v e => by
    obtain ⟨k, x, e1, e2⟩ := hacc.2 j v ((Array.getElem?_toList ..).symm.trans e)
    have e3 : (ks.map (Sum.inl : Int → Key))[j]? = some k := by rw [← hkeys, List.getElem?_map, e1]; rfl
    rw [List.getElem?_map] at e3
    obtain ⟨y, e4, e5⟩ := Option.map_eq_some_iff.mp e3
    subst e5
    rcases keyIs_shape (show keyIs (Sum.inl y) v = true from e2) with ⟨i, t, ek, ev⟩ | ⟨z, t, ek, ev⟩
    · cases ek
      exact ⟨y, t, e4, ev⟩
    · cases ek
  have I1 : Inv X pins σ H { s with heap := h', toks := tk } := I.kept hk
  refine wpAny_bind (wpAny_newList ?_ (by rw [hal, ← hl]; exact h16))
  have hoL : (h'.push (seqObj "list" acc.toList.toArray 0)).get? h'.objs.size = some (seqObj "list" acc.toList.toArray 0) := Heap.get?_push_size _ rfl
  refine wpAny_bind (s := { s with heap := h'.push (seqObj "list" acc.toList.toArray 0), toks := tk }) (wpAny_holding (wpAny_call_entry PyProof.Rows.slot_list_sort ⟨_, hoL, rfl⟩ PyProof.Rows.entry_list_sort
    (SrtO.list_sort_ord (s := { s with heap := h'.push (seqObj "list" acc.toList.toArray 0), toks := tk }) SrtO.swo_int hoL (by rw [hal, ← hl]; exact h16) (fun h2 => SrtO.ints_sortable hS h2) fun out s1 s2 => ⟨_, rfl, ?_⟩) (PyProof.Rows.args_list_sort _)))
  obtain ⟨g1, g2, g3⟩ := SrtO.ints_out hS s1 s2
  obtain ⟨e', he'⟩ := PyProof.Rows.sortedHeap_at (vs := acc.toList) (out := out.toArray) hoL
  have hlen : ((out.map SrtO.iv).map V.int).length ≤ sizeLine := by
    rw [List.length_map, g2.length_eq, ← hl]
    exact h16
  refine wpAny_pure ⟨_, rfl, .ref h'.objs.size, upd H h'.objs.size (.lst ((out.map SrtO.iv).map V.int)), I1.laid (t' := tk) (fun b u e => ?_) (Nat.le_refl _)
    (show ObjOk X.prog X.w _ _ _ (.lst ((out.map SrtO.iv).map V.int)) from ⟨hlen, out, e', vals_of_ints g1, he'⟩), rfl, q _ _ g2 g3 (I1.hok.fresh (Nat.le_refl _))⟩
  have hb : b < h'.objs.size := Heap.lt_size e
  rw [PyProof.Rows.sortedHeap_old (Nat.ne_of_lt hb) (by rw [size_push']; exact Nat.lt_succ_of_lt hb)]
  exact Heap.get?_push_of_some _ e
end
end G
set_option Elab.async false
set_option maxRecDepth 100000
set_option maxHeartbeats 8000000
/-! set(a list of ints), and sorted of a set of ints of any length -/
namespace G
open PySem PySem.Spec PyProof.Rows L2
/-- the new set, empty -/
abbrev nob (w : World) : Obj := { cls := .type "set", dict := none, data := .set #[] 0 (.fresh 0 0 (!w.params.followText "set-order")) }
/-- what stands at the set's place when all is in -/
abbrev Filled (w : World) (s : Shared) (ns : List Int) (r : Value) (s2 : Shared) : Prop :=
  r = .none ∧ ∃ (h' : Heap) (tk c : Nat), s2 = { s with heap := h', toks := tk } ∧ SetR w h' s.heap.objs.size (fun j => decide (j ∈ ns)) c ∧ c ≤ ns.length ∧ ∀ b o, s.heap.get? b = some o → h'.get? b = some o
section
variable {P : Program} {w : World} {A : Around} {E : Value → Shared → Prop} {s : Shared}
/-- the loop over the list's iterator, from the empty set -/
theorem fill_lst {l : Addr} {items : Array Value} {ns : List Int} {R : Result → Shared → Prop} (hh : A.handled = none) (hl : s.heap.IsList l items) (hit : IntsAre items.toList ns) (hb : ns.length + 1 < scanBound)
    (hR : ∀ s2, Filled w s ns .none s2 → R (.ok (.ret .none)) s2) :
    codeAny (model P w) A (.builtin "set.update.loop" ⟨[.ref s.heap.objs.size, .ref (s.heap.push (nob w)).objs.size], []⟩) R
      { s with heap := (s.heap.push (nob w)).push { cls := .type "list_iterator", data := .fields #[.ref l, .int 0 0] } } := by
  have n1 : items.size = ns.length := by
    have q := IntsAre.length hit
    rwa [Array.length_toList] at q
  have lS : l < s.heap.objs.size := hl.elim fun o q => Heap.lt_size q.1
  have z1 : (s.heap.push (nob w)).objs.size = s.heap.objs.size + 1 := Heap.size_push ..
  have lI : l ≠ (s.heap.push (nob w)).objs.size := fun z => Nat.lt_irrefl _ (Nat.lt_of_lt_of_le lS (by rw [z, z1]; exact Nat.le_succ _))
  have out : s.heap.objs.size ∉ [(s.heap.push (nob w)).objs.size, l] := fun z => by
    rcases List.mem_cons.mp z with e | e
    · exact Nat.ne_of_lt (Nat.lt_succ_self _) (e.trans z1)
    · exact Nat.ne_of_gt lS (List.mem_singleton.mp e)
  have vals : ∀ (i : Nat) (v : Value), items[i]? = some v → ∃ k t, ns[i]? = some k ∧ v = .int k t := fun i v hv => by
    obtain ⟨t, e⟩ := PyProof.Rows.IntsAre.int_at hit i v (Array.getElem?_toList .. |>.trans hv)
    have hi : i < ns.length := n1 ▸ (Array.getElem?_eq_some_iff.mp hv).1
    exact ⟨ns[i], t, List.getElem?_eq_getElem hi, e.trans (by rw [List.getD_eq_getElem?_getD, List.getElem?_eq_getElem hi]; rfl)⟩
  have nb : ((s.heap.push (nob w)).push { cls := .type "list_iterator", data := .fields #[.ref l, .int 0 0] }).get? s.heap.objs.size = some (nob w) := Heap.get?_push_of_some _ (Heap.get?_push_size _ rfl)
  refine set_update_ints (P := P) ((Walks.list (show A.in1.handled = none from hh) _ l lI items).toS) s.heap.objs.size out ns n1 hb vals (items.size - 0) 0 _ rfl (Nat.zero_le _) ⟨⟨_, Heap.get?_push_size _ rfl, rfl, rfl⟩, ((hl.push _).push _)⟩ ⟨0, Nat.le_refl 0, setR_new_at nb⟩ fun s2 c hm hc hs => hR s2 ?_
  obtain ⟨h', g2, d', tk', os'⟩ := s2
  obtain rfl : g2 = s.gens := hm.gens
  obtain rfl : d' = s.drawn := hm.drawn
  obtain rfl : os' = s.os := hm.os
  refine ⟨rfl, h', tk', c, rfl, hs, n1 ▸ hc, fun b o e => hm.heap b o (fun z => ?_) (Heap.get?_push_of_some _ (Heap.get?_push_of_some _ e))⟩
  have b0 := Heap.lt_size e
  rcases List.mem_cons.mp z with q | q
  · exact Nat.ne_of_lt b0 q
  · exact Nat.ne_of_lt (Nat.lt_succ_of_lt b0) ((List.mem_singleton.mp q).trans z1)
/-- the call's second half: set.__init__ of the new object -/
theorem init_lst {l : Addr} {items : Array Value} {ns : List Int} (hh : A.handled = none) (hl : s.heap.IsList l items) (hit : IntsAre items.toList ns) (hb : ns.length + 1 < scanBound) :
    codeAny (model P w) A (.call (.builtin "set.__init__") ⟨[.ref s.heap.objs.size, .ref l], []⟩) (wants (Filled w s ns) E) { s with heap := s.heap.push (nob w) } := by
  have isN : (s.heap.push (nob w)).get? s.heap.objs.size = some (nob w) := Heap.get?_push_size _ rfl
  refine codeAny_call_builtin (R := wants (Filled w s ns) E) F.called_set.init.plain F.entry_set_init (check_set_init_1 (⟨_, isN, rfl⟩ : Shared.TypeIs { s with heap := s.heap.push (nob w) } (.ref s.heap.objs.size) "set") ?_)
  have hl0 := hl
  obtain ⟨⟨cl, di, da, sl⟩, ol, cl2, n0, da2⟩ := hl
  simp only at cl2 da2
  subst cl2 da2
  have ol' := Heap.get?_push_of_some (nob w) ol
  have s1 := F.sub_list_set; have s2 := F.sub_list_frozenset
  have ne : (Value.type "list" == Value.type "dict") = false := by decide
  have hl1 : (s.heap.push (nob w)).IsList l items := hl0.push _
  unfold Builtin.«set.__init__» noKeywords Builtin.Frozenset.updateFrom
  generalize hPI : pyIter = PI
  wp_walk
  subst hPI
  refine wpAny_pyIter_list hl1 (wpAny_bind (wpAny_runValue (fill_lst (by simp [hh]) hl0 hit hb fun s2 hF => ?_)))
  show wpAny _ _ _ _ _ _
  refine wpAny_pure (show wpAny _ _ (ret Value.none) _ _ _ from wpAny_pure hF)
/-- set(list of ints) -/
theorem call_set_lst {l : Addr} {items : Array Value} {ns : List Int} {Q : Value → Shared → Prop} (hh : A.handled = none) (hl : s.heap.IsList l items) (hit : IntsAre items.toList ns) (hb : ns.length + 1 < scanBound)
    (hQ : ∀ s2, Filled w s ns .none s2 → Q (.ref s.heap.objs.size) s2) : wpAny (model P w) A (call (.type "set") [.ref l]) Q E s := by
  obtain ⟨c0, t0, mro0⟩ := F.called_set.mro
  have made0 := F.called_set.made; have sub0 := F.called_set.sub
  refine wpAny_call (codeAny_of_tree (show wpAny _ _ (callAny (.type "set") _) _ _ _ from wpAny_pure ⟨Code.quiet_builtin _ (by decide +kernel), codeAny_builtin F.entry_type_call ?_⟩))
  rw [show _ = _ from Around.under_plain (weight_type_call_type "set" [.ref l] []) rfl]
  have t1 := F.called_set.notType; have t2 := F.called_set.canCreate; have t3 := F.typeCall_set_1 (.ref l)
  repeat (any_goals (first | assumption | wp_step))
  refine codeAny_mono (code_set_led1 (.ref l) (E := E) (Q₁ := fun obj s1 => obj = .ref s.heap.objs.size ∧ s1 = { s with heap := s.heap.push (nob w) }) ⟨rfl, rfl⟩) fun r s1 hr => ?_
  rcases r with er | fl
  · exact hr
  cases fl with
  | ret obj =>
    obtain ⟨rfl, rfl⟩ := hr
    have isN : (s.heap.push (nob w)).get? s.heap.objs.size = some (nob w) := Heap.get?_push_size _ rfl
    have hT : Shared.TypeIs { s with heap := s.heap.push (nob w) } (.ref s.heap.objs.size) "set" := ⟨_, isN, rfl⟩
    have i1 := F.called_set.init.lookup; have i2 := F.called_set.init.bind (.ref s.heap.objs.size)
    repeat (any_goals (first | assumption | wp_step))
    refine codeAny_mono (init_lst (P := P) (w := w) (E := E) (by simpa using hh) hl hit hb) fun r2 s2 hr2 => ?_
    rcases r2 with er | fl2
    · exact hr2
    cases fl2 with
    | ret r =>
      obtain ⟨rfl, hF⟩ := hr2
      repeat (any_goals (first | assumption | wp_step))
      exact hQ _ ⟨rfl, hF⟩
    | _ => exact hr2.elim
  | _ => exact hr.elim
end
end G
set_option Elab.async false
set_option maxRecDepth 100000
set_option maxHeartbeats 8000000
namespace G
open PySem PySem.Spec PyProof.Rows L2
section
variable {X : Cx}
def rSetL (K : PySem.W.Frag) (w : World) : List V → Hp → VK → Prop := fun xs H Q => ∃ (p : Addr) (ns : List Int), xs = [.ref p] ∧ SqL K H p (ns.map V.int) ∧ ns.length ≤ 4000 ∧
  ∀ (a : Addr) (n : Nat), H a = none → n ≤ ns.length → Q (.ref a) (upd H a (SetO w a (fun j => decide (j ∈ ns)) n))
theorem cr_setL (hc : X.calm = true) : CallR X (.type "set") (rSetL X.K X.w) := by
  intro pins s σ H xs us Q I r h
  obtain ⟨p, ns, rfl, hs, hl, q⟩ := h
  obtain ⟨its, rv, pl, hz⟩ := I.list hs
  rw [Vals.ref1 r]
  refine call_set_lst (I.ok.hd hc) pl.isList (by simpa using RZ.intsAre_vals rv) (by unfold scanBound; omega) fun s2 hF => ?_
  obtain ⟨_, h', tk, c, rfl, hS, hcl, hk⟩ := hF
  exact ⟨.ref _, upd H s.heap.objs.size (SetO X.w s.heap.objs.size (fun j => decide (j ∈ ns)) c), I.laid (t' := tk) hk (Nat.le_refl _) (setO_new hS), rfl, q _ c (I.hok.fresh (Nat.le_refl _)) hcl⟩
/-- sorted(set of ints), of any length -/
def rSortSet (w : World) : List V → Hp → VK → Prop := fun vs H Q => ∃ (a : Addr) (S : Int → Bool) (n : Nat), vs = [V.ref a] ∧ H a = some (SetO w a S n) ∧
  ∀ (ns : List Int) (p : Addr), ns.Pairwise (· < ·) → (∀ k : Int, k ∈ ns ↔ S k = true) → H p = none → Q (.ref p) (upd H p (.lst (ns.map V.int)))
theorem cr_sortSet (hc : X.calm = true) : CallR X (.builtin "sorted") (rSortSet X.w) := by
  intro pins s σ H vs us Q I r h
  obtain ⟨a, S, n, rfl, ha, q⟩ := h
  obtain ⟨o, es, ep, t, ho, hex, hd, gd, nd, mem, hb, hf, hn, ris, led⟩ := setO_get I ha
  rw [Vals.ref1 r]
  refine Calls.call_function_entry PyProof.Rows.kind_sorted PyProof.Rows.plain_sorted PyProof.Rows.entry_sorted (PyProof.Rows.args_sorted1 _) ?_
  refine wpAny_bind (m := checkCount "sorted" 1 1 _) (wpAny_pure (wpAny_bind (collect_set (A := X.A.in1) (I.ok.hd hc) ⟨o, ho, hex.1, hd⟩ hf hb ris led fun s1 ws k1 hz e1 e2 pm => ?_)))
  have hw : ws.length = es.size := by rw [pm.length_eq, List.length_map, Array.length_toList]
  have hws : ws.length ≤ sizeLine := by
    rw [hw, sizeLine_eq]
    unfold scanBound at hb
    omega
  have hI : IntsAre ws (ws.map Builtin.Re.reRawOf) := ints_of ws fun v hv => by
    obtain ⟨e, he, rfl⟩ := List.mem_map.mp (pm.mem_iff.mp hv)
    exact (gd e he).elim fun k z => z.elim fun tk y => ⟨k, tk, y.1⟩
  have pk := pm.map Builtin.Re.reRawOf
  rw [List.map_map] at pk
  have pk : (ws.map Builtin.Re.reRawOf).Perm (es.toList.map keyOf) := pk
  have hoL : (s1.heap.push (seqObj "list" ws.toArray 0)).get? s1.heap.objs.size = some (seqObj "list" ws.toArray 0) := Heap.get?_push_size _ rfl
  refine wpAny_bind (wpAny_newList ?_ hws)
  refine wpAny_bind (s := { s1 with heap := s1.heap.push (seqObj "list" ws.toArray 0) }) (wpAny_holding (wpAny_call_entry PyProof.Rows.slot_list_sort ⟨_, hoL, rfl⟩ PyProof.Rows.entry_list_sort
    (SrtO.list_sort_ord (s := { s1 with heap := s1.heap.push (seqObj "list" ws.toArray 0) }) SrtO.swo_int hoL hws (fun h2 => SrtO.ints_sortable hI h2) fun out a1 a2 => ⟨_, rfl, ?_⟩) (PyProof.Rows.args_list_sort _)))
  obtain ⟨b1, b2, b3⟩ := SrtO.ints_out hI a1 a2
  obtain ⟨e', he'⟩ := PyProof.Rows.sortedHeap_at (vs := ws) (out := out.toArray) hoL
  have pn : (out.map SrtO.iv).Perm (es.toList.map keyOf) := b2.trans pk
  have hlen : ((out.map SrtO.iv).map V.int).length ≤ sizeLine := by
    rw [List.length_map, b2.length_eq, List.length_map]
    exact hws
  have kp : ∀ b u, s.heap.get? b = some u → (PyProof.Rows.sortedHeap (s1.heap.push (seqObj "list" ws.toArray 0)) s1.heap.objs.size ws out.toArray).get? b = some u := fun b u e => by
    have hb := Heap.lt_size (k1 b u e)
    rw [PyProof.Rows.sortedHeap_old (Nat.ne_of_lt hb) (by rw [size_push']; exact Nat.lt_succ_of_lt hb)]
    exact Heap.get?_push_of_some _ (k1 b u e)
  have hn : H s1.heap.objs.size = none := I.hok.fresh hz
  have J : Inv X pins σ (upd H s1.heap.objs.size (.lst ((out.map SrtO.iv).map V.int))) { s with heap := PyProof.Rows.sortedHeap (s1.heap.push (seqObj "list" ws.toArray 0)) s1.heap.objs.size ws out.toArray, gens := s1.gens, drawn := s1.drawn, toks := s1.toks } :=
    I.call (ch := []) (Un.laid kp hz hn) (I.hok.laid kp hz ⟨hlen, out, e', vals_of_ints b1, he'⟩) (by rw [e1]; exact I.bare) (fun _ z => nomatch z)
  refine wpAny_pure ⟨_, rfl, .ref s1.heap.objs.size, _, ?_, rfl, q _ _ (lt_of_le_nodup _ b3 (pn.nodup_iff.mpr nd)) (fun k => by rw [pn.mem_iff, ← mem k]) hn⟩
  cases s1
  cases s
  cases e2
  exact J
end
end G
set_option Elab.async false
set_option maxRecDepth 100000
set_option maxHeartbeats 4000000
/-! own exceptions whose __init__ calls the base's by its class -/
namespace G
open PySem PySem.Spec PyProof.Rows L2
/-- the def fI stands in the class C under n -/
structure ClsFn (K : PySem.W.Frag) (C fI : Addr) (n : Str) : Prop where
  ga : PySem.W.specialIn K (.ref C) "__getattribute__" = some (some (.builtin "type.__getattribute__"))
  rd : PySem.W.readsIn K C (.type "type") = true
  at_ : PySem.W.findCls K (.ref C) (.type "type") n = some (.val (.ref fI))
  kp : PySem.W.keepIn K (.ref fI) = true
section
variable {X : Cx} {CX : CXT} {k : Nat} {C fI : Addr} {fd : FuncData} {ps : List Str} {sp : Sp} {dvs : List V} {ds : List Value} {E : XK} {x n : Str} {p1 p2 pos : Pos} {e : Expr} {es : List Expr} {t : TA}
/-- C.n(e, ..) -/
theorem pe_clsfn {pl : Sem Bool} (F : FnOk X.prog X.w X.K X.mg X.base CX k fI fd ps sp) (hr : Room k X.A) (c : ClsFn X.K C fI n) (hg : Gl X x) (hm : X.mg x = some (.ref C)) (hb : Binds X.K fd ps ds) (hd : Vals dvs ds) (hx : Passes CX X E) (ha : PA X (e :: es) t)
    (hc : eval (.Call (.Attribute (.Name x p1) n p2) (e :: es) [] pos) X.env = (do
      let ov ← eval (.Name x p1) X.env
      standAt p2.atName
      let (f, first) ← holding [ov] (getMethod ov n pl)
      callWith pos f first (backTo pos (starEach (e :: es) X.env)) (backToKw pos (keywordEach [] X.env))) := by rfl)
    (hdb : (x == ("__debug__" : Str)) = false := by decide) (he : starEach (e :: es) X.env = (false, eval e X.env) :: starEach es X.env := by rfl) (hpl : (backTo pos (starEach es X.env)).any (·.1) = false := by rfl) :
    PE X (.Call (.Attribute (.Name x p1) n p2) (e :: es) [] pos) (tCall sp dvs E t) := by
  refine ⟨fun pins s σ H Q I h => ?_⟩
  refine PySem.W.methodCall_KW (ld_glob I hg hm ?_ hdb) hc
  refine PySem.W.method_cls I.kIn c.ga (PySem.W.cls_value I.kIn c.rd c.at_ (handed_of (v := .ref fI) rfl) ?_)
  refine PySem.W.callWith_K (h₀ := X.base) I.ok.mod.kin c.kp (thn (ha.run pos pins _ σ H _ (I.tok _) h) fun us s1 ⟨vs, H1, I1, r, q⟩ => ⟨I1.kIn, ?_⟩) he hpl
  exact run_fn F hr hb hd hx I1 r q
end
/-- a def of the text that may have defaults -/
structure FunD (K : PySem.W.Frag) (x qual : Str) (st : Stmt) (f : Addr) (fd : FuncData) : Prop where
  ex : ∃ (oc : Value) (od : Option Addr) (dV kV doc pm : Value) (an : Option Addr) (cdv ct : Value) (osl : Array (Option Value)),
    fd = PySem.W.fnOf x qual (defArgs st) (defBody st) (defScope st) dV kV doc pm an cdv ct ∧ K.lookup f = some ⟨oc, od, .func fd, osl⟩ ∧ PySem.W.codeIn K cdv qual = true
/-- what __init__(self, value) leaves: the field -/
def spInit : PySem.W.Frag → Sp := fun K vs H Q _ => ∃ (a C : Addr) (v : V), vs = [.ref a, v] ∧ OexC K C ∧ PySem.W.findIn K (.ref C) "value" = some none ∧ H a = some (exo a C none) ∧
  ∀ dx, H dx = none → dx ≠ a → Q .non (upd (upd H dx (exd dx [("value", v)])) a (exo a C (some dx)))
section
variable {P : Program} {w : World} {K : PySem.W.Frag} {mg : Str → Option Value} {base : Heap}
/-- such a def by its body -/
theorem FunD.ok {x qual : Str} {st : Stmt} {f : Addr} {fd : FuncData} {N ps : List Str} {k : Nat} {sp : Sp} (F : FunD K x qual st f fd) (S : FnScope N ps (defScope st)) (len : ∀ vs H Q E, sp vs H Q E → vs.length = ps.length)
    (body : ∀ (cdv : Value) (A : Around) (outer : List Env) (s : Shared) (H : Hp) (vs : List V) (Q : VK) (E : XK), Room k (A.deeper (envOfC qual (defScope st) s.heap.objs.size f cdv)) → sp vs H Q E →
      ∃ t, PSs (cxOf CX0 P w K mg base N qual (defScope st) f cdv A outer s H E).nox (defBody st) t ∧ t { nx := fun _ H' => Q .non H', rt := Q } (start N vs) H) : FnOk P w K mg base CX0 (k + 1) f fd ps sp := by
  obtain ⟨oc, od, dV, kV, doc, pm, an, cdv, ct, osl, rfl, lk, hcd⟩ := F.ex
  refine fn_of lk hcd S len fun A outer s H vs Q E hr h => ?_
  obtain ⟨t, h1, h2⟩ := body cdv A outer s H vs Q E hr h
  exact ⟨t, h1.nox, h2⟩
end
/-- what is raised: the class, its value -/
def Flies (C : Addr) (v : V) (E : XK) (H : Hp) : Prop := ∀ (d : Addr) (H' : Hp), (∀ b u, H b = some u → H' b = some u) → H d = none → H' d = some (.xd [("value", v)]) → E (.ref C) (some d) H'
theorem mkO_of {K : PySem.W.Frag} {C : Addr} {v : V} {E : XK} {H1 : Hp} (T : OexC K C) (hno : PySem.W.findIn K (.ref C) "value" = some none) (h : Flies C v E H1) : ([v] : List V).length ≤ 1000 ∧ ∀ a, H1 a = none →
    spInit K (.ref a :: ([v] ++ [])) (upd H1 a (exo a C none)) (fun u H2 => u = .non ∧ ∃ (d : Addr) (fs : List (Str × V)), H2 a = some (exo a C (some d)) ∧ H2 d = some (exd d fs) ∧ H1 d = none ∧ E (.ref C) (some d) (upd (del H2 a) d (.xd fs))) (fun _ _ _ => False) := by
  refine ⟨by show 1 ≤ 1000; decide, fun a ha => ⟨a, C, v, rfl, T, hno, upd_same, fun dx hdx ne => ?_⟩⟩
  rw [upd_ne ne] at hdx
  refine ⟨rfl, dx, [("value", v)], upd_same, (upd_ne ne).trans upd_same, hdx, h dx _ (fun b u e => ?_) hdx upd_same⟩
  have n1 := ne_of_none e hdx
  have n2 := ne_of_none e ha
  rw [upd_ne n1, del_ne n2, upd_ne n2, upd_ne n1, upd_ne n2]
  exact e
end G
set_option Elab.async false
set_option maxRecDepth 100000
set_option maxHeartbeats 4000000
/-! an own exception made of no argument -/
namespace L2
open PySem PySem.Spec PyProof.Rows
section
variable {X : Cx} {p pos : Pos}
theorem pmk_oex0 {CX : CXT} {x : Str} {C fI : Addr} {k : Nat} {fd : FuncData} {ps : List Str} {sp : Sp} {ds : List Value} {dvs : List V} (T : OexC X.K C) (iC : PySem.W.findIn X.K (.ref C) "__init__" = some (some (.ref fI))) (tI : PySem.W.typeIn X.K (.ref fI) = some (.type "function"))
    (F1 : FnOk X.prog X.w X.K X.mg X.base CX k fI fd ps sp) (hr : Room (k + 1) X.A) (hb : Binds X.K fd ps ds) (hd : Vals dvs ds) (hx : Passes CX X (fun _ _ _ => False)) (hg : Gl X x) (hm : X.mg x = some (.ref C))
    (hdb : (x == ("__debug__" : Str)) = false := by decide) :
    PMk X (.Call (.Name x p) [] [] pos) (tMkO C sp dvs tNil) := by
  intro pins s σ H Q I h
  obtain ⟨nm, q, N, bs, bm, sn, sub, ab, col, dd, k0, k1, k2, k3, k5, hC, hbm⟩ := T.cls
  refine wpAny_Call_Name_kw (ld_glob I hg hm ?_ hdb)
  refine PySem.W.callWith_K0 I.kIn T.kC ?_
  show wpAny _ _ (call (.ref C) []) _ _ _
  have q1 := h.2
  obtain ⟨hp, g, dr, tk, os⟩ := s
  have hsz : hp.objs.size ≤ hp.objs.size + 1 := Nat.le_succ _
  have hn : H (hp.objs.size + 1) = none := I.hok.fresh hsz
  have hq := q1 (hp.objs.size + 1) hn
  have kk : ∀ b o, hp.get? b = some o → ((hp.push (PySem.W.kdv_tup [])).push (PySem.HandSPX.excO C hp.objs.size)).get? b = some o := fun b o e => Heap.get?_push_of_some _ (Heap.get?_push_of_some _ e)
  have hget : ((hp.push (PySem.W.kdv_tup [])).push (PySem.HandSPX.excO C hp.objs.size)).get? (hp.objs.size + 1) = some (PySem.HandSPX.excO C hp.objs.size) := by heap_get
  have I2 : Inv X pins σ (upd H (hp.objs.size + 1) (exo (hp.objs.size + 1) C none)) ⟨(hp.push (PySem.W.kdv_tup [])).push (PySem.HandSPX.excO C hp.objs.size), g, dr, tk, os⟩ :=
    I.laid (t' := tk) (a := hp.objs.size + 1) (o := exo (hp.objs.size + 1) C none) (h' := (hp.push (PySem.W.kdv_tup [])).push (PySem.HandSPX.excO C hp.objs.size)) kk hsz (exo_ok hget)
  have r2 : Vals (V.ref (hp.objs.size + 1) :: ([] ++ dvs)) ([Value.ref (hp.objs.size + 1)] ++ ds) := by
    rw [show [Value.ref (hp.objs.size + 1)] ++ ds = Value.ref (hp.objs.size + 1) :: ds from rfl]
    exact .cons rfl hd
  have hl : ([Value.ref (hp.objs.size + 1)] ++ ds).length = ps.length := by
    have e := r2.length
    rw [F1.len _ _ _ _ hq] at e
    exact e.symm
  refine wpAny_call (PySem.HandSPX.call_own F.excBase_ValueError (fun Y => PySem.HandSPX.refsVE_contains Y bm hbm) (I.kIn _ _ hC) (PySem.W.looks_findIn I.kIn iC) (fun self => PySem.W.bind_fn I.kIn self tI) (Nat.zero_le _)
    (codeAny_mono (F1.run _ X.stack _ _ ⟨[Value.ref (hp.objs.size + 1)], []⟩ ([Value.ref (hp.objs.size + 1)] ++ ds) _ _ (fun _ _ _ => False) (hr.make C [] []) (I2.env0.make C [] []) (hb _ [Value.ref (hp.objs.size + 1)] I2.kIn hl) r2 hq) fun r s' hq' => ?_))
  cases r with
  | error er => exact hx pins σ _ _ er s' I2 hq'
  | ok fl =>
    cases fl with
    | ret u =>
      obtain ⟨v, H2, os2, bare2, un2, hok2, rv, ev, d, fs, ea, ed, hd1, q2⟩ := hq'
      subst ev
      obtain ⟨h2, g2, d2, t2, os'⟩ := s'
      exact ⟨rv, mk_end (raises_own T.exC T.tyC) I hsz kk un2 hok2 os2 bare2 ea ed hd1 q2⟩
    | next => exact False.elim hq'
    | brk => exact False.elim hq'
    | cont => exact False.elim hq'
end
end L2
namespace G
open PySem PySem.Spec PyProof.Rows L2
/-- what __init__(self) leaves: the field, None -/
def spInit0 : PySem.W.Frag → Sp := fun K vs H Q _ => ∃ (a C : Addr), vs = [.ref a] ∧ OexC K C ∧ PySem.W.findIn K (.ref C) "value" = some none ∧ H a = some (exo a C none) ∧
  ∀ dx, H dx = none → dx ≠ a → Q .non (upd (upd H dx (exd dx [("value", .non)])) a (exo a C (some dx)))
theorem mkO_of0 {K : PySem.W.Frag} {C : Addr} {E : XK} {H1 : Hp} (T : OexC K C) (hno : PySem.W.findIn K (.ref C) "value" = some none) (h : Flies C .non E H1) : ([] : List V).length ≤ 1000 ∧ ∀ a, H1 a = none →
    spInit0 K (.ref a :: (([] : List V) ++ [])) (upd H1 a (exo a C none)) (fun u H2 => u = .non ∧ ∃ (d : Addr) (fs : List (Str × V)), H2 a = some (exo a C (some d)) ∧ H2 d = some (exd d fs) ∧ H1 d = none ∧ E (.ref C) (some d) (upd (del H2 a) d (.xd fs))) (fun _ _ _ => False) := by
  refine ⟨Nat.zero_le _, fun a ha => ⟨a, C, rfl, T, hno, upd_same, fun dx hdx ne => ?_⟩⟩
  rw [upd_ne ne] at hdx
  refine ⟨rfl, dx, [("value", .non)], upd_same, (upd_ne ne).trans upd_same, hdx, h dx _ (fun b u e => ?_) hdx upd_same⟩
  have n1 := ne_of_none e hdx
  have n2 := ne_of_none e ha
  rw [upd_ne n1, del_ne n2, upd_ne n2, upd_ne n1, upd_ne n2]
  exact e
end G
set_option Elab.async false
set_option maxRecDepth 100000
set_option maxHeartbeats 4000000
/-! any of a list of ints -/
namespace G
open PySem PySem.Spec PyProof.Rows L2
theorem ints_at : ∀ {us : List Value} {ns : List Int}, IntsAre us ns → ∀ {i : Nat} {v : Value}, us[i]? = some v → ∃ n t, ns[i]? = some n ∧ v = .int n t
  | _, _, .nil, i, v, h => by simp at h
  | _, _, .cons n t r, 0, v, h => by
    simp at h
    exact ⟨n, t, by simp, h.symm⟩
  | _, _, .cons n t r, i + 1, v, h => by
    simp only [List.getElem?_cons_succ] at h ⊢
    exact ints_at r h
theorem ints_len : ∀ {us : List Value} {ns : List Int}, IntsAre us ns → us.length = ns.length
  | _, _, .nil => rfl
  | _, _, .cons n t r => by rw [List.length_cons, List.length_cons, ints_len r]
theorem truth_ints {prog : Program} {w : World} {A : Around} {ns : List Int} {its : List Value} (e : IntsAre its ns) :
    TruthOf prog w A (fun i v => its.toArray[i]? = some v) (fun i => (ns.map fun n => n != 0).getD i false) := fun i v s Q E hv hq => by
  have hv' : its[i]? = some v := by simpa using hv
  obtain ⟨n, t, hn, rfl⟩ := ints_at e hv'
  have hg : (ns.map fun n => n != 0).getD i false = (n != 0) := by rw [List.getD_eq_getElem?_getD, List.getElem?_map, hn] <;> rfl
  have hq' : Q ((ns.map fun n => n != 0).getD i false) s := hq
  rw [hg] at hq'
  exact PySem.P.truthy_int hq'
section
variable {X : Cx}
def rAnyI (K : PySem.W.Frag) : List V → Hp → VK → Prop := fun vs H Q => ∃ (a : Addr) (ns : List Int), vs = [V.ref a] ∧ SqL K H a (ns.map V.int) ∧ Q (.bl (ns.any fun n => n != 0)) H
theorem cr_anyI (hc : X.calm = true) : CallR X (.builtin "any") (rAnyI X.K) := by
  intro pins s σ H vs us Q I r h
  obtain ⟨a, ns, rfl, hs, q⟩ := h
  obtain ⟨its, rv, hl, _⟩ := I.list hs
  rw [Vals.ref1 r]
  have hb := rv.ints
  refine call_any_walk (iter_any hl.isList fun s₂ e2 st hne => ?_)
  subst e2
  refine ⟨_, _, _, _, _, _, _, rfl, Walks.list (A := X.A.in1) (I.ok.hd hc) _ a hne its.toArray, st, truth_ints hb, fun h' tk hk => ?_⟩
  refine ⟨.bl _, H, I.kept fun b o eo => hk b o (fun hmem => ?_) (Heap.get?_push_of_some _ eo), ?_, q⟩
  · rcases List.mem_cons.mp hmem with e1 | hmem
    · exact absurd (e1 ▸ Heap.lt_size eo) (Nat.lt_irrefl _)
    · cases hmem
  · show Value.bool _ = Value.bool _
    have e := L2.any_range (ns.map fun n => n != 0)
    rw [List.length_map, List.any_map] at e
    rw [List.size_toArray, ints_len hb]
    refine congrArg Value.bool ?_
    first | exact e.symm | exact e
end
end G
set_option Elab.async false
set_option maxRecDepth 100000
set_option maxHeartbeats 4000000
/-! {elt for .. in .. if .. for ..}: a set of ints, any number of clauses -/
namespace G
open PySem PySem.Spec PyProof.Rows L2
/-- nothing is raised -/
abbrev NE : Value → Shared → Prop := fun _ _ => False
/-- the set comprehension -/
abbrev scE (elt : Expr) (gens : List Comprehension) (scope : Scope) (pos : Pos) : Expr := .SetComp elt gens scope pos
abbrev tests (ifs : List Expr) (env : Env) : Sem Bool := forIn ifs true fun c r => if r = true then do { let ok ← isTrue c env (eval c env); pure (ForInStep.yield ok) } else pure (ForInStep.yield r)
section
variable {prog : Program} {w : World} {A : Around} {R : Result → Shared → Prop} {s : Shared} {elt tg iter tg1 iter1 : Expr} {ifs ifs1 : List Expr} {gens : List Comprehension} {scope : Scope} {pos : Pos} {k : Nat} {it acc : Value} {env : Env}
theorem turn_last (h0 : gens[k]? = some ⟨tg, iter, ifs, 0⟩) (h1 : gens[k + 1]? = none) : compTurn (scE elt gens scope pos) k it acc env = (do
      standAt iter.pos
      match ← pyNext it with
      | none => pure (.done .next)
      | some v =>
        letOwnedTupleGo tg it v
        assign tg env v
        let mut ok := true
        for c in ifs do if ok then ok ← isTrue c env (eval c env)
        if ok then (do let v ← eval elt env; standAt elt.pos; let _ ← call (.builtin "set.add") [acc, v])
        again (.compLoop (scE elt gens scope pos) k it acc env)) := by
  unfold compTurn scE
  simp only [h0, h1]
  rfl
theorem turn_more (h0 : gens[k]? = some ⟨tg, iter, ifs, 0⟩) (h1 : gens[k + 1]? = some ⟨tg1, iter1, ifs1, 0⟩) : compTurn (scE elt gens scope pos) k it acc env = (do
      standAt iter.pos
      match ← pyNext it with
      | none => pure (.done .next)
      | some v =>
        letOwnedTupleGo tg it v
        assign tg env v
        let mut ok := true
        for c in ifs do if ok then ok ← isTrue c env (eval c env)
        if ok then
          let x ← eval iter1 env
          standAt iter1.pos
          let x ← foldedSetIterable iter1 env x
          let _ ← runOwn (.compStart (scE elt gens scope pos) (k + 1) (← holding [x] (pyIter x)) acc env) env
        again (.compLoop (scE elt gens scope pos) k it acc env)) := by
  unfold compTurn scE
  simp only [h0, h1]
  rfl
/-- the rest of a turn, behind the tests: the next clause, or the element -/
def Rest (prog : Program) (w : World) (A : Around) (elt : Expr) (gens : List Comprehension) (scope : Scope) (pos : Pos) (k : Nat) (acc : Value) (env : Env) (Post : Shared → Prop) (s : Shared) : Prop :=
  match gens[k + 1]? with
  | none => wpAny (model prog w) A (eval elt env) (fun x s1 => wpAny (model prog w) A (call (.builtin "set.add") [acc, x]) (fun _ s2 => Post s2) NE s1) NE s
  | some g1 => g1.is_async = 0 ∧ (∀ x, foldedSetIterable g1.iter env x = pure x) ∧ wpAny (model prog w) A (eval g1.iter env) (fun x s1 => wpAny (model prog w) A (pyIter x) (fun it1 s2 =>
      codeAny (model prog w) A (.compStart (scE elt gens scope pos) (k + 1) it1 acc env) (fun r s3 => match r with
        | .ok _ => Post s3
        | .error _ => False) s2) NE s1) NE s
/-- a turn of clause k -/
def TurnS (prog : Program) (w : World) (A : Around) (tg : Expr) (ifs : List Expr) (env : Env) (it : Value) (stop skip go : Shared → Prop) (s : Shared) : Prop :=
  wpAny (model prog w) A (pyNext it) (fun r s1 => match r with
    | none => stop s1
    | some v => wpAny (model prog w) A (letOwnedTupleGo tg it v) (fun _ s2 => wpAny (model prog w) A (assign tg env v) (fun _ s3 =>
        wpAny (model prog w) A (tests ifs env) (fun ok s4 => if ok = true then go s4 else skip s4) NE s3) NE s2) NE s1) NE s
theorem ne_mono {α : Type} {t : Sem α} {Q Q' : α → Shared → Prop} {M : Model} {E : Value → Shared → Prop} (h : wpAny M A t Q NE s) (hQ : ∀ a s, Q a s → Q' a s) : wpAny M A t Q' E s := wpAny_mono h hQ fun _ _ z => False.elim z
theorem loopS (h0 : gens[k]? = some ⟨tg, iter, ifs, 0⟩) (hz : ∀ g, gens[k + 1]? = some g → g.is_async = 0) (Z : Nat → Shared → Prop)
    (turn : ∀ n s, Z n s → TurnS prog w A tg ifs env it (R (.ok .next)) (fun s' => ∃ m, m < n ∧ Z m s') (Rest prog w A elt gens scope pos k acc env (fun s' => ∃ m, m < n ∧ Z m s')) s)
    (n : Nat) (h : Z n s) : codeAny (model prog w) A (.compLoop (scE elt gens scope pos) k it acc env) R s := by
  refine codeAny_loop rfl Z (fun n s hZ => ?_) n h
  have hT := turn n s hZ
  unfold TurnS at hT
  show wpAny _ A ((compTurn (scE elt gens scope pos) k it acc env).onRaise (fun x => do noteFrame x env; theTreesLotGoes x)) _ _ s
  refine wpAny_noted ?_
  cases h1 : gens[k + 1]? with
  | none =>
    rw [turn_last h0 h1]
    refine wpAny_bind (wpAny_standAt (wpAny_bind (ne_mono hT fun r s₁ h₁ => ?_)))
    cases r with
    | none => exact wpAny_pure h₁
    | some v =>
      refine wpAny_bind (ne_mono h₁ fun _ s₁' h₁' => ?_)
      refine wpAny_bind (ne_mono h₁' fun _ s₂ h₂ => wpAny_bind (ne_mono h₂ fun ok s₃ h₃ => ?_))
      cases ok with
      | false => exact wpAny_pure ⟨rfl, h₃⟩
      | true =>
        have h₃ : Rest prog w A elt gens scope pos k acc env _ s₃ := h₃
        unfold Rest at h₃
        rw [h1] at h₃
        exact wpAny_bind (wpAny_bind (ne_mono h₃ fun x s₄ h₄ => wpAny_bind (wpAny_standAt (wpAny_bind (ne_mono h₄ fun _ s₅ h₅ => wpAny_pure (wpAny_pure ⟨rfl, h₅⟩))))))
  | some g1 =>
    obtain ⟨tg1, iter1, ifs1, a1⟩ := g1
    have ha : a1 = 0 := hz _ h1
    · subst ha
      rw [turn_more h0 h1]
      refine wpAny_bind (wpAny_standAt (wpAny_bind (ne_mono hT fun r s₁ h₁ => ?_)))
      cases r with
      | none => exact wpAny_pure h₁
      | some v =>
        refine wpAny_bind (ne_mono h₁ fun _ s₁' h₁' => ?_)
        refine wpAny_bind (ne_mono h₁' fun _ s₂ h₂ => wpAny_bind (ne_mono h₂ fun ok s₃ h₃ => ?_))
        cases ok with
        | false => exact wpAny_pure ⟨rfl, h₃⟩
        | true =>
          have h₃ : Rest prog w A elt gens scope pos k acc env _ s₃ := h₃
          unfold Rest at h₃
          rw [h1] at h₃
          obtain ⟨_, hs, h₃⟩ := h₃
          refine wpAny_bind (ne_mono h₃ fun x s₄ h₄ => ?_)
          refine wpAny_bind (wpAny_standAt (wpAny_bind (wpAny_of_eq (hs x) (wpAny_bind (wpAny_holding (ne_mono h₄ fun it1 s₅ h₅ => ?_))))))
          refine wpAny_bind (wpAny_runOwn ?_)
          rw [Around.mark_none]
          refine codeAny_mono h₅ fun r s' hr => ?_
          cases r with
          | ok f =>
            first
              | exact wpAny_pure ⟨rfl, hr⟩
              | exact wpAny_bind (wpAny_pure (wpAny_pure ⟨rfl, hr⟩))
          | error e => exact hr.elim
/-- a clause's start -/
theorem startS (h0 : gens[k]? = some ⟨tg, iter, ifs, 0⟩) (hl : codeAny (model prog w) A (.compLoop (scE elt gens scope pos) k it acc env) R s)
    (h : wpAny (model prog w) A (pyIter it) (fun it' s' => codeAny (model prog w) A (.compLoop (scE elt gens scope pos) k it' acc env) R s') NE s) :
    codeAny (model prog w) A (.compStart (scE elt gens scope pos) k it acc env) R s := by
  refine codeAny_of_tree ?_
  show wpAny _ _ ((compStart (scE elt gens scope pos) k it acc env).onRaise (fun x => do noteFrame x env; standAt theWindowsPlace)) _ _ s
  refine wpAny_notedAt ?_
  have hk : (clausesOf (scE elt gens scope pos))[k]? = some ⟨tg, iter, ifs, 0⟩ := h0
  unfold compStart
  simp only [hk, Option.elim]
  show wpAny _ _ (ask >>= _) _ _ s
  refine wpAny_bind (wpAny_askSetting (wpAny_ite ?_))
  split
  · first
      | exact wpAny_bind (wpAny_pure (wpAny_pure (And.intro rfl hl)))
      | exact wpAny_pure (And.intro rfl hl)
  · first
      | exact wpAny_bind (wpAny_rule (wpAny_bind (wpAny_standAt (wpAny_bind (ne_mono h fun it' s' h' => wpAny_pure (And.intro rfl h'))))))
      | (refine wpAny_bind (wpAny_rule ?_); show wpAny _ _ (standAt iter.pos >>= _) _ _ s; exact wpAny_bind (wpAny_standAt (wpAny_bind (ne_mono h fun it' s' h' => wpAny_pure (And.intro rfl h')))))
end
/-- what a further clause does: source, target, tests, and the slots that are its own or of those behind it -/
structure Cl where
  wi : TI
  g : TG
  tt : TT
  vs : List Nat
/-- the element goes into the set at D, then Nx -/
def tPut (w : World) (D : Addr) (te : TE) (σ : L2.St) (H : Hp) (Nx : Hp → Prop) : Prop := te σ H fun y H' => ∃ (c : Int) (S : Int → Bool) (n : Nat), y = .int c ∧ H' D = some (SetO w D S n) ∧ n + 1 < scanBound ∧
  Nx (upd H' D (SetO w D (fun j => S j || decide (j = c)) (if S c = true then n else n + 1)))
def tDeep (w : World) (D : Addr) (te : TE) : List Cl → L2.St → Hp → (Hp → Prop) → Prop
  | [], σ, H, Nx => tPut w D te σ H Nx
  | c :: L, σ, H, Nx => c.wi σ H fun J H1 => ∃ W : Nat → Nat → Hp → Prop, (∃ m, W 0 m H1) ∧ ∀ i m H, W i m H → (J.stop i H ∧ Nx H) ∨ (J.go i H ∧ ∃ N1 : Hp → Prop, (∀ H', N1 H' → ∃ m', m' < m ∧ W (i + 1) m' H') ∧
      ∀ x H', J.yld i H x H' → c.g x (wipe σ c.vs) H' fun σ2 H2 => wipe σ2 c.vs = wipe σ c.vs ∧ c.tt σ2 H2 fun b H3 => if b = true then tDeep w D te L σ2 H3 N1 else N1 H3)
def headVs : List Cl → List Nat
  | [] => []
  | c :: _ => c.vs
/-- the further clauses, as they are written -/
inductive Cls (Y : Cx) : List Cl → List Comprehension → Prop
  | nil : Cls Y [] []
  | cons {c : Cl} {L : List Cl} {tg iter : Expr} {ifs : List Expr} {gs : List Comprehension} (hi : PI Y tg iter c.wi) (hg : PG Y tg c.g) (ht : PTs Y ifs c.tt) (hs : ∀ env x, foldedSetIterable iter env x = pure x) (hv : ∀ i ∈ headVs L, i ∈ c.vs) (r : Cls Y L gs) : Cls Y (c :: L) (⟨tg, iter, ifs, 0⟩ :: gs)
theorem Cls.async {Y : Cx} : ∀ {L : List Cl} {gs : List Comprehension}, Cls Y L gs → ∀ {gens : List Comprehension} {k : Nat}, gens.drop k = gs → ∀ g, gens[k]? = some g → g.is_async = 0
  | _, _, .nil, gens, k, hd, g, e => by
    rw [← List.head?_drop, hd] at e
    cases e
  | _, _, .cons _ _ _ _ _ _, gens, k, hd, g, e => by
    rw [← List.head?_drop, hd] at e
    cases e
    rfl
section
variable {X : Cx}
/-- set.add of an int -/
theorem addI_ok {pins : List (Addr × Obj)} {σ : L2.St} {H : Hp} {s : Shared} {E : Value → Shared → Prop} {D : Addr} {S : Int → Bool} {n : Nat} {y : Int} {u : Value} {Q : Value → Shared → Prop} (I : Inv X pins σ H s) (r : RelV (.int y) u) (hD : H D = some (SetO X.w D S n)) (room : n + 1 < scanBound)
    (h : ∀ s', Inv X pins σ (upd H D (SetO X.w D (fun j => S j || decide (j = y)) (if S y = true then n else n + 1))) s' → Q .none s') : wpAny (model X.prog X.w) X.A (call (.builtin "set.add") [.ref D, u]) Q E s := by
  obtain ⟨tk, rfl⟩ : ∃ tk, u = .int y tk := r
  have R := setO_get I hD
  refine setR_add R room fun h' sb new => ?_
  have he : ∃ u, h'.get? D = some u := by
    have ⟨o, _, _, _, ho, _⟩ := new
    exact ⟨o, ho⟩
  exact h _ (I.write (e := D) (t' := s.toks + 1) (by rw [hD]; trivial) (.inl rfl) (fun b u hb hu => (sb.2 b hb).trans hu) he (setO_new new))
/-- what stands behind clause k's tests, run -/
theorem rest_run {s0 : Shared} {H0 : Hp} {scope : Scope} {ce : Env} {fp : List Addr} {elt : Expr} {gens : List Comprehension} {pos : Pos} {D : Addr} {te : TE} (hc : X.calm = true) (pe : PE (X.blk s0 H0 scope ce fp) elt te) :
    ∀ (L : List Cl) (gs : List Comprehension) (k : Nat), gens.drop (k + 1) = gs → Cls (X.blk s0 H0 scope ce fp) L gs → ∀ (P : List (Addr × Obj)) (σ : L2.St) (H : Hp) (s : Shared) (Nx : Hp → Prop) (Post : Shared → Prop),
      Inv (X.blk s0 H0 scope ce fp) P σ H s → tDeep X.w D te L σ H Nx →
      (∀ σ' H' s', Inv (X.blk s0 H0 scope ce fp) P σ' H' s' → σ'.length = σ.length → (∀ (j : Nat) v, (wipe σ (headVs L))[j]? = some (some v) → σ'[j]? = some (some v)) → Nx H' → Post s') →
      Rest X.prog X.w X.A elt gens scope pos k (.ref D) ce Post s
  | [], gs, k, hd, hC, P, σ, H, s, Nx, Post, I, t, hP => by
    cases hC
    have h1 : gens[k + 1]? = none := by
      rw [← List.head?_drop, hd]
      rfl
    unfold Rest
    rw [h1]
    refine thnF (pe.run P s σ H _ I t) fun z s1 ⟨yv, H1, I1, r1, c, S, n, ey, hD, hz, nx⟩ => ?_
    subst ey
    exact addI_ok (X := X.blk s0 H0 scope ce fp) I1 r1 hD hz fun s2 I2 => hP σ _ s2 I2 rfl (fun j v e => e) nx
  | c :: L, gs, k, hd, hC, P, σ, H, s, Nx, Post, I, t, hP => by
    cases hC with
    | @cons _ _ tg iter ifs gs' hi hg ht hs hv r =>
    have h1 : gens[k + 1]? = some ⟨tg, iter, ifs, 0⟩ := by
      rw [← List.head?_drop, hd]
      rfl
    have hd' : gens.drop (k + 1 + 1) = gs' := by
      rw [← List.tail_drop, hd]
      rfl
    unfold Rest
    rw [h1]
    refine ⟨rfl, hs ce, ?_⟩
    refine thnF (hi.run P s σ H _ I t) fun xv s1 hx => thnF hx fun itv s2 h2 => ?_
    obtain ⟨it1, fp1, tn1, J1, H2, e1, I2, T1, st2, f2, W1, ⟨m1, w1⟩, turn1⟩ := h2
    subst e1
    have stat1 : ∀ {H' : Hp}, (∀ b ∈ fp1, H' b = none) → ∀ b ∈ fp1, FpOk (X.blk s0 H0 scope ce fp) P H' b := fun hn b hb => ⟨hn b hb, (f2 b hb).2⟩
    have loop1 : codeAny (model X.prog X.w) X.A (.compLoop (scE elt gens scope pos) (k + 1) (.ref it1) (.ref D) ce) (fun r s3 => match r with
        | .ok _ => Post s3
        | .error _ => False) s2 := by
      refine loopS h1 (Cls.async r hd') (fun m s' => ∃ j H', Inv (X.blk s0 H0 scope ce fp) P (wipe σ c.vs) H' s' ∧ tn1 j s'.heap ∧ (∀ b ∈ fp1, H' b = none) ∧ W1 j m H') ?_ m1 ⟨0, H2, I2.weak (wipe_length _ _) (fun j v e => (wipe_some e).1), st2, fun b hb => (f2 b hb).1, w1⟩
      rintro m s3 ⟨j, H3, I3, st3, n3, w3⟩
      unfold TurnS
      rcases turn1 j m H3 w3 with ⟨stop1, nx1⟩ | ⟨go1, N1, hN1, step1⟩
      · refine thnF (T1.done (X.blk s0 H0 scope ce fp) rfl rfl rfl hc j _ s3 (wipe σ c.vs) H3 (fun _ _ => False) I3 (stat1 n3) st3 stop1) fun r s4 ⟨hr, I4⟩ => ?_
        subst hr
        exact hP _ _ s4 I4 (wipe_length _ _) (fun j v e => e) nx1
      · refine thnF (T1.item (X.blk s0 H0 scope ce fp) rfl rfl rfl hc j _ s3 (wipe σ c.vs) H3 (fun _ _ => False) I3 (stat1 n3) st3 go1) fun r s4 ⟨u1, hr, h4⟩ => ?_
        subst hr
        refine thnF h4 fun _ s5 ⟨x1, H5, I5, r5, y5, st5, n5⟩ => ?_
        have I5' := I5.pinned (stat1 n5) (T1.obj _ _ st5)
        refine thnF (hg.run _ s5 (wipe σ c.vs) H5 x1 u1 _ I5' r5 (step1 x1 H5 y5)) fun _ s6 ⟨σ6, H6, I6, hw6, q6⟩ => ?_
        refine thnF (ht.run _ s6 σ6 H6 _ I6 q6) fun b1 s7 ⟨H7, I7, q7⟩ => ?_
        have fin : ∀ {σ' : L2.St} {s' : Shared} {H' : Hp}, Inv (X.blk s0 H0 scope ce fp) (P ++ pinsAt fp1 s5.heap) σ' H' s' → σ'.length = σ6.length → (∀ (j : Nat) v, (wipe σ6 (headVs L))[j]? = some (some v) → σ'[j]? = some (some v)) → N1 H' →
            ∃ m', m' < m ∧ ∃ j H', Inv (X.blk s0 H0 scope ce fp) P (wipe σ c.vs) H' s' ∧ tn1 j s'.heap ∧ (∀ b ∈ fp1, H' b = none) ∧ W1 j m' H' := fun {σ' s' H'} I' hl hk nx => by
          obtain ⟨m', hm, w'⟩ := hN1 H' nx
          have pin' : ∀ b ∈ fp1, ∀ o, s5.heap.get? b = some o → s'.heap.get? b = some o ∧ H' b = none := fun b hb o e =>
            have z := I'.pin (b, o) (List.mem_append_right _ (List.mem_append_right _ (mem_pinsAt hb e)))
            ⟨z.1, z.2.1⟩
          refine ⟨m', hm, j + 1, H', I'.unpinned.weak (by rw [hl, ← hw6, wipe_length]) (fun i v e => ?_), T1.keep _ _ _ st5 fun b hb o e => (pin' b hb o e).1, fun b hb => ?_, w'⟩
          · rw [← hw6] at e
            obtain ⟨e1, e2⟩ := wipe_some e
            exact hk i v (by rw [wipe_out fun z => e2 (hv i z)]; exact e1)
          · obtain ⟨o, e, _⟩ := T1.obj _ _ st5 b hb
            exact (pin' b hb o e).2
        cases b1 with
        | false => exact fin I7 rfl (fun i v e => (wipe_some e).1) q7
        | true => exact rest_run hc pe L gs' (k + 1) hd' r _ σ6 H7 s7 N1 _ I7 q7 fun σ' H' s' I' hl hk nx => fin I' hl hk nx
    exact startS h1 loop1 (T1.self X.A 0 _ _ _ st2 loop1)
/-- {elt for .. in .. if .. and further clauses}: D the new set -/
def tScN (w : World) (wi : TI) (g : TG) (tt : TT) (te : TE) (L : List Cl) (vs : List Nat) : TE := fun σ H Q => wi σ H fun J H1 => ∀ D, H1 D = none → ∃ W : Nat → Nat → Hp → Prop, (∃ m, W 0 m (upd H1 D (SetO w D (fun _ => false) 0))) ∧ ∀ i m H, W i m H →
  (J.stop i H ∧ Q (.ref D) H) ∨ (J.go i H ∧ ∃ Nx : Hp → Prop, (∀ H', Nx H' → ∃ m', m' < m ∧ W (i + 1) m' H') ∧ ∀ x H', J.yld i H x H' → g x (wipe σ vs) H' fun σ2 H2 => wipe σ2 vs = wipe σ vs ∧ tt σ2 H2 fun b H3 => if b = true then tDeep w D te L σ2 H3 Nx else Nx H3)
theorem scN_core {pins : List (Addr × Obj)} {s : Shared} {σ : L2.St} {H : Hp} {Q : VK} {elt tg iter : Expr} {ifs : List Expr} {gs : List Comprehension} {scope : Scope} {own : List (PySem.Str × Nat)} {pos pos' : Pos} {wi : TI} {g : TG} {tt : TT} {te : TE} {L : List Cl} {Qf : Value → Shared → Prop}
    (hc : X.calm = true) (hN : X.N.Nodup) (I : Inv X pins σ H s) (hi : PI X tg iter wi) (ok : BlkOk X.N X.env.scope scope own) (hv : ∀ i ∈ headVs L, i ∈ own.map (·.2))
    (hg : ∀ (s : Shared) (H : Hp) (C : Addr) (cl : List (PySem.Str × Addr)) (fp : List Addr), PG (X.blk s H scope (compEnvC scope cl C X.env) fp) tg g) (ht : ∀ (s : Shared) (H : Hp) (C : Addr) (cl : List (PySem.Str × Addr)) (fp : List Addr), PTs (X.blk s H scope (compEnvC scope cl C X.env) fp) ifs tt)
    (hC : ∀ (s : Shared) (H : Hp) (C : Addr) (cl : List (PySem.Str × Addr)) (fp : List Addr), Cls (X.blk s H scope (compEnvC scope cl C X.env) fp) L gs)
    (he : ∀ (s : Shared) (H : Hp) (C : Addr) (cl : List (PySem.Str × Addr)) (fp : List Addr), PE (X.blk s H scope (compEnvC scope cl C X.env) fp) elt te) (hs : ∀ x, foldedSetIterable iter X.env x = pure x)
    (h : tScN X.w wi g tt te L (own.map (·.2)) σ H Q)
    (hRR : ∀ D C s' m H', Inv X pins σ H' s' → Q (.ref D) H' → s'.heap.Ns C m → FpOk X pins H' C → compPost (model X.prog X.w) X.A X.xe none Qf (.ref D) C (.ok .next) s') :
    wpAny (model X.prog X.w) X.A (comprehension (scE elt (⟨tg, iter, ifs, 0⟩ :: gs) scope pos) scope X.env pos' (newSet (.type "set")) false (eval iter X.env) none) Qf X.xe s := by
  have hF : ∀ y ∈ scope.names, y.2 = .free → ∃ c, X.env.cells.lookup y.1 = some c := fun y hy e => (ok.free y hy e).elim (fun z => I.ok.has _ (.inl z)) (fun z => I.ok.has _ (.inr z))
  refine wpAny_comprehension_free (use := none) rfl hs (closure_ok hF) ok.kind (fun y hy e => by rw [ok.uniq y hy, e]) (thn (hi.run pins s σ H _ I h) fun xv s1 hx => thn hx fun itv s2 h2 => ?_)
  obtain ⟨it, fp, tn, J, H2, e, I2, T, st2, f2, q⟩ := h2
  subst e
  refine PpSet.newSet_ok (newEnv_comp ?_)
  generalize hD : s2.heap.objs.size = D
  have nD : H2 D = none := I2.hok.fresh (Nat.le_of_eq hD)
  obtain ⟨W, ⟨m0, w0⟩, turn⟩ := q D nD
  generalize hs3 : ({ s2 with heap := s2.heap.push (nob X.w) } : Shared) = s3
  have I3 : Inv X pins σ (upd H2 D (SetO X.w D (fun _ => false) 0)) s3 := by
    rw [← hs3]
    refine I2.laid (t' := s2.toks) (fun b o e => Heap.get?_push_of_some _ e) (Nat.le_of_eq hD) ?_
    rw [← hD]
    exact setO_new (setR_fresh X.w)
  have h3 : s3.heap = s2.heap.push (nob X.w) := by rw [← hs3]
  have sz2 : ∀ b ∈ fp, b < s2.heap.objs.size := fun b hb => (T.obj _ _ st2 b hb).elim fun o z => Heap.lt_size z.1
  have f3 : ∀ b ∈ fp, FpOk X pins (upd H2 D (SetO X.w D (fun _ => false) 0)) b ∧ b < s3.heap.objs.size := fun b hb => by
    refine ⟨⟨?_, (f2 b hb).2⟩, by rw [h3, Heap.size_push]; exact Nat.lt_succ_of_lt (sz2 b hb)⟩
    rw [upd_ne (by rw [← hD]; exact Nat.ne_of_lt (sz2 b hb))]
    exact (f2 b hb).1
  have st3 : tn 0 s3.heap := T.keep _ _ _ st2 fun b _ o e => h3 ▸ Heap.get?_push_of_some _ e
  have I4 := block_start I3 ok hN f3
  have pg := hg s3 (upd H2 D (SetO X.w D (fun _ => false) 0)) s3.heap.objs.size (cellsFrom (s3.heap.objs.size + 1) scope.names (cloFrom X.env.cells scope.names [])) fp
  have pt := ht s3 (upd H2 D (SetO X.w D (fun _ => false) 0)) s3.heap.objs.size (cellsFrom (s3.heap.objs.size + 1) scope.names (cloFrom X.env.cells scope.names [])) fp
  have pe := he s3 (upd H2 D (SetO X.w D (fun _ => false) 0)) s3.heap.objs.size (cellsFrom (s3.heap.objs.size + 1) scope.names (cloFrom X.env.cells scope.names [])) fp
  have pc := hC s3 (upd H2 D (SetO X.w D (fun _ => false) 0)) s3.heap.objs.size (cellsFrom (s3.heap.objs.size + 1) scope.names (cloFrom X.env.cells scope.names [])) fp
  show codeAny _ _ (.compStart (scE elt (⟨tg, iter, ifs, 0⟩ :: gs) scope pos) 0 (.ref it) (.ref D) (compEnvC scope (cellsFrom (s3.heap.objs.size + 1) scope.names (cloFrom X.env.cells scope.names [])) s3.heap.objs.size X.env)) (compPost (model X.prog X.w) X.A X.xe none Qf (.ref D) s3.heap.objs.size) { s3 with heap := pushCells (s3.heap.push { cls := .type "dict", data := .dict #[] }) scope.names }
  have n0 : ∀ b ∈ fp, (upd H2 D (SetO X.w D (fun _ => false) 0)) b = none := fun b hb => (f3 b hb).1.1
  generalize hce : compEnvC scope (cellsFrom (s3.heap.objs.size + 1) scope.names (cloFrom X.env.cells scope.names [])) s3.heap.objs.size X.env = ce at I4 pg pt pe pc ⊢
  have cL : ce.locals = s3.heap.objs.size := hce ▸ rfl
  generalize hH3 : upd H2 D (SetO X.w D (fun _ => false) 0) = H3 at I3 I4 pg pt pe pc w0 n0 f3
  generalize hs4 : ({ s3 with heap := pushCells (s3.heap.push { cls := .type "dict", data := .dict #[] }) scope.names } : Shared) = s4 at I4 ⊢
  have st4 : tn 0 s4.heap := T.keep _ _ _ st3 fun b _ o e => hs4 ▸ pushCells_keeps _ _ _ _ (Heap.get?_push_of_some _ e)
  have stat : ∀ {σ' : L2.St} {H' : Hp} {s' : Shared}, Inv (X.blk s3 H3 scope ce fp) [] σ' H' s' → (∀ b ∈ fp, H' b = none) → ∀ b ∈ fp, FpOk (X.blk s3 H3 scope ce fp) [] H' b := fun {σ' H' s'} I' hn b hb =>
    ⟨hn b hb, (I'.ok.exf b hb).1, I'.ok.exfs b hb, .inl hb, fun x c e => (I'.ok.exf b hb).2 x c e, fun p hp => by cases (show p ∈ ([] : List (Addr × Obj)) ++ [] from hp)⟩
  have loop : codeAny (model X.prog X.w) X.A (.compLoop (scE elt (⟨tg, iter, ifs, 0⟩ :: gs) scope pos) 0 (.ref it) (.ref D) ce) (compPost (model X.prog X.w) X.A X.xe none Qf (.ref D) s3.heap.objs.size) s4 := by
    refine loopS (tg := tg) (iter := iter) (ifs := ifs) rfl (Cls.async pc rfl) (fun n s' => ∃ i H', Inv (X.blk s3 H3 scope ce fp) [] (wipe σ (own.map (·.2))) H' s' ∧ tn i s'.heap ∧ (∀ b ∈ fp, H' b = none) ∧ W i n H') ?_ m0 ⟨0, H3, I4, st4, n0, w0⟩
    rintro n s5 ⟨i, H5, I5, st5, n5, w5⟩
    unfold TurnS
    rcases turn i n H5 w5 with ⟨stop, qq⟩ | ⟨go, Nx, hNx, step⟩
    · refine thnF (T.done (X.blk s3 H3 scope ce fp) rfl rfl rfl hc i [] s5 _ H5 (fun _ _ => False) I5 (stat I5 n5) st5 stop) fun r s6 ⟨hr, I6⟩ => ?_
      subst hr
      have I7 : Inv X pins σ H5 s6 := I3.call' (ch := fp) I6.os I6.base I6.hok I6.bare fun b hb => ⟨(f3 b hb).1.2.2.2.1, (f3 b hb).1.2.1, (f3 b hb).1.2.2.2.2.1, (f3 b hb).1.2.2.2.2.2⟩
      have nC : H5 s3.heap.objs.size = none := cL ▸ (show H5 ce.locals = none from I6.free)
      obtain ⟨m, hn, _⟩ := I6.loc
      have hn : s6.heap.Ns ce.locals m := hn
      rw [cL] at hn
      exact hRR D s3.heap.objs.size s6 m H5 I7 qq hn (I3.fpOk (Nat.le_refl _) nC)
    · refine thnF (T.item (X.blk s3 H3 scope ce fp) rfl rfl rfl hc i [] s5 _ H5 (fun _ _ => False) I5 (stat I5 n5) st5 go) fun r s6 ⟨u, hr, h6⟩ => ?_
      subst hr
      refine thnF h6 fun _ s7 ⟨x, H7, I7, r7, y7, st7, n7⟩ => ?_
      have I7' := I7.pinned (stat I7 n7) (T.obj _ _ st7)
      refine thnF (pg.run _ s7 _ H7 x u _ I7' r7 (step x H7 y7)) fun _ s8 ⟨σ8, H8, I8, hw8, q8⟩ => ?_
      refine thnF (pt.run _ s8 σ8 H8 _ I8 q8) fun b s9 ⟨H9, I9, q9⟩ => ?_
      have fin : ∀ {σ' : L2.St} {s' : Shared} {H' : Hp}, Inv (X.blk s3 H3 scope ce fp) ([] ++ pinsAt fp s7.heap) σ' H' s' → σ'.length = σ8.length → (∀ (j : Nat) v, (wipe σ8 (headVs L))[j]? = some (some v) → σ'[j]? = some (some v)) → Nx H' →
          ∃ m, m < n ∧ ∃ i H', Inv (X.blk s3 H3 scope ce fp) [] (wipe σ (own.map (·.2))) H' s' ∧ tn i s'.heap ∧ (∀ b ∈ fp, H' b = none) ∧ W i m H' := fun {σ' s' H'} I' hl hk nx => by
        obtain ⟨m', hm, w'⟩ := hNx H' nx
        have pin' : ∀ b ∈ fp, ∀ o, s7.heap.get? b = some o → s'.heap.get? b = some o ∧ H' b = none := fun b hb o e =>
          have z := I'.pin (b, o) (List.mem_append_right _ (List.mem_append_right _ (mem_pinsAt hb e)))
          ⟨z.1, z.2.1⟩
        refine ⟨m', hm, i + 1, H', (I'.unpinned (pins := [])).weak (by rw [hl, ← hw8, wipe_length]) (fun j v e => ?_), T.keep _ _ _ st7 fun b hb o e => (pin' b hb o e).1, fun b hb => (T.obj _ _ st7 b hb).elim fun o z => (pin' b hb o z.1).2, w'⟩
        rw [← hw8] at e
        obtain ⟨e1, e2⟩ := wipe_some e
        exact hk j v (by rw [wipe_out fun z => e2 (hv j z)]; exact e1)
      cases b with
      | false => exact fin I9 rfl (fun j v e => (wipe_some e).1) q9
      | true => exact rest_run hc pe L gs 0 rfl pc _ σ8 H9 s9 Nx _ I9 q9 fun σ' H' s' I' hl hk nx => fin I' hl hk nx
  exact startS (tg := tg) (iter := iter) (ifs := ifs) rfl loop (T.self X.A 0 _ _ _ st4 loop)
/-- as a value -/
theorem pe_scN {elt tg iter : Expr} {ifs : List Expr} {gs : List Comprehension} {scope : Scope} {own : List (PySem.Str × Nat)} {pos : Pos} {wi : TI} {g : TG} {tt : TT} {te : TE} {L : List Cl} (hc : X.calm = true) (hN : X.N.Nodup) (hi : PI X tg iter wi) (ok : BlkOk X.N X.env.scope scope own) (hv : ∀ i ∈ headVs L, i ∈ own.map (·.2))
    (hg : ∀ (s : Shared) (H : Hp) (C : Addr) (cl : List (PySem.Str × Addr)) (fp : List Addr), PG (X.blk s H scope (compEnvC scope cl C X.env) fp) tg g) (ht : ∀ (s : Shared) (H : Hp) (C : Addr) (cl : List (PySem.Str × Addr)) (fp : List Addr), PTs (X.blk s H scope (compEnvC scope cl C X.env) fp) ifs tt)
    (hC : ∀ (s : Shared) (H : Hp) (C : Addr) (cl : List (PySem.Str × Addr)) (fp : List Addr), Cls (X.blk s H scope (compEnvC scope cl C X.env) fp) L gs)
    (he : ∀ (s : Shared) (H : Hp) (C : Addr) (cl : List (PySem.Str × Addr)) (fp : List Addr), PE (X.blk s H scope (compEnvC scope cl C X.env) fp) elt te) (hs : ∀ x, foldedSetIterable iter X.env x = pure x := by intro _; rfl) :
    PE X (.SetComp elt (⟨tg, iter, ifs, 0⟩ :: gs) scope pos) (tScN X.w wi g tt te L (own.map (·.2))) := by
  refine ⟨fun pins s σ H Q I h => ?_⟩
  rw [PpSet.eval_SetComp]
  refine scN_core hc hN I hi ok hv hg ht hC he hs h fun D C s' m H' I' q hn f => ⟨m, hn, fun h'' sb => ?_⟩
  obtain ⟨f0, f1, f2, f3, f4, f5⟩ := f
  exact ⟨.ref D, H', I'.turned (t' := s'.toks) (fun b o hb e => (sb.2 b hb).trans e) f0 f1 f3 f4 f5, rfl, q⟩
end
/-! ### what is walked -/
abbrev Walked (J : It) (H1 : Hp) (Qd : Hp → Prop) (B : V → Hp → (Hp → Prop) → Prop) : Prop := ∃ W : Nat → Nat → Hp → Prop, (∃ m, W 0 m H1) ∧ ∀ i m H, W i m H → (J.stop i H ∧ Qd H) ∨ (J.go i H ∧ ∃ Nx : Hp → Prop, (∀ H', Nx H' → ∃ m', m' < m ∧ W (i + 1) m' H') ∧ ∀ x H', J.yld i H x H' → B x H' Nx)
theorem w_range {lo : Int} {n : Nat} {H1 : Hp} {Qd : Hp → Prop} {B : V → Hp → (Hp → Prop) → Prop} (Pv : Nat → Hp → Prop) (h0 : Pv 0 H1) (hs : ∀ (i : Nat) H, i < n → Pv i H → B (.int (lo + i)) H (Pv (i + 1))) (hd : ∀ H, Pv n H → Qd H) : Walked (Itr lo n) H1 Qd B := by
  refine ⟨fun i m H => m = n - i ∧ i ≤ n ∧ Pv i H, ⟨n, rfl, Nat.zero_le _, h0⟩, ?_⟩
  rintro i m H ⟨rfl, hi, p⟩
  by_cases hlt : i < n
  · refine .inr ⟨hlt, Pv (i + 1), fun H' p' => ⟨n - (i + 1), by omega, rfl, hlt, p'⟩, fun x H' ⟨e, y⟩ => ?_⟩
    subst e y
    exact hs i _ hlt p
  · obtain rfl : i = n := by omega
    exact .inl ⟨Nat.le_refl _, hd H p⟩
theorem w_tup {K : PySem.W.Frag} {a : Addr} {xs : List V} {H1 : Hp} {Qd : Hp → Prop} {B : V → Hp → (Hp → Prop) → Prop} (Pv : Nat → Hp → Prop) (h0 : Pv 0 H1) (hl : ∀ i H, i ≤ xs.length → Pv i H → SqT K H a xs) (hs : ∀ i x H, xs[i]? = some x → Pv i H → B x H (Pv (i + 1))) (hd : ∀ H, Pv xs.length H → Qd H) : Walked (Itt K a) H1 Qd B := by
  refine ⟨fun i m H => m = xs.length - i ∧ i ≤ xs.length ∧ Pv i H, ⟨xs.length, rfl, Nat.zero_le _, h0⟩, ?_⟩
  rintro i m H ⟨rfl, hi, p⟩
  have q := hl i H hi p
  by_cases hlt : i < xs.length
  · refine .inr ⟨⟨xs, xs[i], q, by simp [hlt]⟩, Pv (i + 1), fun H' p' => ⟨xs.length - (i + 1), by omega, rfl, hlt, p'⟩, fun x H' ⟨e, y⟩ => ?_⟩
    subst e
    exact hs i x _ (y xs q) p
  · obtain rfl : i = xs.length := by omega
    exact .inl ⟨⟨xs, q, Nat.le_refl _⟩, hd H p⟩
theorem w_list {K : PySem.W.Frag} {a : Addr} {xs : List V} {H1 : Hp} {Qd : Hp → Prop} {B : V → Hp → (Hp → Prop) → Prop} (Pv : Nat → Hp → Prop) (h0 : Pv 0 H1) (hl : ∀ i H, i ≤ xs.length → Pv i H → SqL K H a xs) (hs : ∀ i x H, xs[i]? = some x → Pv i H → B x H (Pv (i + 1))) (hd : ∀ H, Pv xs.length H → Qd H) : Walked (Itl K a) H1 Qd B := by
  refine ⟨fun i m H => m = xs.length - i ∧ i ≤ xs.length ∧ Pv i H, ⟨xs.length, rfl, Nat.zero_le _, h0⟩, ?_⟩
  rintro i m H ⟨rfl, hi, p⟩
  have q := hl i H hi p
  by_cases hlt : i < xs.length
  · refine .inr ⟨⟨xs, xs[i], q, by simp [hlt]⟩, Pv (i + 1), fun H' p' => ⟨xs.length - (i + 1), by omega, rfl, hlt, p'⟩, fun x H' ⟨e, y⟩ => ?_⟩
    subst e
    exact hs i x _ (y xs q) p
  · obtain rfl : i = xs.length := by omega
    exact .inl ⟨⟨xs, q, Nat.le_refl _⟩, hd H p⟩
end G
set_option Elab.async false
set_option maxRecDepth 100000
set_option maxHeartbeats 4000000
/-! t[::-1] of a tuple -/
namespace G
open PySem PySem.Spec PyProof.Rows L2 HT
section
variable {prog : Program} {w : World} {A : Around} {E : Value → Shared → Prop} {s : Shared}
theorem pick_rev (xs : Array Value) : (List.range xs.size).filterMap (fun (m : Nat) => xs[(((xs.size : Int) - 1) + (m : Int) * (-1)).toNat]?) = xs.toList.reverse := by
  have e : (fun (m : Nat) => xs[(((xs.size : Int) - 1) + (m : Int) * (-1)).toNat]?) = (fun x => xs[x]?) ∘ fun k => xs.size - 1 - k := by
    funext m
    show _ = xs[xs.size - 1 - m]?
    rw [show (((xs.size : Int) - 1) + (m : Int) * (-1)).toNat = xs.size - 1 - m by omega]
  rw [e, ← List.filterMap_map, PySem.W.krv_range, List.filterMap_reverse, PySem.W.krv_all]
theorem places_rev (n : Nat) : Builtin.Slice.slicePlaces ((n : Int) - 1) (-1) (-1) = n := by
  unfold Builtin.Slice.slicePlaces
  simp only [show ¬ ((-1 : Int) > 0) by omega, if_false, show (-(-1 : Int)) = 1 from rfl, Int.ediv_one]
  split <;> omega
theorem applied_rev {sl : Addr} {vl vu vs : Value} {n : Nat} {Q : Int × Int × Nat → Shared → Prop} (hs : s.heap.IsSliceOf sl vl vu vs) (pl : IsPart vl none) (pu : IsPart vu none) (ps : IsPart vs (some (-1)))
    (h : Q ((n : Int) - 1, -1, n) s) : wpAny (model prog w) A (Builtin.Slice.sliceApplied (.ref sl) (pure (n : Int))) Q E s := by
  obtain ⟨os, hos, hcs, hds⟩ := id hs
  unfold Builtin.Slice.sliceApplied Builtin.Slice.sliceFields
  refine wpAny_bind (wpAny_bind (wpAny_field hos hds (x := vl) rfl (wpAny_bind (wpAny_field hos hds (x := vu) rfl (wpAny_bind (wpAny_field hos hds (x := vs) rfl (wpAny_pure (wpAny_bind (slicePart_ ps ?_)))))))))
  show wpAny _ _ (if ((-1 : Int) == 0) = true then _ else _) _ _ s
  rw [if_neg (by decide)]
  refine wpAny_bind (slicePart_ pl (wpAny_bind (slicePart_ pu (wpAny_bind (wpAny_pure (?_ : wpAny _ _ _ _ _ s))))))
  show wpAny _ _ (pure (((n : Int) - 1), (-1 : Int), Builtin.Slice.slicePlaces ((n : Int) - 1) (-1) (-1))) _ _ s
  rw [places_rev]
  exact wpAny_pure h
theorem item_rev {t sl : Addr} {items : Array Value} {vl vu vs : Value} {Q : Value → Shared → Prop} (ht : IsTup s.heap t items) (hs : s.heap.IsSliceOf sl vl vu vs) (pl : IsPart vl none) (pu : IsPart vu none) (ps : IsPart vs (some (-1)))
    (h : Q (.ref s.heap.objs.size) { s with heap := s.heap.push { cls := .type "tuple", data := .seq items.toList.reverse.toArray } }) (hz : items.size ≤ sizeLine) : wpAny (model prog w) A (getItem (.ref t) (.ref sl)) Q E s := by
  have fits : sizeOk (.seq items.toList.reverse.toArray) := by
    show items.toList.reverse.toArray.size ≤ sizeLine
    rw [List.size_toArray, List.length_reverse, Array.length_toList]
    exact hz
  have hTs : s.TypeIs (.ref sl) "slice" := hs.elim fun os q => ⟨os, q.1, q.2.1⟩
  unfold getItem
  try with_reducible refine wpAny_holding ?_
  first | refine wpAny_bind (wpAny_pure ?_) | skip
  refine wpAny_bind (wpAny_sequenceKey ht.typeIs (by decide) (wpAny_bind (wpAny_callSpecial?_slot (name := Str.ofString "__getitem__") ht.typeIs PyProof.Rows.slot_tuple_getitem
    (wpAny_call_entry PyProof.Rows.slot_tuple_getitem ht.typeIs entry_tuple_getitem ?_ (args_tuple_getitem _ _)))))
  show wpAny _ _ (Builtin.Tuple.tupleItemsOf (.ref t) >>= fun _ => _) _ _ s
  refine wpAny_bind (tupleItemsOf_ ht (wpAny_bind (wpAny_typeOf hTs ?_)))
  rw [if_pos (by decide)]
  refine wpAny_bind (applied_rev (n := items.size) hs pl pu ps ?_)
  have no : ¬ ((((items.size : Int) - 1) == 0 && (-1 : Int) == 1 && items.size == items.size) = true) := by simp
  show wpAny _ _ (if (((items.size : Int) - 1) == 0 && (-1 : Int) == 1 && items.size == items.size) = true then _ else _) _ _ s
  rw [if_neg no, pick_rev]
  first
    | exact wpAny_bind (m := Builtin.Tuple.tupleExact _) (wpAny_newObj_type (wpAny_pure ⟨_, rfl, wpAny_pure h⟩) fits)
    | exact wpAny_bind (m := Builtin.Tuple.tupleExact _) (wpAny_newObj_type (wpAny_bind (wpAny_pure (wpAny_pure ⟨_, rfl, wpAny_pure h⟩))) fits)
    | exact wpAny_bind (wpAny_bind (m := Builtin.Tuple.tupleExact _) (wpAny_newObj_type (wpAny_pure (wpAny_pure ⟨_, rfl, wpAny_pure h⟩)) fits))
    | exact wpAny_bind (wpAny_bind (m := Builtin.Tuple.tupleExact _) (wpAny_newObj_type (wpAny_pure ⟨_, rfl, wpAny_pure h⟩) fits))
end
section
variable {X : Cx}
/-- t[::-1] -/
def tRevT (K : PySem.W.Frag) (te : TE) : TE := fun σ H Q => te σ H fun x H1 => ∃ a xs, x = .ref a ∧ SqT K H1 a xs ∧ ∀ p, H1 p = none → Q (.ref p) (upd H1 p (.tup xs.reverse))
theorem pe_revT {e : Expr} {te : TE} {k : Nat} {p1 p2 p3 pos : Pos} (he : PE X e te) : PE X (.Subscript e (.Slice none none (some (.UnaryOp .USub (.Constant (.int 1) k p1) p2)) p3) pos) (tRevT X.K te) := by
  refine ⟨fun pins s σ H Q I h => Subscript_ (thn (he.run pins s σ H _ I h) fun v s1 ⟨x, H1, I1, r1, a, xs, ex, hx, q⟩ => ?_)⟩
  subst ex
  cases r1
  have step : PO X (some (.UnaryOp .USub (.Constant (.int 1) k p1) p2)) (tPart (tUn (rU fun i => .int (-i)) (tC (.int 1)))) := po_some (pe_un un_neg pe_int)
  refine wpAny_Slice (thn (po_none.run pins s1 σ H1 (fun o H2 => o = none ∧ H2 = H1) I1 ⟨rfl, rfl⟩) fun vl s2 ⟨l, H2, I2, pl, e1, e2⟩ => ?_)
  subst e1 e2
  refine thn (po_none.run pins s2 σ H2 (fun o H3 => o = none ∧ H3 = H2) I2 ⟨rfl, rfl⟩) fun vu s3 ⟨u, H3, I3, pu, e1, e2⟩ => ?_
  subst e1 e2
  refine thn (step.run pins s3 σ H3 (fun o H4 => o = some (-1) ∧ H4 = H3) I3 ⟨1, rfl, -1, rfl, rfl, rfl⟩) fun vs s4 ⟨o, H4, I4, ps, e1, e2⟩ => ?_
  subst e1 e2
  have I5 : Inv X pins σ H4 { s4 with heap := s4.heap.push { cls := .type "slice", data := .fields #[vl, vu, vs] } } := I4.kept (t' := s4.toks) fun b ob z => Heap.get?_push_of_some _ z
  obtain ⟨its, r, ht, hz⟩ := I5.tuple hx
  have hlen := r.length
  show wpAny (model X.prog X.w) X.A (subscriptTail e (.Slice none none (some (.UnaryOp .USub (.Constant (.int 1) k p1) p2)) p3) (.ref a) (.ref s4.heap.objs.size)) _ X.xe _
  refine tail_any (ops := [.ref a, .ref s4.heap.objs.size]) ht.typeIs PyProof.Rows.slot_tuple_getitem.lookup (item_rev ht (Heap.IsSliceOf.new _ vl vu vs) pl pu ps ?_ (by rw [List.size_toArray]; omega)) (by with_unfolding_all rfl)
  refine ⟨.ref _, _, I5.laid (t' := s4.toks) (o := .tup xs.reverse) (fun b ob z => Heap.get?_push_of_some _ z) (Nat.le_refl _) ?_, rfl, q _ (I5.hok.fresh (Nat.le_refl _))⟩
  exact ⟨by rw [List.length_reverse]; exact hz, _, r.reverse, _, Heap.get?_push_size _ rfl, rfl, 0, rfl⟩
end
end G
set_option Elab.async false
set_option maxRecDepth 100000
/-! spans of numbers under xor: bases, annihilators -/
namespace GF
/-! ### bits -/
theorem tb_log {n : Nat} (h : n ≠ 0) : n.testBit n.log2 = true := Nat.testBit_log2 h
theorem tb_above {n i : Nat} (h : n.log2 < i) : n.testBit i = false :=
  Nat.testBit_lt_two_pow (Nat.lt_of_lt_of_le Nat.lt_log2_self (Nat.pow_le_pow_right (by decide) h))
theorem log_of {n i : Nat} (h : n.testBit i = true) (hh : ∀ j, i < j → n.testBit j = false) : n ≠ 0 ∧ n.log2 = i := by
  have h0 : n ≠ 0 := fun z => by rw [z, Nat.zero_testBit] at h; cases h
  refine ⟨h0, ?_⟩
  rcases Nat.lt_trichotomy n.log2 i with c | c | c
  · rw [tb_above c] at h
    cases h
  · exact c
  · have := hh _ c
    rw [tb_log h0] at this
    cases this
theorem le_log {n i : Nat} (h : n.testBit i = true) : i ≤ n.log2 := Nat.le_of_not_lt fun c => by rw [tb_above c] at h; cases h
/-- decided at the highest bit in which they differ -/
theorem lt_of_bit {x y i : Nat} (h1 : x.testBit i = false) (h2 : y.testBit i = true) (hh : ∀ j, i < j → x.testBit j = y.testBit j) : x < y := by
  have key : x / 2 ^ (i + 1) = y / 2 ^ (i + 1) := by
    apply Nat.eq_of_testBit_eq
    intro j
    rw [Nat.testBit_div_two_pow, Nat.testBit_div_two_pow]
    exact hh _ (by omega)
  have hx : x / 2 ^ i % 2 = 0 := by
    have := h1
    rw [Nat.testBit_eq_decide_div_mod_eq] at this
    have := of_decide_eq_false this
    omega
  have hy : y / 2 ^ i % 2 = 1 := by
    have := h2
    rw [Nat.testBit_eq_decide_div_mod_eq] at this
    exact of_decide_eq_true this
  have e1 : ∀ z : Nat, z / 2 ^ (i + 1) = z / 2 ^ i / 2 := fun z => by rw [Nat.pow_succ, Nat.div_div_eq_div_mul]
  rw [e1, e1] at key
  have lt : x / 2 ^ i < y / 2 ^ i := by omega
  exact Nat.lt_of_div_lt_div lt
theorem ne_bit {x y : Nat} (h : x ≠ y) : (x ^^^ y) ≠ 0 := fun z => h (by
  apply Nat.eq_of_testBit_eq
  intro i
  have e : (x ^^^ y).testBit i = false := by rw [z, Nat.zero_testBit]
  rw [Nat.testBit_xor] at e
  cases hx : x.testBit i <;> cases hy : y.testBit i <;> rw [hx, hy] at e <;> simp at e ⊢)
/-- of two different numbers the lower has 0 at the highest bit of their sum -/
theorem bit_of_lt {x y : Nat} (h : x < y) : x.testBit (x ^^^ y).log2 = false ∧ y.testBit (x ^^^ y).log2 = true := by
  have hn : x ≠ y := Nat.ne_of_lt h
  have ht := tb_log (ne_bit hn)
  have hh : ∀ j, (x ^^^ y).log2 < j → x.testBit j = y.testBit j := fun j hj => by
    have := tb_above hj
    rw [Nat.testBit_xor] at this
    cases hx : x.testBit j <;> cases hy : y.testBit j <;> rw [hx, hy] at this <;> simp at this ⊢
  rw [Nat.testBit_xor] at ht
  cases hx : x.testBit (x ^^^ y).log2 <;> cases hy : y.testBit (x ^^^ y).log2 <;> rw [hx, hy] at ht
  · simp at ht
  · exact ⟨rfl, rfl⟩
  · exact absurd (lt_of_bit hy hx fun j hj => (hh j hj).symm) (Nat.lt_asymm h)
  · simp at ht
/-! ### the smaller of v and v ^ r -/
theorem min_is {v r : Nat} (hr : r ≠ 0) : min v (v ^^^ r) = if v.testBit r.log2 = true then v ^^^ r else v := by
  have hb := tb_log hr
  have hh : ∀ j, r.log2 < j → (v ^^^ r).testBit j = v.testBit j := fun j hj => by rw [Nat.testBit_xor, tb_above hj, Bool.xor_false]
  cases hv : v.testBit r.log2
  · rw [if_neg (by decide)]
    have : v < v ^^^ r := lt_of_bit hv (by rw [Nat.testBit_xor, hv, hb]; rfl) fun j hj => (hh j hj).symm
    omega
  · rw [if_pos rfl]
    have : v ^^^ r < v := lt_of_bit (by rw [Nat.testBit_xor, hv, hb]; rfl) hv hh
    omega
theorem min_bit {v r : Nat} (hr : r ≠ 0) : (min v (v ^^^ r)).testBit r.log2 = false := by
  rw [min_is hr]
  split
  · rename_i h
    rw [Nat.testBit_xor, h, tb_log hr]
    rfl
  · rename_i h
    simpa using h
theorem min_other {v r i : Nat} (hr : r ≠ 0) (h : r.testBit i = false) : (min v (v ^^^ r)).testBit i = v.testBit i := by
  rw [min_is hr]
  split
  · rw [Nat.testBit_xor, h, Bool.xor_false]
  · rfl
/-! ### spans -/
def InS : List Nat → Nat → Prop
  | [], x => x = 0
  | v :: vs, x => InS vs x ∨ InS vs (x ^^^ v)
theorem ins_0 : ∀ vs, InS vs 0
  | [] => rfl
  | _ :: vs => .inl (ins_0 vs)
theorem ins_xor : ∀ {vs x y}, InS vs x → InS vs y → InS vs (x ^^^ y)
  | [], x, y, h1, h2 => by
    have e1 : x = 0 := h1
    have e2 : y = 0 := h2
    rw [e1, e2]
    rfl
  | v :: vs, x, y, h1, h2 => by
    have c1 : x ^^^ y ^^^ v = x ^^^ (y ^^^ v) := Nat.xor_assoc ..
    have c2 : x ^^^ y ^^^ v = (x ^^^ v) ^^^ y := by rw [Nat.xor_assoc, Nat.xor_comm y v, ← Nat.xor_assoc]
    have c3 : (x ^^^ v) ^^^ (y ^^^ v) = x ^^^ y := by
      rw [Nat.xor_comm y v, Nat.xor_assoc, ← Nat.xor_assoc v v y, Nat.xor_self, Nat.zero_xor]
    rcases h1 with h1 | h1 <;> rcases h2 with h2 | h2
    · exact .inl (ins_xor h1 h2)
    · exact .inr (c1 ▸ ins_xor h1 h2)
    · exact .inr (c2 ▸ ins_xor h1 h2)
    · exact .inl (c3 ▸ ins_xor h1 h2)
theorem ins_mem : ∀ {vs v}, v ∈ vs → InS vs v
  | w :: vs, v, h => by
    rcases List.mem_cons.mp h with rfl | h
    · exact .inr (by rw [Nat.xor_self]; exact ins_0 vs)
    · exact .inl (ins_mem h)
theorem ins_le : ∀ {vs ws : List Nat}, (∀ v ∈ vs, InS ws v) → ∀ {x}, InS vs x → InS ws x
  | [], ws, _, x, h => by
    have e : x = 0 := h
    rw [e]
    exact ins_0 ws
  | v :: vs, ws, hv, x, h => by
    have hv' := fun u hu => hv u (List.mem_cons_of_mem _ hu)
    rcases h with h | h
    · exact ins_le hv' h
    · have h1 := ins_xor (ins_le hv' h) (hv v (List.mem_cons_self ..))
      rw [Nat.xor_assoc, Nat.xor_self, Nat.xor_zero] at h1
      exact h1
theorem ins_bit {i : Nat} : ∀ {vs : List Nat}, (∀ v ∈ vs, v.testBit i = false) → ∀ {x}, InS vs x → x.testBit i = false
  | [], _, x, h => by
    have e : x = 0 := h
    rw [e, Nat.zero_testBit]
  | v :: vs, hv, x, h => by
    have hv' := fun u hu => hv u (List.mem_cons_of_mem _ hu)
    rcases h with h | h
    · exact ins_bit hv' h
    · have h1 := ins_bit hv' h
      rw [Nat.testBit_xor, hv v (List.mem_cons_self ..), Bool.xor_false] at h1
      exact h1
/-! ### reduced rows -/
def Apart (a b : Nat) : Prop := b.testBit a.log2 = false ∧ a.testBit b.log2 = false
structure Red (rows : List Nat) : Prop where
  pos : ∀ r ∈ rows, r ≠ 0
  ap : rows.Pairwise Apart
theorem Red.tail {r : Nat} {rows : List Nat} (h : Red (r :: rows)) : Red rows := ⟨fun x hx => h.pos x (List.mem_cons_of_mem _ hx), (List.pairwise_cons.mp h.ap).2⟩
/-- the highest bit of what is in the span is one of the rows' -/
theorem lead : ∀ {rows : List Nat}, Red rows → ∀ {y}, InS rows y → y ≠ 0 → ∃ r ∈ rows, r.log2 = y.log2
  | [], _, y, h, hy => absurd h hy
  | r :: rows, R, y, h, hy => by
    obtain ⟨ap, _⟩ := List.pairwise_cons.mp R.ap
    have hr := R.pos r (List.mem_cons_self ..)
    rcases h with h | h
    · obtain ⟨u, hu, e⟩ := lead R.tail h hy
      exact ⟨u, List.mem_cons_of_mem _ hu, e⟩
    · by_cases hz : y ^^^ r = 0
      · have e : y = r := Classical.byContradiction fun n => ne_bit n hz
        exact ⟨r, List.mem_cons_self .., by rw [e]⟩
      · obtain ⟨u, hu, e⟩ := lead R.tail h hz
        have hzr : (y ^^^ r).testBit r.log2 = false := ins_bit (fun v hv => (ap v hv).1) h
        have hru : r.testBit u.log2 = false := (ap u hu).2
        have ey : ∀ j, y.testBit j = ((y ^^^ r).testBit j ^^ r.testBit j) := fun j => by
          rw [Nat.testBit_xor]
          cases y.testBit j <;> cases r.testBit j <;> rfl
        rcases Nat.lt_trichotomy r.log2 u.log2 with c | c | c
        · refine ⟨u, List.mem_cons_of_mem _ hu, (log_of (i := u.log2) ?_ fun j hj => ?_).2.symm⟩
          · rw [ey, hru, e, tb_log hz]
            rfl
          · rw [ey, tb_above (by omega), tb_above (by omega)]
            rfl
        · rw [← c, tb_log hr] at hru
          cases hru
        · refine ⟨r, List.mem_cons_self .., (log_of (i := r.log2) ?_ fun j hj => ?_).2.symm⟩
          · rw [ey, hzr, tb_log hr]
            rfl
          · rw [ey, tb_above (by omega), tb_above (by omega)]
            rfl
theorem red_inj {rows : List Nat} (R : Red rows) : ∀ {a b}, a ∈ rows → b ∈ rows → a.testBit b.log2 = true → a = b := fun {a b} ha hb h => by
  obtain ⟨pos, ap⟩ := R
  induction rows with
  | nil => cases ha
  | cons r rows ih =>
    obtain ⟨a1, a2⟩ := List.pairwise_cons.mp ap
    rcases List.mem_cons.mp ha with ea | ha'
    · rcases List.mem_cons.mp hb with eb | hb'
      · rw [ea, eb]
      · rw [ea, (a1 b hb').2] at h
        cases h
    · rcases List.mem_cons.mp hb with eb | hb'
      · rw [eb, (a1 a ha').1] at h
        cases h
      · exact ih ha' hb' (fun x hx => pos x (List.mem_cons_of_mem _ hx)) a2
/-- each row is the least with its highest bit -/
theorem least {rows : List Nat} (R : Red rows) {r x : Nat} (hr : r ∈ rows) (hx : InS rows x) (e : x.log2 = r.log2) (h0 : x ≠ 0) : r ≤ x := by
  refine Nat.le_of_not_lt fun c => ?_
  obtain ⟨b1, b2⟩ := bit_of_lt c
  have hs : InS rows (x ^^^ r) := ins_xor hx (ins_mem hr)
  obtain ⟨u, hu, eu⟩ := lead R hs (ne_bit (Nat.ne_of_lt c))
  rw [← eu] at b1 b2
  have := red_inj R hr hu b2
  subst this
  rw [← e, tb_log h0] at b1
  cases b1
/-! ### the basis of a set, told by what it is -/
structure Can (S : Nat → Prop) (L : List Nat) : Prop where
  srt : L.Pairwise (· < ·)
  iff : ∀ x, x ∈ L ↔ (x ≠ 0 ∧ S x ∧ ∀ y, S y → y ≠ 0 → y.log2 = x.log2 → x ≤ y)
theorem sorted_ext : ∀ {a b : List Nat}, a.Pairwise (· < ·) → b.Pairwise (· < ·) → (∀ x, x ∈ a ↔ x ∈ b) → a = b
  | [], [], _, _, _ => rfl
  | [], y :: b, _, _, h => nomatch (h y).mpr (List.mem_cons_self ..)
  | x :: a, [], _, _, h => nomatch (h x).mp (List.mem_cons_self ..)
  | x :: a, y :: b, ha, hb, h => by
    obtain ⟨a1, a2⟩ := List.pairwise_cons.mp ha
    obtain ⟨b1, b2⟩ := List.pairwise_cons.mp hb
    have e : x = y := by
      rcases List.mem_cons.mp ((h x).mp (List.mem_cons_self ..)) with e | e
      · exact e
      · rcases List.mem_cons.mp ((h y).mpr (List.mem_cons_self ..)) with e2 | e2
        · exact e2.symm
        · have := b1 x e
          have := a1 y e2
          omega
    subst e
    rw [sorted_ext a2 b2 fun z => ⟨fun hz => ?_, fun hz => ?_⟩]
    · rcases List.mem_cons.mp ((h z).mp (List.mem_cons_of_mem _ hz)) with e | e
      · have := a1 z hz
        omega
      · exact e
    · rcases List.mem_cons.mp ((h z).mpr (List.mem_cons_of_mem _ hz)) with e | e
      · have := b1 z hz
        omega
      · exact e
theorem Can.eq {S T : Nat → Prop} {a b : List Nat} (ha : Can S a) (hb : Can T b) (h : ∀ x, S x ↔ T x) : a = b :=
  sorted_ext ha.srt hb.srt fun x => by
    rw [ha.iff, hb.iff, h]
    exact ⟨fun ⟨a, b, c⟩ => ⟨a, b, fun y q => c y ((h y).mpr q)⟩, fun ⟨a, b, c⟩ => ⟨a, b, fun y q => c y ((h y).mp q)⟩⟩
theorem red_can {rows : List Nat} (R : Red rows) (hs : rows.Pairwise (· < ·)) : Can (InS rows) rows := by
  refine ⟨hs, fun x => ⟨fun hx => ⟨R.pos x hx, ins_mem hx, fun y hy h0 e => least R hx hy e h0⟩, fun ⟨h0, hx, hl⟩ => ?_⟩⟩
  obtain ⟨r, hr, e⟩ := lead R hx h0
  have h1 := hl r (ins_mem hr) (R.pos r hr) e
  have h2 := least R hr hx e.symm h0
  have e2 : x = r := Nat.le_antisymm h1 h2
  rw [e2]
  exact hr
/-! ### remainders -/
def rem (rows : List Nat) (v : Nat) : Nat := rows.foldl (fun v r => min v (v ^^^ r)) v
theorem min_or (v r : Nat) : min v (v ^^^ r) = v ∨ min v (v ^^^ r) = v ^^^ r := by omega
theorem rem_in : ∀ (rows : List Nat) (v : Nat), InS rows (rem rows v ^^^ v)
  | [], v => by
    show v ^^^ v = 0
    rw [Nat.xor_self]
  | r :: rows, v => by
    have h := rem_in rows (min v (v ^^^ r))
    show InS rows (rem rows (min v (v ^^^ r)) ^^^ v) ∨ InS rows (rem rows (min v (v ^^^ r)) ^^^ v ^^^ r)
    rcases min_or v r with e | e <;> rw [e] at h ⊢
    · exact .inl h
    · exact .inr (by rw [Nat.xor_assoc]; exact h)
theorem rem_keeps {i : Nat} : ∀ {rows : List Nat} {v : Nat}, (∀ r ∈ rows, r ≠ 0) → (∀ r ∈ rows, r.testBit i = false) → (rem rows v).testBit i = v.testBit i
  | [], _, _, _ => rfl
  | r :: rows, v, h0, h => by
    show (rem rows (min v (v ^^^ r))).testBit i = _
    rw [rem_keeps (fun x hx => h0 x (List.mem_cons_of_mem _ hx)) (fun x hx => h x (List.mem_cons_of_mem _ hx)), min_other (h0 r (List.mem_cons_self ..)) (h r (List.mem_cons_self ..))]
theorem rem_clear : ∀ {rows : List Nat} {v : Nat}, Red rows → ∀ r ∈ rows, (rem rows v).testBit r.log2 = false
  | r :: rows, v, R, u, hu => by
    obtain ⟨ap, _⟩ := List.pairwise_cons.mp R.ap
    show (rem rows (min v (v ^^^ r))).testBit u.log2 = false
    rcases List.mem_cons.mp hu with rfl | hu
    · rw [rem_keeps R.tail.pos fun x hx => (ap x hx).1, min_bit (R.pos _ (List.mem_cons_self ..))]
    · exact rem_clear R.tail u hu
theorem rem_zero {rows : List Nat} (R : Red rows) (v : Nat) : rem rows v = 0 ↔ InS rows v := by
  constructor
  · intro h
    have := rem_in rows v
    rw [h, Nat.zero_xor] at this
    exact this
  · intro h
    refine Classical.byContradiction fun n => ?_
    have h1 := ins_xor (rem_in rows v) h
    rw [Nat.xor_assoc, Nat.xor_self, Nat.xor_zero] at h1
    obtain ⟨r, hr, e⟩ := lead R h1 n
    have := rem_clear (v := v) R r hr
    rw [e, tb_log n] at this
    cases this
/-! ### the loop that reduces -/
def step (rows : List Nat) (v : Nat) : List Nat := if 0 < rem rows v then rows.map (fun r => min r (r ^^^ rem rows v)) ++ [rem rows v] else rows
def red0 (vs : List Nat) : List Nat := vs.foldl step []
theorem min_log {r x : Nat} (hr : r ≠ 0) (hx : x ≠ 0) (h : x.testBit r.log2 = false) : min r (r ^^^ x) ≠ 0 ∧ (min r (r ^^^ x)).log2 = r.log2 := by
  refine log_of (by rw [min_other hx h, tb_log hr]) fun j hj => ?_
  rw [min_is hx]
  split
  · rename_i hb
    have := le_log hb
    rw [Nat.testBit_xor, tb_above hj, tb_above (by omega)]
    rfl
  · exact tb_above hj
theorem step_red {rows : List Nat} {v : Nat} (R : Red rows) : Red (step rows v) := by
  unfold step
  split
  · rename_i hp
    have hx : rem rows v ≠ 0 := Nat.ne_of_gt hp
    have cl := rem_clear (v := v) R
    generalize rem rows v = x at hx cl
    refine ⟨fun y hy => ?_, ?_⟩
    · rcases List.mem_append.mp hy with hy | hy
      · obtain ⟨r, hr, rfl⟩ := List.mem_map.mp hy
        exact (min_log (R.pos r hr) hx (cl r hr)).1
      · rw [List.mem_singleton.mp hy]
        exact hx
    · rw [List.pairwise_append]
      refine ⟨?_, List.pairwise_singleton .., fun a ha b hb => ?_⟩
      · rw [List.pairwise_map]
        refine List.Pairwise.imp_of_mem (fun {a b} ha hb h => ?_) R.ap
        have la := (min_log (R.pos a ha) hx (cl a ha)).2
        have lb := (min_log (R.pos b hb) hx (cl b hb)).2
        exact ⟨by rw [la, min_other hx (cl a ha)]; exact h.1, by rw [lb, min_other hx (cl b hb)]; exact h.2⟩
      · rw [List.mem_singleton.mp hb]
        obtain ⟨r, hr, rfl⟩ := List.mem_map.mp ha
        exact ⟨by rw [(min_log (R.pos r hr) hx (cl r hr)).2]; exact cl r hr, min_bit hx⟩
  · exact R
theorem step_span {rows : List Nat} {v : Nat} (R : Red rows) (x : Nat) : InS (step rows v) x ↔ InS (v :: rows) x := by
  have hv : InS (v :: rows) (rem rows v) := by
    have h1 : InS (v :: rows) (rem rows v ^^^ v) := .inl (rem_in rows v)
    have h2 := ins_xor h1 (ins_mem (List.mem_cons_self ..))
    rw [Nat.xor_assoc, Nat.xor_self, Nat.xor_zero] at h2
    exact h2
  unfold step
  split
  · constructor
    · refine ins_le fun u hu => ?_
      rcases List.mem_append.mp hu with hu | hu
      · obtain ⟨r, hr, rfl⟩ := List.mem_map.mp hu
        have hr' : InS (v :: rows) r := ins_mem (List.mem_cons_of_mem _ hr)
        rcases min_or r (rem rows v) with e | e <;> rw [e]
        · exact hr'
        · exact ins_xor hr' hv
      · rw [List.mem_singleton.mp hu]
        exact hv
    · have hX : InS (rows.map (fun r => min r (r ^^^ rem rows v)) ++ [rem rows v]) (rem rows v) := ins_mem (List.mem_append_right _ (List.mem_cons_self ..))
      have hR : ∀ r ∈ rows, InS (rows.map (fun r => min r (r ^^^ rem rows v)) ++ [rem rows v]) r := fun r hr => by
        have h1 : InS (rows.map (fun r => min r (r ^^^ rem rows v)) ++ [rem rows v]) (min r (r ^^^ rem rows v)) := ins_mem (List.mem_append_left _ (List.mem_map.mpr ⟨r, hr, rfl⟩))
        rcases min_or r (rem rows v) with e | e <;> rw [e] at h1
        · exact h1
        · have h2 := ins_xor h1 hX
          rw [Nat.xor_assoc, Nat.xor_self, Nat.xor_zero] at h2
          exact h2
      refine ins_le fun u hu => ?_
      rcases List.mem_cons.mp hu with rfl | hu
      · have h1 := ins_le hR (rem_in rows u)
        have h2 := ins_xor h1 hX
        rw [Nat.xor_comm (rem rows u) u, Nat.xor_assoc, Nat.xor_self, Nat.xor_zero] at h2
        exact h2
      · exact hR u hu
  · rename_i hp
    have h0 : rem rows v = 0 := by omega
    have hv0 := (rem_zero R v).mp h0
    constructor
    · exact fun h => .inl h
    · refine ins_le fun u hu => ?_
      rcases List.mem_cons.mp hu with rfl | hu
      · exact hv0
      · exact ins_mem hu
theorem foldl_red : ∀ (vs rows : List Nat), Red rows → Red (vs.foldl step rows) ∧ ∀ x, InS (vs.foldl step rows) x ↔ InS (vs ++ rows) x
  | [], rows, R => ⟨R, fun x => Iff.rfl⟩
  | v :: vs, rows, R => by
    obtain ⟨h1, h2⟩ := foldl_red vs (step rows v) (step_red R)
    refine ⟨h1, fun x => (h2 x).trans ?_⟩
    constructor
    · refine ins_le fun u hu => ?_
      rcases List.mem_append.mp hu with hu | hu
      · exact ins_mem (List.mem_cons_of_mem _ (List.mem_append_left _ hu))
      · refine ins_le (fun z hz => ?_) ((step_span R u).mp (ins_mem hu))
        rcases List.mem_cons.mp hz with rfl | hz
        · exact ins_mem (List.mem_cons_self ..)
        · exact ins_mem (List.mem_cons_of_mem _ (List.mem_append_right _ hz))
    · have hst : ∀ z, InS (step rows v) z → InS (vs ++ step rows v) z := fun z => ins_le fun y hy => ins_mem (List.mem_append_right _ hy)
      refine ins_le fun u hu => ?_
      rcases List.mem_cons.mp hu with rfl | hu
      · exact hst _ ((step_span R _).mpr (ins_mem (List.mem_cons_self ..)))
      · rcases List.mem_append.mp hu with hu | hu
        · exact ins_mem (List.mem_append_left _ hu)
        · exact hst _ ((step_span R _).mpr (ins_mem (List.mem_cons_of_mem _ hu)))
theorem red0_red (vs : List Nat) : Red (red0 vs) := (foldl_red vs [] ⟨fun _ h => (by cases h), List.Pairwise.nil⟩).1
theorem red0_span (vs : List Nat) (x : Nat) : InS (red0 vs) x ↔ InS vs x := by
  have := (foldl_red vs [] ⟨fun _ h => (by cases h), List.Pairwise.nil⟩).2 x
  rw [List.append_nil] at this
  exact this
theorem Red.perm {a b : List Nat} (R : Red a) (p : b.Perm a) : Red b :=
  ⟨fun x hx => R.pos x (p.mem_iff.mp hx), (p.pairwise_iff fun {x y} h => ⟨h.2, h.1⟩).mpr R.ap⟩
theorem span_perm {a b : List Nat} (p : b.Perm a) (x : Nat) : InS b x ↔ InS a x :=
  ⟨ins_le fun u hu => ins_mem (p.mem_iff.mp hu), ins_le fun u hu => ins_mem (p.mem_iff.mpr hu)⟩
theorem red_nodup {rows : List Nat} (R : Red rows) : rows.Nodup := by
  refine List.Pairwise.imp_of_mem (fun {a b} ha _ h e => ?_) R.ap
  subst e
  have := h.1
  rw [tb_log (R.pos a ha)] at this
  cases this
/-- sorted, the rows are the basis -/
theorem sorted_can {vs L : List Nat} (p : L.Perm (red0 vs)) (hs : L.Pairwise (· ≤ ·)) : Can (InS vs) L ∧ Red L := by
  have R := (red0_red vs).perm p
  have nd := red_nodup R
  have hlt : L.Pairwise (· < ·) := (hs.and nd).imp fun {a b} h => by
    have h2 : a ≠ b := h.2
    have h1 : a ≤ b := h.1
    omega
  have C := red_can R hlt
  refine ⟨⟨hlt, fun x => (C.iff x).trans ?_⟩, R⟩
  have e : ∀ y, InS L y ↔ InS vs y := fun y => (span_perm p y).trans (red0_span vs y)
  rw [e]
  exact ⟨fun ⟨a, b, c⟩ => ⟨a, b, fun y q => c y ((e y).mpr q)⟩, fun ⟨a, b, c⟩ => ⟨a, b, fun y q => c y ((e y).mp q)⟩⟩
end GF
set_option Elab.async false
set_option maxRecDepth 100000
/-! parity, the masks that are orthogonal to vectors -/
namespace GF
/-- how many one bits -/
def pc (n : Nat) : Nat := if h : n = 0 then 0 else n % 2 + pc (n / 2)
termination_by n
decreasing_by omega
theorem pc_0 : pc 0 = 0 := by rw [pc]; rfl
theorem pc_eq (n : Nat) : pc n = n % 2 + pc (n / 2) := by
  by_cases h : n = 0
  · subst h
    rw [pc_0]
  · rw [pc, dif_neg h]
def par (n : Nat) : Nat := pc n % 2
theorem par_0 : par 0 = 0 := by unfold par; rw [pc_0]
theorem par_eq (n : Nat) : par n = (n % 2 + par (n / 2)) % 2 := by
  unfold par
  rw [pc_eq n]
  omega
theorem par_lt (n : Nat) : par n < 2 := Nat.mod_lt _ (by decide)
theorem par_xor (a b : Nat) : par (a ^^^ b) = (par a + par b) % 2 := by
  induction a using Nat.strongRecOn generalizing b with
  | _ a ih =>
    by_cases h : a = 0
    · subst h
      rw [Nat.zero_xor, par_0]
      have := par_lt b
      omega
    · have e := ih (a / 2) (by omega) (b / 2)
      rw [par_eq (a ^^^ b), Nat.xor_div_two, e, par_eq a, par_eq b]
      have h1 := @Nat.xor_mod_two_eq_one a b
      omega
theorem par_pow : ∀ l, par (2 ^ l) = 1
  | 0 => by
    rw [par_eq]
    show (1 % 2 + par (1 / 2)) % 2 = 1
    rw [show (1 / 2 : Nat) = 0 from rfl, par_0]
  | l + 1 => by
    rw [par_eq, Nat.pow_succ, Nat.mul_mod_left, Nat.mul_div_cancel _ (by decide), par_pow l]
/-- the parity of a & b -/
def dot (a b : Nat) : Nat := par (a &&& b)
theorem dot_comm (a b : Nat) : dot a b = dot b a := by unfold dot; rw [Nat.and_comm]
theorem dot_xor_l (a b c : Nat) : dot (a ^^^ b) c = (dot a c + dot b c) % 2 := by unfold dot; rw [Nat.and_xor_distrib_right, par_xor]
theorem dot_xor_r (a b c : Nat) : dot a (b ^^^ c) = (dot a b + dot a c) % 2 := by unfold dot; rw [Nat.and_xor_distrib_left, par_xor]
theorem dot_0 (a : Nat) : dot a 0 = 0 := by unfold dot; rw [Nat.and_zero, par_0]
theorem and_pow (x l : Nat) : x &&& 2 ^ l = if x.testBit l = true then 2 ^ l else 0 := by
  apply Nat.eq_of_testBit_eq
  intro i
  rw [Nat.testBit_and, Nat.testBit_two_pow]
  by_cases e : l = i
  · subst e
    cases h : x.testBit l
    · rw [if_neg (by decide), Nat.zero_testBit]
      rfl
    · rw [if_pos rfl, Nat.testBit_two_pow]
      rfl
  · rw [decide_eq_false e, Bool.and_false]
    split
    · rw [Nat.testBit_two_pow, decide_eq_false e]
    · rw [Nat.zero_testBit]
def has (x l : Nat) : Nat := if x.testBit l = true then 1 else 0
theorem dot_pow (x l : Nat) : dot x (2 ^ l) = has x l := by
  unfold dot has
  rw [and_pow]
  split
  · exact par_pow l
  · exact par_0
theorem ins_dot {m : Nat} : ∀ {vs : List Nat}, (∀ v ∈ vs, dot v m = 0) → ∀ {x}, InS vs x → dot x m = 0
  | [], _, x, h => by
    have e : x = 0 := h
    rw [e, dot_comm, dot_0]
  | v :: vs, hv, x, h => by
    have hv' := fun u hu => hv u (List.mem_cons_of_mem _ hu)
    rcases h with h | h
    · exact ins_dot hv' h
    · have h1 := ins_dot hv' h
      rw [dot_xor_l, hv v (List.mem_cons_self ..)] at h1
      have : dot x m < 2 := par_lt _
      omega
theorem add_pow {n l : Nat} (h : n.testBit l = false) : n + 2 ^ l = n ^^^ 2 ^ l := by
  have e := Bits.nat_xor_add_and n (2 ^ l)
  rw [and_pow, if_neg (by rw [h]; decide)] at e
  omega
/-- powers of two added, one by one, where there was none -/
theorem add_pows (x w : Nat) : ∀ (ls : List Nat) (n : Nat), ls.Nodup → (∀ l ∈ ls, n.testBit l = false ∧ l < w) → n < 2 ^ w →
    dot x (n + (ls.map (2 ^ ·)).sum) = (dot x n + (ls.map (has x)).sum) % 2 ∧ n + (ls.map (2 ^ ·)).sum < 2 ^ w ∧ ∀ i, i ∉ ls → (n + (ls.map (2 ^ ·)).sum).testBit i = n.testBit i
  | [], n, _, _, hn => by
    have : dot x n < 2 := par_lt _
    refine ⟨?_, hn, fun _ _ => rfl⟩
    show dot x n = (dot x n + 0) % 2
    omega
  | l :: ls, n, nd, h, hn => by
    obtain ⟨h1, h2⟩ := List.nodup_cons.mp nd
    obtain ⟨hb, hw⟩ := h l (List.mem_cons_self ..)
    have e : n + 2 ^ l = n ^^^ 2 ^ l := add_pow hb
    have hlt : n ^^^ 2 ^ l < 2 ^ w := Nat.xor_lt_two_pow hn (Nat.pow_lt_pow_right (by decide) hw)
    have hbits : ∀ i, i ≠ l → (n ^^^ 2 ^ l).testBit i = n.testBit i := fun i hi => by
      rw [Nat.testBit_xor, Nat.testBit_two_pow, decide_eq_false (Ne.symm hi), Bool.xor_false]
    obtain ⟨i1, i2, i3⟩ := add_pows x w ls (n ^^^ 2 ^ l) h2 (fun k hk => by
      have hne : k ≠ l := fun z => h1 (z ▸ hk)
      rw [hbits k hne]
      exact h k (List.mem_cons_of_mem _ hk)) hlt
    have e2 : n + ((l :: ls).map (2 ^ ·)).sum = (n ^^^ 2 ^ l) + (ls.map (2 ^ ·)).sum := by
      rw [List.map_cons, List.sum_cons, ← e]
      omega
    rw [e2]
    refine ⟨?_, i2, fun i hi => ?_⟩
    · rw [i1, dot_xor_r, dot_pow, List.map_cons, List.sum_cons]
      omega
    · rw [i3 i fun z => hi (List.mem_cons_of_mem _ z), hbits i fun z => hi (z ▸ List.mem_cons_self ..)]
/-! ### the masks -/
def mk (L : List Nat) (j : Nat) : Nat := 2 ^ j + ((L.filter fun r => r.testBit j).map fun r => 2 ^ r.log2).sum
def isFree (L : List Nat) (j : Nat) : Prop := ∀ r ∈ L, r.log2 ≠ j
section
variable {L : List Nat} {w : Nat}
theorem red_logs (R : Red L) : (L.map Nat.log2).Nodup := by
  refine List.pairwise_map.mpr (List.Pairwise.imp_of_mem (fun {a b} ha hb h e => ?_) R.ap)
  have := h.1
  rw [e, tb_log (R.pos b hb)] at this
  cases this
theorem mk_all (R : Red L) (hw : ∀ r ∈ L, r < 2 ^ w) {j : Nat} (hj : j < w) (hf : isFree L j) (x : Nat) :
    dot x (mk L j) = (has x j + ((L.filter fun r => r.testBit j).map fun r => has x r.log2).sum) % 2 ∧ mk L j < 2 ^ w ∧ (∀ i, isFree L i → (mk L j).testBit i = decide (j = i)) := by
  have nd : ((L.filter fun r => r.testBit j).map Nat.log2).Nodup := (red_logs R).sublist (List.Sublist.map _ List.filter_sublist)
  obtain ⟨h1, h2, h3⟩ := add_pows x w ((L.filter fun r => r.testBit j).map Nat.log2) (2 ^ j) nd (fun l hl => by
    obtain ⟨r, hr, rfl⟩ := List.mem_map.mp hl
    have hr' := (List.mem_filter.mp hr).1
    refine ⟨?_, (Nat.log2_lt (R.pos r hr')).mpr (hw r hr')⟩
    rw [Nat.testBit_two_pow]
    exact decide_eq_false (fun z => hf r hr' z.symm)) (Nat.pow_lt_pow_right (by decide) hj)
  rw [List.map_map] at h1 h2 h3
  rw [List.map_map, dot_pow] at h1
  refine ⟨h1, h2, fun i hi => ?_⟩
  have e := h3 i (fun z => by
    obtain ⟨r, hr, e⟩ := List.mem_map.mp z
    exact hi r (List.mem_filter.mp hr).1 e)
  rw [Nat.testBit_two_pow] at e
  exact e
theorem sum_own : ∀ {L : List Nat}, Red L → ∀ {x}, x ∈ L → ∀ j, ((L.filter fun r => r.testBit j).map fun r => has x r.log2).sum = has x j
  | r :: L, R, x, hx, j => by
    obtain ⟨ap, _⟩ := List.pairwise_cons.mp R.ap
    have zero : ∀ (M : List Nat), (∀ u ∈ M, x.testBit u.log2 = false) → ((M.filter fun r => r.testBit j).map fun r => has x r.log2).sum = 0 := by
      intro M
      induction M with
      | nil => intro _; rfl
      | cons u M ih =>
        intro hM
        have i1 := ih fun z hz => hM z (List.mem_cons_of_mem _ hz)
        rw [List.filter_cons]
        split
        · rw [List.map_cons, List.sum_cons, i1]
          unfold has
          rw [hM u (List.mem_cons_self ..)]
          rfl
        · exact i1
    rw [List.filter_cons]
    rcases List.mem_cons.mp hx with rfl | hx
    · have z := zero L fun u hu => (ap u hu).2
      split
      · rename_i hj
        rw [List.map_cons, List.sum_cons, z]
        unfold has
        rw [tb_log (R.pos x (List.mem_cons_self ..)), hj]
        rfl
      · rename_i hj
        rw [z]
        unfold has
        rw [if_neg hj]
    · have i1 := sum_own R.tail hx j
      have hz : has x r.log2 = 0 := by
        unfold has
        rw [(ap x hx).1]
        rfl
      split
      · rw [List.map_cons, List.sum_cons, i1, hz]
        omega
      · exact i1
/-- orthogonal to all of them -/
def Orth (vs : List Nat) (m : Nat) : Prop := ∀ v ∈ vs, dot v m = 0
theorem mk_orth (R : Red L) (hw : ∀ r ∈ L, r < 2 ^ w) {j : Nat} (hj : j < w) (hf : isFree L j) : Orth L (mk L j) := fun x hx => by
  rw [(mk_all R hw hj hf x).1, sum_own R hx]
  omega
theorem orth_xor {vs : List Nat} {a b : Nat} (ha : Orth vs a) (hb : Orth vs b) : Orth vs (a ^^^ b) := fun v hv => by
  rw [dot_xor_r, ha v hv, hb v hv]
/-- free bits cleared, one by one -/
def clean (L : List Nat) : List Nat → Nat → Nat
  | [], m => m
  | j :: js, m => clean L js (if m.testBit j = true then m ^^^ mk L j else m)
theorem clean_all (R : Red L) (hw : ∀ r ∈ L, r < 2 ^ w) (M : List Nat) : ∀ (js : List Nat) (m : Nat), (∀ j ∈ js, j < w ∧ isFree L j ∧ mk L j ∈ M) → m < 2 ^ w → Orth L m →
    clean L js m < 2 ^ w ∧ Orth L (clean L js m) ∧ InS M (clean L js m ^^^ m) ∧ (∀ j ∈ js, (clean L js m).testBit j = false) ∧ (∀ i, isFree L i → m.testBit i = false → (clean L js m).testBit i = false)
  | [], m, _, hm, ho => ⟨hm, ho, by show InS M (m ^^^ m); rw [Nat.xor_self]; exact ins_0 M, (fun _ h => by cases h), fun _ _ h => h⟩
  | j :: js, m, hj, hm, ho => by
    obtain ⟨j1, j2, j3⟩ := hj j (List.mem_cons_self ..)
    have hj' := fun k hk => hj k (List.mem_cons_of_mem _ hk)
    have mb := (mk_all R hw j1 j2 0).2
    show clean L js _ < 2 ^ w ∧ Orth L (clean L js _) ∧ InS M (clean L js _ ^^^ m) ∧ (∀ k ∈ j :: js, (clean L js _).testBit k = false) ∧ _
    cases hb : m.testBit j
    · rw [if_neg (by decide)]
      obtain ⟨a1, a2, a3, a4, a5⟩ := clean_all R hw M js m hj' hm ho
      refine ⟨a1, a2, a3, fun k hk => ?_, fun i hi h => ?_⟩
      · rcases List.mem_cons.mp hk with rfl | hk
        · exact a5 _ j2 hb
        · exact a4 k hk
      · show (clean L js _).testBit i = false
        rw [if_neg (by rw [hb]; decide)]
        exact a5 i hi h
    · rw [if_pos rfl]
      obtain ⟨a1, a2, a3, a4, a5⟩ := clean_all R hw M js (m ^^^ mk L j) hj' (Nat.xor_lt_two_pow hm mb.1) (orth_xor ho (mk_orth R hw j1 j2))
      refine ⟨a1, a2, ?_, fun k hk => ?_, fun i hi h => ?_⟩
      · have := ins_xor a3 (ins_mem j3)
        rw [← Nat.xor_assoc, Nat.xor_assoc, Nat.xor_self, Nat.xor_zero] at this
        exact this
      · rcases List.mem_cons.mp hk with rfl | hk
        · refine a5 _ j2 ?_
          rw [Nat.testBit_xor, hb, mb.2 _ j2, decide_eq_true rfl]
          rfl
        · exact a4 k hk
      · show (clean L js _).testBit i = false
        rw [if_pos hb]
        refine a5 i hi ?_
        have hne : j ≠ i := fun z => by rw [z] at hb; rw [hb] at h; cases h
        rw [Nat.testBit_xor, h, mb.2 i hi, decide_eq_false hne]
        rfl
/-- orthogonal, and no free bit: nothing -/
theorem no_free (R : Red L) {m : Nat} (ho : Orth L m) (h : ∀ i, isFree L i → m.testBit i = false) : m = 0 := by
  refine Classical.byContradiction fun n => ?_
  obtain ⟨i, hi⟩ := Nat.exists_testBit_of_ne_zero n
  have hex : ∃ r ∈ L, r.log2 = i := Classical.byContradiction fun q => by
    have : isFree L i := fun r hr e => q ⟨r, hr, e⟩
    rw [h i this] at hi
    cases hi
  obtain ⟨r, hr, rfl⟩ := hex
  have e : r &&& m = 2 ^ r.log2 := by
    apply Nat.eq_of_testBit_eq
    intro k
    rw [Nat.testBit_and, Nat.testBit_two_pow]
    by_cases hk : r.log2 = k
    · rw [← hk, tb_log (R.pos r hr), hi, decide_eq_true rfl]
      rfl
    · rw [decide_eq_false hk]
      cases h1 : r.testBit k
      · rfl
      · cases h2 : m.testBit k
        · rfl
        · exfalso
          have hex : ∃ u ∈ L, u.log2 = k := Classical.byContradiction fun q => by
            have : isFree L k := fun r hr e => q ⟨r, hr, e⟩
            rw [h k this] at h2
            cases h2
          obtain ⟨u, hu, rfl⟩ := hex
          exact hk (by rw [red_inj R hr hu h1])
  have := ho r hr
  unfold dot at this
  rw [e, par_pow] at this
  cases this
/-- the masks span all that is orthogonal -/
theorem masks_span (R : Red L) (hw : ∀ r ∈ L, r < 2 ^ w) {js : List Nat} (hjs : ∀ j, j ∈ js ↔ j < w ∧ isFree L j) (m : Nat) : InS (js.map (mk L)) m ↔ m < 2 ^ w ∧ Orth L m := by
  have hall : ∀ j ∈ js, j < w ∧ isFree L j ∧ mk L j ∈ js.map (mk L) := fun j hj => ⟨((hjs j).mp hj).1, ((hjs j).mp hj).2, List.mem_map.mpr ⟨j, hj, rfl⟩⟩
  constructor
  · have key : ∀ (ks : List Nat), (∀ j ∈ ks, j < w ∧ isFree L j) → ∀ {m}, InS (ks.map (mk L)) m → m < 2 ^ w ∧ Orth L m := by
      intro ks
      induction ks with
      | nil =>
        intro _ m h
        have e : m = 0 := h
        rw [e]
        exact ⟨Nat.two_pow_pos w, fun v _ => dot_0 v⟩
      | cons k ks ih =>
        intro hk m h
        have hk' := @ih fun j hj => hk j (List.mem_cons_of_mem _ hj)
        obtain ⟨k1, k2⟩ := hk k (List.mem_cons_self ..)
        rcases h with h | h
        · exact hk' h
        · obtain ⟨a, b⟩ := hk' h
          have c1 := Nat.xor_lt_two_pow a (mk_all R hw k1 k2 0).2.1
          have c2 := orth_xor b (mk_orth R hw k1 k2)
          rw [Nat.xor_assoc, Nat.xor_self, Nat.xor_zero] at c1 c2
          exact ⟨c1, c2⟩
    exact key js fun j hj => (hjs j).mp hj
  · rintro ⟨hm, ho⟩
    obtain ⟨a1, a2, a3, a4, a5⟩ := clean_all R hw (js.map (mk L)) js m hall hm ho
    have z : clean L js m = 0 := no_free R a2 fun i hi => by
      by_cases hiw : i < w
      · exact a4 i ((hjs i).mpr ⟨hiw, hi⟩)
      · exact Nat.testBit_lt_two_pow (Nat.lt_of_lt_of_le a1 (Nat.pow_le_pow_right (by decide) (by omega)))
    rw [z, Nat.zero_xor] at a3
    exact a3
theorem orth_span {vs L : List Nat} (h : ∀ x, InS L x ↔ InS vs x) (m : Nat) : Orth L m ↔ Orth vs m :=
  ⟨fun ho v hv => ins_dot ho ((h v).mpr (ins_mem hv)), fun ho v hv => ins_dot ho ((h v).mp (ins_mem hv))⟩
theorem rem_lt {rows : List Nat} (hw : ∀ r ∈ rows, r < 2 ^ w) : ∀ {v}, v < 2 ^ w → rem rows v < 2 ^ w := fun {v} hv => by
  induction rows generalizing v with
  | nil => exact hv
  | cons r rows ih =>
    refine ih (fun x hx => hw x (List.mem_cons_of_mem _ hx)) ?_
    show min v (v ^^^ r) < 2 ^ w
    rcases min_or v r with e | e <;> rw [e]
    · exact hv
    · exact Nat.xor_lt_two_pow hv (hw r (List.mem_cons_self ..))
theorem ins_lt {w : Nat} : ∀ {vs : List Nat}, (∀ v ∈ vs, v < 2 ^ w) → ∀ {x}, InS vs x → x < 2 ^ w
  | [], _, x, h => by
    have e : x = 0 := h
    rw [e]
    exact Nat.two_pow_pos w
  | v :: vs, hv, x, h => by
    have hv' := fun u hu => hv u (List.mem_cons_of_mem _ hu)
    rcases h with h | h
    · exact ins_lt hv' h
    · have h1 := Nat.xor_lt_two_pow (ins_lt hv' h) (hv v (List.mem_cons_self ..))
      rw [Nat.xor_assoc, Nat.xor_self, Nat.xor_zero] at h1
      exact h1
/-- what is orthogonal to all that is orthogonal is in the span -/
theorem orth_orth (R : Red L) (hw : ∀ r ∈ L, r < 2 ^ w) {A : List Nat} (hA : ∀ m, InS A m ↔ m < 2 ^ w ∧ Orth L m) {x : Nat} (hx : x < 2 ^ w) : Orth A x ↔ InS L x := by
  constructor
  · intro ho
    refine (rem_zero R x).mp (Classical.byContradiction fun n => ?_)
    obtain ⟨j, hj⟩ := Nat.exists_testBit_of_ne_zero n
    have hlt := rem_lt hw hx
    have hjw : j < w := Nat.lt_of_not_le fun c => by
      rw [Nat.testBit_lt_two_pow (Nat.lt_of_lt_of_le hlt (Nat.pow_le_pow_right (by decide) c))] at hj
      cases hj
    have hf : isFree L j := fun r hr e => by
      have := rem_clear (v := x) R r hr
      rw [e, hj] at this
      cases this
    have hm := (hA (mk L j)).mpr ⟨(mk_all R hw hjw hf 0).2.1, mk_orth R hw hjw hf⟩
    have e1 : dot (mk L j) (rem L x) = (dot (mk L j) (rem L x ^^^ x) + dot (mk L j) x) % 2 := by
      rw [← dot_xor_r, Nat.xor_assoc, Nat.xor_self, Nat.xor_zero]
    have e2 : dot (mk L j) x = 0 := ins_dot ho hm
    have e3 : dot (mk L j) (rem L x ^^^ x) = 0 := by
      rw [dot_comm]
      exact ins_dot (mk_orth R hw hjw hf) (rem_in L x)
    have e4 := (mk_all R hw hjw hf (rem L x)).1
    rw [dot_comm, e1, e2, e3] at e4
    have e5 : ((L.filter fun r => r.testBit j).map fun r => has (rem L x) r.log2).sum = 0 := by
      have : ∀ M : List Nat, (∀ r ∈ M, r ∈ L) → ((M.filter fun r => r.testBit j).map fun r => has (rem L x) r.log2).sum = 0 := by
        intro M
        induction M with
        | nil => intro _; rfl
        | cons u M ih =>
          intro hM
          have i1 := ih fun z hz => hM z (List.mem_cons_of_mem _ hz)
          rw [List.filter_cons]
          split
          · rw [List.map_cons, List.sum_cons, i1]
            unfold has
            rw [rem_clear R u (hM u (List.mem_cons_self ..))]
            rfl
          · exact i1
      exact this L fun _ h => h
    rw [e5] at e4
    unfold has at e4
    rw [hj] at e4
    simp at e4
  · intro hi a ha
    rw [dot_comm]
    exact ins_dot ((hA a).mp (ins_mem ha)).2 hi
end
end GF
set_option Elab.async false
set_option maxRecDepth 100000
/-! the elements of a span, one by one; the least of them -/
namespace GF
theorem xor_cancel (x v : Nat) : x ^^^ v ^^^ v = x := by rw [Nat.xor_assoc, Nat.xor_self, Nat.xor_zero]
theorem xor_cancel' (x v : Nat) : v ^^^ (v ^^^ x) = x := by rw [← Nat.xor_assoc, Nat.xor_self, Nat.zero_xor]
theorem ins_snoc {ws : List Nat} {v x : Nat} : InS (ws ++ [v]) x ↔ InS ws x ∨ InS ws (x ^^^ v) := by
  have p : (ws ++ [v]).Perm (v :: ws) := List.perm_append_comm
  exact span_perm p x
/-- a list of all elements -/
structure Els (s : List Nat) (ws : List Nat) : Prop where
  nd : s.Nodup
  iff : ∀ x, x ∈ s ↔ InS ws x
theorem els_0 : Els [0] [] := ⟨by simp, fun x => by rw [List.mem_singleton]; exact Iff.rfl⟩
theorem Els.old {s ws : List Nat} {v : Nat} (e : Els s ws) (h : InS ws v) : Els s (ws ++ [v]) := by
  refine ⟨e.nd, fun x => ?_⟩
  rw [e.iff, ins_snoc]
  refine ⟨.inl, fun q => q.elim id fun q => ?_⟩
  have := ins_xor q h
  rw [xor_cancel] at this
  exact this
theorem Els.new {s ws : List Nat} {v : Nat} (e : Els s ws) (h : ¬ InS ws v) : Els (s ++ s.map fun x => x ^^^ v) (ws ++ [v]) := by
  refine ⟨?_, fun x => ?_⟩
  · rw [List.nodup_append]
    refine ⟨e.nd, ?_, fun a ha b hb hab => ?_⟩
    · unfold List.Nodup
      rw [List.pairwise_map]
      refine e.nd.imp fun {a b} hab q => hab ?_
      rw [← xor_cancel a v, q, xor_cancel]
    · obtain ⟨c, hc, rfl⟩ := List.mem_map.mp hb
      subst hab
      have h1 := ins_xor ((e.iff c).mp hc) ((e.iff _).mp ha)
      rw [xor_cancel'] at h1
      exact h h1
  · rw [List.mem_append, ins_snoc, e.iff]
    refine or_congr Iff.rfl ⟨fun q => ?_, fun q => ?_⟩
    · obtain ⟨c, hc, rfl⟩ := List.mem_map.mp q
      rw [xor_cancel]
      exact (e.iff c).mp hc
    · exact List.mem_map.mpr ⟨x ^^^ v, (e.iff _).mpr q, xor_cancel x v⟩
theorem Els.perm {s t ws us : List Nat} (a : Els s ws) (b : Els t us) (h : ∀ x, InS ws x ↔ InS us x) : s.Perm t :=
  (List.perm_ext_iff_of_nodup a.nd b.nd).mpr fun x => by rw [a.iff, b.iff, h]
/-- a row is not in the span of the others -/
theorem red_take {rows : List Nat} (R : Red rows) {i r : Nat} (h : rows[i]? = some r) : ¬ InS (rows.take i) r := fun q => by
  have hi := (List.getElem?_eq_some_iff.mp h).1
  have hr : r ∈ rows := List.mem_of_getElem? h
  have hz : ∀ v ∈ rows.take i, v.testBit r.log2 = false := fun v hv => by
    have e : rows = rows.take i ++ r :: rows.drop (i + 1) := by
      conv => lhs; rw [← List.take_append_drop i rows]
      congr 1
      rw [List.drop_eq_getElem_cons hi]
      congr 1
      exact (List.getElem?_eq_some_iff.mp h).2
    have ap := R.ap
    rw [e, List.pairwise_append] at ap
    exact (ap.2.2 v hv r (List.mem_cons_self ..)).2
  have := ins_bit hz q
  rw [tb_log (R.pos r hr)] at this
  cases this
/-- sorted, with nothing twice: ascending -/
theorem asc {s L : List Nat} (p : L.Perm s) (nd : s.Nodup) (hs : L.Pairwise (· ≤ ·)) : L.Pairwise (· < ·) :=
  (hs.and (p.nodup_iff.mpr nd)).imp fun {a b} h => by
    have h2 : a ≠ b := h.2
    have h1 : a ≤ b := h.1
    omega
/-- all elements, ascending -/
structure All (E : List Nat) (ws : List Nat) : Prop where
  srt : E.Pairwise (· < ·)
  iff : ∀ x, x ∈ E ↔ InS ws x
theorem Els.all {s L ws : List Nat} (e : Els s ws) (p : L.Perm s) (hs : L.Pairwise (· ≤ ·)) : All L ws := ⟨asc p e.nd hs, fun x => by rw [p.mem_iff, e.iff]⟩
theorem All.eq {E F ws us : List Nat} (a : All E ws) (b : All F us) (h : ∀ x, InS ws x ↔ InS us x) : E = F := sorted_ext a.srt b.srt fun x => by rw [a.iff, b.iff, h]
theorem All.zero {E ws : List Nat} (a : All E ws) : ∃ F, E = 0 :: F ∧ F.Pairwise (· < ·) ∧ ∀ x, x ∈ F ↔ (x ≠ 0 ∧ InS ws x) := by
  have h0 : 0 ∈ E := (a.iff 0).mpr (ins_0 ws)
  have hs := a.srt
  have hi := a.iff
  cases E with
  | nil => cases h0
  | cons y F =>
    obtain ⟨h1, h2⟩ := List.pairwise_cons.mp hs
    have hy : y = 0 := by
      rcases List.mem_cons.mp h0 with e | e
      · exact e.symm
      · have := h1 0 e
        omega
    subst hy
    refine ⟨F, rfl, h2, fun x => ⟨fun hx => ⟨?_, (hi x).mp (List.mem_cons_of_mem _ hx)⟩, fun ⟨n, hx⟩ => ?_⟩⟩
    · have := h1 x hx
      omega
    · rcases List.mem_cons.mp ((hi x).mpr hx) with e | e
      · exact absurd e n
      · exact e
/-! ### the least ones, as they are found -/
theorem log_mono {a b : Nat} (ha : 0 < a) (h : a ≤ b) : a.log2 ≤ b.log2 := by
  refine Nat.le_of_not_lt fun c => ?_
  have h1 := Nat.log2_self_le (n := a) (by omega)
  have h2 := @Nat.lt_log2_self b
  have h3 := Nat.pow_le_pow_right (n := 2) (by decide) (show b.log2 + 1 ≤ a.log2 by omega)
  omega
structure Part (F : List Nat) (i : Nat) (C : List Nat) : Prop where
  srt : C.Pairwise (· < ·)
  lo : ∀ x ∈ C, x ∈ F.take i ∧ ∀ y ∈ F, y.log2 = x.log2 → x ≤ y
  ex : ∀ y ∈ F.take i, ∃ x ∈ C, x.log2 = y.log2
theorem part_0 (F : List Nat) : Part F 0 [] := ⟨List.Pairwise.nil, fun _ h => (by cases h), fun y h => (by rw [List.take_zero] at h; cases h)⟩
theorem take_mem {F : List Nat} {i e : Nat} (h : F[i]? = some e) {y : Nat} : y ∈ F.take (i + 1) ↔ y ∈ F.take i ∨ y = e := by
  rw [List.take_add_one, h, List.mem_append]
  show _ ∨ y ∈ [e] ↔ _
  rw [List.mem_singleton]
theorem part_no {F C : List Nat} {i e : Nat} (p : Part F i C) (h : F[i]? = some e) (q : ∃ x ∈ C, x.log2 = e.log2) : Part F (i + 1) C := by
  refine ⟨p.srt, fun x hx => ⟨(take_mem h).mpr (.inl (p.lo x hx).1), (p.lo x hx).2⟩, fun y hy => ?_⟩
  rcases (take_mem h).mp hy with z | rfl
  · exact p.ex y z
  · exact q
theorem take_lt {F : List Nat} (s : F.Pairwise (· < ·)) {i e y : Nat} (h : F[i]? = some e) (hy : y ∈ F.take i) : y < e := by
  obtain ⟨j, hj⟩ := List.getElem?_of_mem hy
  have hjl := (List.getElem?_eq_some_iff.mp hj).1
  rw [List.length_take] at hjl
  rw [List.getElem?_take_of_lt (by omega)] at hj
  obtain ⟨a, ha⟩ := List.getElem?_eq_some_iff.mp h
  obtain ⟨b, hb⟩ := List.getElem?_eq_some_iff.mp hj
  have := List.pairwise_iff_getElem.mp s j i b a (by omega)
  rw [ha, hb] at this
  exact this
theorem below {F : List Nat} (s : F.Pairwise (· < ·)) {i e y : Nat} (h : F[i]? = some e) (hy : y ∈ F) (c : y < e) : y ∈ F.take i := by
  obtain ⟨j, hj⟩ := List.getElem?_of_mem hy
  obtain ⟨a, ha⟩ := List.getElem?_eq_some_iff.mp h
  obtain ⟨b, hb⟩ := List.getElem?_eq_some_iff.mp hj
  have hij : j < i := Nat.lt_of_not_le fun z => by
    rcases Nat.lt_or_eq_of_le z with z | z
    · have := List.pairwise_iff_getElem.mp s i j a b z
      omega
    · subst z
      omega
  exact List.mem_of_getElem? (i := j) (by rw [List.getElem?_take_of_lt hij]; exact hj)
theorem part_new {F C : List Nat} {i e : Nat} (s : F.Pairwise (· < ·)) (p : Part F i C) (h : F[i]? = some e) (q : ∀ x ∈ C, x.log2 ≠ e.log2) : Part F (i + 1) (C ++ [e]) := by
  refine ⟨?_, fun x hx => ?_, fun y hy => ?_⟩
  · rw [List.pairwise_append]
    refine ⟨p.srt, List.pairwise_singleton .., fun a ha b hb => ?_⟩
    rw [List.mem_singleton.mp hb]
    exact take_lt s h (p.lo a ha).1
  · rcases List.mem_append.mp hx with hx | hx
    · exact ⟨(take_mem h).mpr (.inl (p.lo x hx).1), (p.lo x hx).2⟩
    · rw [List.mem_singleton.mp hx]
      refine ⟨(take_mem h).mpr (.inr rfl), fun y hy ey => Nat.le_of_not_lt fun c => ?_⟩
      obtain ⟨x, hx, ex⟩ := p.ex y (below s h hy c)
      exact q x hx (ex.trans ey)
  · rcases (take_mem h).mp hy with z | rfl
    · obtain ⟨x, hx, ex⟩ := p.ex y z
      exact ⟨x, List.mem_append_left _ hx, ex⟩
    · exact ⟨_, List.mem_append_right _ (List.mem_cons_self ..), rfl⟩
theorem part_can {F C ws : List Nat} (hF : ∀ x, x ∈ F ↔ (x ≠ 0 ∧ InS ws x)) (p : Part F F.length C) : Can (InS ws) C := by
  have lo := p.lo
  have ex := p.ex
  rw [List.take_length] at lo ex
  refine ⟨p.srt, fun x => ⟨fun hx => ?_, fun ⟨h0, hx, hl⟩ => ?_⟩⟩
  · obtain ⟨a, b⟩ := lo x hx
    obtain ⟨c, d⟩ := (hF x).mp a
    exact ⟨c, d, fun y hy h0 e => b y ((hF y).mpr ⟨h0, hy⟩) e⟩
  · obtain ⟨z, hz, ez⟩ := ex x ((hF x).mpr ⟨h0, hx⟩)
    obtain ⟨a, b⟩ := lo z hz
    obtain ⟨c, d⟩ := (hF z).mp a
    have h1 := hl z d c ez
    have h2 := b x ((hF x).mpr ⟨h0, hx⟩) ez.symm
    have e : x = z := Nat.le_antisymm h1 h2
    rw [e]
    exact hz
theorem part_logs {F C : List Nat} {i : Nat} (hF : ∀ x ∈ F, x ≠ 0) (p : Part F i C) : C.Pairwise fun a b => a.log2 < b.log2 := by
  refine List.Pairwise.imp_of_mem (fun {a b} ha hb h => ?_) p.srt
  have a0 := List.mem_of_mem_take (p.lo a ha).1
  have h1 := log_mono (Nat.pos_of_ne_zero (hF a a0)) (Nat.le_of_lt h)
  rcases Nat.lt_or_eq_of_le h1 with c | c
  · exact c
  · have := (p.lo b hb).2 a a0 c
    omega
theorem red_iff {rows : List Nat} (R : Red rows) (x : Nat) : x ∈ rows ↔ (x ≠ 0 ∧ InS rows x ∧ ∀ y, InS rows y → y ≠ 0 → y.log2 = x.log2 → x ≤ y) := by
  refine ⟨fun hx => ⟨R.pos x hx, ins_mem hx, fun y hy h0 e => least R hx hy e h0⟩, fun ⟨h0, hx, hl⟩ => ?_⟩
  obtain ⟨r, hr, e⟩ := lead R hx h0
  have h1 := hl r (ins_mem hr) (R.pos r hr) e
  have h2 := least R hr hx e.symm h0
  have e2 : x = r := Nat.le_antisymm h1 h2
  rw [e2]
  exact hr
theorem red_same {L M : List Nat} (RL : Red L) (RM : Red M) (h : ∀ x, InS L x ↔ InS M x) : L.Perm M := by
  refine (List.perm_ext_iff_of_nodup (red_nodup RL) (red_nodup RM)).mpr fun x => ?_
  rw [red_iff RL, red_iff RM, h]
  exact ⟨fun ⟨a, b, c⟩ => ⟨a, b, fun y q => c y ((h y).mpr q)⟩, fun ⟨a, b, c⟩ => ⟨a, b, fun y q => c y ((h y).mp q)⟩⟩
end GF
set_option Elab.async false
set_option maxRecDepth 100000
/-! how many there are -/
namespace GF
/-- none is in the span of those ahead of it -/
def Indep (ws : List Nat) : Prop := ∀ i r, ws[i]? = some r → ¬ InS (ws.take i) r
theorem indep_take {ws : List Nat} (h : Indep ws) : ∀ i, i ≤ ws.length → ∃ s, Els s (ws.take i) ∧ s.length = 2 ^ i
  | 0, _ => ⟨[0], els_0, rfl⟩
  | i + 1, hi => by
    obtain ⟨s, e, l⟩ := indep_take h i (by omega)
    have hx : ws[i]? = some ws[i] := List.getElem?_eq_getElem (by omega)
    refine ⟨s ++ s.map (fun x => x ^^^ ws[i]), ?_, ?_⟩
    · rw [List.take_add_one, hx]
      exact e.new (h i _ hx)
    · rw [List.length_append, List.length_map, l, Nat.pow_succ]
      omega
theorem indep_els {ws : List Nat} (h : Indep ws) : ∃ s, Els s ws ∧ s.length = 2 ^ ws.length := by
  obtain ⟨s, e, l⟩ := indep_take h ws.length (Nat.le_refl _)
  rw [List.take_length] at e
  exact ⟨s, e, l⟩
theorem indep_len {a b : List Nat} (ha : Indep a) (hb : Indep b) (h : ∀ x, InS a x ↔ InS b x) : a.length = b.length := by
  obtain ⟨s, e, l⟩ := indep_els ha
  obtain ⟨t, f, m⟩ := indep_els hb
  have := (e.perm f h).length_eq
  rw [l, m] at this
  have e2 := congrArg Nat.log2 this
  rw [Nat.log2_two_pow, Nat.log2_two_pow] at e2
  exact e2
theorem red_indep {L : List Nat} (R : Red L) : Indep L := fun _ _ h => red_take R h
theorem mks_indep {L : List Nat} {w : Nat} (R : Red L) (hw : ∀ r ∈ L, r < 2 ^ w) {js : List Nat} (nd : js.Nodup) (hjs : ∀ j, j ∈ js ↔ j < w ∧ isFree L j) : Indep (js.map (mk L)) := fun i r h q => by
  rw [List.getElem?_map] at h
  cases e : js[i]? with
  | none =>
    rw [e] at h
    cases h
  | some j =>
    rw [e] at h
    cases h
    obtain ⟨hj, hf⟩ := (hjs j).mp (List.mem_of_getElem? e)
    have hb := (mk_all R hw hj hf 0).2.2 j hf
    rw [decide_eq_true rfl] at hb
    have hz : ∀ v ∈ (js.map (mk L)).take i, v.testBit j = false := fun v hv => by
      rw [← List.map_take] at hv
      obtain ⟨k, hk, rfl⟩ := List.mem_map.mp hv
      obtain ⟨k1, k2⟩ := (hjs k).mp (List.mem_of_mem_take hk)
      rw [(mk_all R hw k1 k2 0).2.2 j hf]
      refine decide_eq_false fun z => ?_
      subst z
      obtain ⟨m, hm⟩ := List.getElem?_of_mem hk
      have hml := (List.getElem?_eq_some_iff.mp hm).1
      rw [List.length_take] at hml
      rw [List.getElem?_take_of_lt (by omega)] at hm
      obtain ⟨a, ha⟩ := List.getElem?_eq_some_iff.mp e
      obtain ⟨b, hb⟩ := List.getElem?_eq_some_iff.mp hm
      have := List.pairwise_iff_getElem.mp nd m i b a (by omega)
      exact this (hb.trans ha.symm)
    rw [ins_bit hz q] at hb
    cases hb
theorem free_count {L : List Nat} {w : Nat} (R : Red L) (hw : ∀ r ∈ L, r < 2 ^ w) {js : List Nat} (nd : js.Nodup) (hjs : ∀ j, j ∈ js ↔ j < w ∧ isFree L j) : js.length + L.length = w := by
  have p : (js ++ L.map Nat.log2).Perm (List.range w) := by
    refine (List.perm_ext_iff_of_nodup ?_ List.nodup_range).mpr fun j => ?_
    · rw [List.nodup_append]
      refine ⟨nd, red_logs R, fun a ha b hb z => ?_⟩
      subst z
      obtain ⟨r, hr, e⟩ := List.mem_map.mp hb
      exact ((hjs a).mp ha).2 r hr e
    · rw [List.mem_append, List.mem_range, hjs]
      constructor
      · rintro (h | h)
        · exact h.1
        · obtain ⟨r, hr, e⟩ := List.mem_map.mp h
          rw [← e]
          exact (Nat.log2_lt (R.pos r hr)).mpr (hw r hr)
      · intro h
        by_cases f : isFree L j
        · exact .inl ⟨h, f⟩
        · refine .inr (Classical.byContradiction fun n => f fun r hr e => n (List.mem_map.mpr ⟨r, hr, e⟩))
  have := p.length_eq
  rw [List.length_append, List.length_map, List.length_range] at this
  exact this
/-- a space and what is orthogonal to it make up the width -/
theorem dims {L A : List Nat} {w : Nat} (R : Red L) (hw : ∀ r ∈ L, r < 2 ^ w) (RA : Red A) (hA : ∀ m, InS A m ↔ m < 2 ^ w ∧ Orth L m) : A.length + L.length = w := by
  have dec : ∀ j, Decidable (isFree L j) := fun j => Classical.propDecidable _
  let js := (List.range w).filter fun j => @decide (isFree L j) (dec j)
  have nd : js.Nodup := List.nodup_range.sublist List.filter_sublist
  have hjs : ∀ j, j ∈ js ↔ j < w ∧ isFree L j := fun j => by
    show j ∈ List.filter _ _ ↔ _
    rw [List.mem_filter, List.mem_range, decide_eq_true_iff]
  have e : A.length = (js.map (mk L)).length := indep_len (red_indep RA) (mks_indep R hw nd hjs) fun x => (hA x).trans (masks_span R hw hjs x).symm
  rw [e, List.length_map]
  exact free_count R hw nd hjs
/-- the number of all elements tells the dimension -/
theorem all_len {E vv : List Nat} (a : All E vv) : E.length = 2 ^ (red0 vv).length := by
  obtain ⟨s, e, l⟩ := indep_els (red_indep (red0_red vv))
  have e2 : Els E vv := ⟨a.srt.imp fun {x y} h => Nat.ne_of_lt h, a.iff⟩
  rw [← l]
  exact (e2.perm e fun x => (red0_span vv x).symm).length_eq
end GF
set_option Elab.async false
set_option maxRecDepth 100000
/-! banks as numbers: linear; as many as the rank tells -/
namespace GF
def bk : List Nat → Nat → Nat
  | [], _ => 0
  | v :: vv, a => dot a v + 2 * bk vv a
theorem dot_lt (a v : Nat) : dot a v < 2 := par_lt _
theorem bk_lt : ∀ (vv : List Nat) (a : Nat), bk vv a < 2 ^ vv.length
  | [], _ => Nat.one_pos
  | v :: vv, a => by
    have h1 := bk_lt vv a
    have h2 := dot_lt a v
    rw [List.length_cons, Nat.pow_succ]
    show dot a v + 2 * bk vv a < _
    omega
theorem bk_0 : ∀ (vv : List Nat) (a : Nat), bk vv a = 0 ↔ Orth vv a
  | [], _ => ⟨fun _ v h => (by cases h), fun _ => rfl⟩
  | v :: vv, a => by
    have ih := bk_0 vv a
    constructor
    · intro h u hu
      have h1 : dot a v + 2 * bk vv a = 0 := h
      rcases List.mem_cons.mp hu with rfl | hu
      · rw [dot_comm]
        omega
      · exact ih.mp (by omega) u hu
    · intro h
      have h1 := h v (List.mem_cons_self ..)
      have h2 := ih.mpr fun u hu => h u (List.mem_cons_of_mem _ hu)
      rw [dot_comm] at h1
      show dot a v + 2 * bk vv a = 0
      omega
theorem xor_digit {a b p q : Nat} (ha : a < 2) (hb : b < 2) : (a + 2 * p) ^^^ (b + 2 * q) = (a + b) % 2 + 2 * (p ^^^ q) := by
  have h1 := @Nat.xor_div_two (a + 2 * p) (b + 2 * q)
  have h2 := @Nat.xor_mod_two_eq_one (a + 2 * p) (b + 2 * q)
  rw [show (a + 2 * p) / 2 = p by omega, show (b + 2 * q) / 2 = q by omega] at h1
  omega
theorem bk_xor : ∀ (vv : List Nat) (a b : Nat), bk vv (a ^^^ b) = bk vv a ^^^ bk vv b
  | [], _, _ => (Nat.xor_self 0).symm
  | v :: vv, a, b => by
    show dot (a ^^^ b) v + 2 * bk vv (a ^^^ b) = (dot a v + 2 * bk vv a) ^^^ (dot b v + 2 * bk vv b)
    rw [xor_digit (dot_lt a v) (dot_lt b v), dot_xor_l, bk_xor vv a b]
theorem bk_zero (vv : List Nat) : bk vv 0 = 0 := (bk_0 vv 0).mpr fun v _ => dot_0 v
theorem img_to {vv : List Nat} : ∀ {xs : List Nat} {y : Nat}, InS (xs.map (bk vv)) y → ∃ x, InS xs x ∧ bk vv x = y
  | [], y, h => ⟨0, rfl, (bk_zero vv).trans (show y = 0 from h).symm⟩
  | x0 :: xs, y, h => by
    rcases h with h | h
    · obtain ⟨x, h1, h2⟩ := img_to h
      exact ⟨x, .inl h1, h2⟩
    · obtain ⟨x, h1, h2⟩ := img_to h
      refine ⟨x ^^^ x0, .inr (by rw [xor_cancel]; exact h1), ?_⟩
      rw [bk_xor, h2, xor_cancel]
theorem img_of {vv : List Nat} : ∀ {xs : List Nat} {x : Nat}, InS xs x → InS (xs.map (bk vv)) (bk vv x)
  | [], x, h => by
    have e : x = 0 := h
    rw [e]
    exact bk_zero vv
  | x0 :: xs, x, h => by
    rcases h with h | h
    · exact .inl (img_of h)
    · have := img_of (vv := vv) h
      rw [bk_xor] at this
      exact .inr this
theorem pow_bit (j i : Nat) : (2 ^ j).testBit i = decide (j = i) := Nat.testBit_two_pow
theorem bits_in : ∀ (js : List Nat) (x : Nat), (∀ i, x.testBit i = true → i ∈ js) → InS (js.map (2 ^ ·)) x
  | [], x, h => by
    show x = 0
    refine Nat.eq_of_testBit_eq fun i => ?_
    rw [Nat.zero_testBit]
    cases e : x.testBit i with
    | false => rfl
    | true => cases h i e
  | j :: js, x, h => by
    by_cases hj : x.testBit j = true
    · refine .inr (bits_in js _ fun i hi => ?_)
      rw [Nat.testBit_xor, pow_bit] at hi
      by_cases e : j = i
      · subst e
        rw [hj, decide_eq_true rfl] at hi
        cases hi
      · rw [decide_eq_false e, Bool.xor_false] at hi
        rcases List.mem_cons.mp (h i hi) with z | z
        · exact absurd z.symm e
        · exact z
    · refine .inl (bits_in js _ fun i hi => ?_)
      rcases List.mem_cons.mp (h i hi) with z | z
      · rw [z] at hi
        exact absurd hi hj
      · exact z
theorem bits_out {js : List Nat} {x i : Nat} (h : InS (js.map (2 ^ ·)) x) (hi : x.testBit i = true) : i ∈ js := Classical.byContradiction fun n => by
  have z : ∀ v ∈ js.map (2 ^ ·), v.testBit i = false := fun v hv => by
    obtain ⟨j, hj, rfl⟩ := List.mem_map.mp hv
    show (2 ^ j).testBit i = false
    rw [pow_bit]
    exact decide_eq_false fun e => n (e ▸ hj)
  rw [ins_bit z h] at hi
  cases hi
theorem bit_lt {x w i : Nat} (h : x < 2 ^ w) (hi : x.testBit i = true) : i < w := Nat.lt_of_not_le fun c => by
  rw [Nat.testBit_lt_two_pow (Nat.lt_of_lt_of_le h (Nat.pow_le_pow_right (by decide) c))] at hi
  cases hi
/-- the banks of the powers of two -/
def cols (vv : List Nat) (w : Nat) : List Nat := ((List.range w).map (2 ^ ·)).map (bk vv)
theorem pows_lt {js : List Nat} {w x : Nat} (hj : ∀ j ∈ js, j < w) (h : InS (js.map (2 ^ ·)) x) : x < 2 ^ w := ins_lt (fun v hv => by
  obtain ⟨j, h1, rfl⟩ := List.mem_map.mp hv
  exact Nat.pow_lt_pow_right (by decide) (hj j h1)) h
theorem cols_iff (vv : List Nat) (w y : Nat) : InS (cols vv w) y ↔ ∃ x, x < 2 ^ w ∧ bk vv x = y := by
  constructor
  · intro h
    obtain ⟨x, h1, h2⟩ := img_to h
    exact ⟨x, pows_lt (fun j hj => List.mem_range.mp hj) h1, h2⟩
  · rintro ⟨x, h1, rfl⟩
    exact img_of (bits_in _ _ fun i hi => List.mem_range.mpr (bit_lt h1 hi))
section
variable {vv A js : List Nat} {w : Nat}
theorem part_indep (RA : Red A) (hA : ∀ m, InS A m ↔ m < 2 ^ w ∧ Orth vv m) (nd : js.Nodup) (hjs : ∀ j, j ∈ js ↔ j < w ∧ isFree A j) : Indep ((js.map (2 ^ ·)).map (bk vv)) := fun i r h q => by
  rw [List.getElem?_map, List.getElem?_map] at h
  cases e : js[i]? with
  | none =>
    rw [e] at h
    cases h
  | some j =>
    rw [e] at h
    cases h
    rw [← List.map_take, ← List.map_take] at q
    obtain ⟨x, h1, h2⟩ := img_to q
    have hj := (hjs j).mp (List.mem_of_getElem? e)
    have sub : ∀ k ∈ js.take i, k ∈ js := fun k hk => List.mem_of_mem_take hk
    have nj : j ∉ js.take i := fun hk => by
      obtain ⟨m, hm⟩ := List.getElem?_of_mem hk
      have hml := (List.getElem?_eq_some_iff.mp hm).1
      rw [List.length_take] at hml
      rw [List.getElem?_take_of_lt (by omega)] at hm
      obtain ⟨a, ha⟩ := List.getElem?_eq_some_iff.mp e
      obtain ⟨b, hb⟩ := List.getElem?_eq_some_iff.mp hm
      exact List.pairwise_iff_getElem.mp nd m i b a (by omega) (hb.trans ha.symm)
    have xj : x.testBit j = false := by
      cases z : x.testBit j with
      | false => rfl
      | true => exact absurd (bits_out h1 z) nj
    have zj : (x ^^^ 2 ^ j).testBit j = true := by rw [Nat.testBit_xor, xj, pow_bit, decide_eq_true rfl]; rfl
    have z0 : x ^^^ 2 ^ j ≠ 0 := fun z => by
      rw [z, Nat.zero_testBit] at zj
      cases zj
    have zin : InS A (x ^^^ 2 ^ j) := (hA _).mpr ⟨Nat.xor_lt_two_pow (pows_lt (fun k hk => ((hjs k).mp (sub k hk)).1) h1) (Nat.pow_lt_pow_right (by decide) hj.1), (bk_0 vv _).mp (by rw [bk_xor, h2, Nat.xor_self])⟩
    obtain ⟨u, hu, eu⟩ := lead RA zin z0
    have hb := tb_log z0
    have hin : (x ^^^ 2 ^ j).log2 ∈ js := by
      by_cases c : j = (x ^^^ 2 ^ j).log2
      · rw [← c]
        exact List.mem_of_getElem? e
      · have hb' := hb
        rw [Nat.testBit_xor, pow_bit, decide_eq_false c, Bool.xor_false] at hb'
        exact sub _ (bits_out h1 hb')
    exact ((hjs _).mp hin).2 u hu eu
theorem part_span (RA : Red A) (hAw : ∀ r ∈ A, r < 2 ^ w) (hA : ∀ m, InS A m ↔ m < 2 ^ w ∧ Orth vv m) (hjs : ∀ j, j ∈ js ↔ j < w ∧ isFree A j) (y : Nat) : InS ((js.map (2 ^ ·)).map (bk vv)) y ↔ InS (cols vv w) y := by
  rw [cols_iff]
  constructor
  · intro h
    obtain ⟨x, h1, h2⟩ := img_to h
    exact ⟨x, pows_lt (fun j hj => ((hjs j).mp hj).1) h1, h2⟩
  · rintro ⟨x, hx, rfl⟩
    have h1 := ((hA _).mp (rem_in A x)).2
    have h2 := (bk_0 vv _).mpr h1
    rw [bk_xor] at h2
    have e : bk vv (rem A x) = bk vv x := Classical.byContradiction fun n => ne_bit n h2
    rw [← e]
    refine img_of (bits_in _ _ fun i hi => (hjs i).mpr ⟨bit_lt (rem_lt hAw hx) hi, fun r hr z => ?_⟩)
    have := rem_clear (v := x) RA r hr
    rw [z, hi] at this
    cases this
end
/-- the banks of the powers of two have the rank of the masks -/
theorem cols_rank {vv : List Nat} {w : Nat} (hv : ∀ v ∈ vv, v < 2 ^ w) : (red0 (cols vv w)).length = (red0 vv).length := by
  have free : ∀ L : List Nat, ∃ js : List Nat, js.Nodup ∧ ∀ j, j ∈ js ↔ j < w ∧ isFree L j := fun L => by
    have dec : ∀ j, Decidable (isFree L j) := fun j => Classical.propDecidable _
    refine ⟨(List.range w).filter fun j => @decide (isFree L j) (dec j), List.nodup_range.sublist List.filter_sublist, fun j => ?_⟩
    rw [List.mem_filter, List.mem_range, decide_eq_true_iff]
  have RL := red0_red vv
  have hL : ∀ r ∈ red0 vv, r < 2 ^ w := fun r hr => ins_lt hv ((red0_span vv r).mp (ins_mem hr))
  obtain ⟨ks, _, hks⟩ := free (red0 vv)
  have RA := red0_red (ks.map (mk (red0 vv)))
  have hA : ∀ m, InS (red0 (ks.map (mk (red0 vv)))) m ↔ m < 2 ^ w ∧ Orth vv m := fun m => by rw [red0_span, masks_span RL hL hks, orth_span (red0_span vv)]
  generalize red0 (ks.map (mk (red0 vv))) = A at RA hA
  have hAw : ∀ r ∈ A, r < 2 ^ w := fun r hr => ((hA r).mp (ins_mem hr)).1
  obtain ⟨js, nd, hjs⟩ := free A
  have l1 := free_count RA hAw nd hjs
  have l2 := dims RL hL RA fun m => by rw [hA, orth_span (red0_span vv)]
  have l3 := indep_len (red_indep (red0_red (cols vv w))) (part_indep RA hA nd hjs) fun x => (red0_span _ x).trans (part_span RA hAw hA hjs x).symm
  rw [l3, List.length_map, List.length_map]
  omega
end GF
set_option Elab.async false
set_option maxRecDepth 100000
set_option maxHeartbeats 4000000
/-! independent lists made longer, completed by powers of two -/
namespace GF
theorem indep_nil : Indep [] := fun i r h => by simp at h
theorem red0_len_le : ∀ (vs : List Nat), (red0 vs).length ≤ vs.length := fun vs => by
  have step_le : ∀ (rows : List Nat) (v : Nat), (step rows v).length ≤ rows.length + 1 := fun rows v => by
    unfold step
    split
    · rw [List.length_append, List.length_map]
      exact Nat.le_refl _
    · omega
  have gen : ∀ (vs rows : List Nat), (vs.foldl step rows).length ≤ rows.length + vs.length := by
    intro vs
    induction vs with
    | nil => intro rows; exact Nat.le_refl _
    | cons v vs ih =>
      intro rows
      have h1 := ih (step rows v)
      have h2 := step_le rows v
      rw [List.foldl_cons, List.length_cons]
      omega
  have := gen vs []
  rw [List.length_nil, Nat.zero_add] at this
  exact this
theorem indep_red {vs : List Nat} (h : Indep vs) : (red0 vs).length = vs.length :=
  indep_len (red_indep (red0_red vs)) h fun x => red0_span vs x
theorem indep_iff (vs : List Nat) : (red0 vs).length = vs.length ↔ Indep vs := by
  refine ⟨fun e i r hi hin => ?_, indep_red⟩
  have hl := (List.getElem?_eq_some_iff.mp hi).1
  have hmem : ∀ v ∈ vs, InS (vs.take i ++ vs.drop (i + 1)) v := fun v hv => by
    have e2 : vs = vs.take i ++ (r :: vs.drop (i + 1)) := by
      have e3 : vs.drop i = r :: vs.drop (i + 1) := by
        rw [List.drop_eq_getElem_cons hl]
        congr 1
        exact (List.getElem?_eq_some_iff.mp hi).2
      rw [← e3, List.take_append_drop]
    rw [e2] at hv
    rcases List.mem_append.mp hv with hv | hv
    · exact ins_mem (List.mem_append_left _ hv)
    · rcases List.mem_cons.mp hv with hv | hv
      · rw [hv]
        exact ins_le (fun y hy => ins_mem (List.mem_append_left _ hy)) hin
      · exact ins_mem (List.mem_append_right _ hv)
  have sub : ∀ x, InS (vs.take i ++ vs.drop (i + 1)) x ↔ InS vs x := fun x =>
    ⟨fun h => ins_le (fun y hy => ins_mem (by
      rcases List.mem_append.mp hy with hy | hy
      · exact List.mem_of_mem_take hy
      · exact List.mem_of_mem_drop hy)) h, fun h => ins_le hmem h⟩
  have el : (red0 vs).length = (red0 (vs.take i ++ vs.drop (i + 1))).length := indep_len (red_indep (red0_red _)) (red_indep (red0_red _)) fun x => (red0_span _ x).trans ((sub x).symm.trans (red0_span _ x).symm)
  have := red0_len_le (vs.take i ++ vs.drop (i + 1))
  rw [List.length_append, List.length_take, List.length_drop] at this
  omega
theorem indep_snoc {vs : List Nat} {p : Nat} (h : Indep vs) : Indep (vs ++ [p]) ↔ ¬ InS vs p := by
  constructor
  · intro h2 hin
    refine h2 vs.length p ?_ ?_
    · rw [List.getElem?_append_right (Nat.le_refl _), Nat.sub_self]
      rfl
    · rw [List.take_left']
      · exact hin
      · rfl
  · intro hn i r hi hin
    by_cases c : i < vs.length
    · rw [List.getElem?_append_left c] at hi
      rw [List.take_append_of_le_length (Nat.le_of_lt c)] at hin
      exact h i r hi hin
    · have hl := (List.getElem?_eq_some_iff.mp hi).1
      rw [List.length_append, List.length_singleton] at hl
      have e : i = vs.length := by omega
      subst e
      rw [List.getElem?_append_right (Nat.le_refl _), Nat.sub_self] at hi
      cases hi
      rw [List.take_left' rfl] at hin
      exact hn hin
theorem indep_prefix {vs : List Nat} (h : Indep vs) (k : Nat) : Indep (vs.take k) := fun i r hi hin => by
  have hl := (List.getElem?_eq_some_iff.mp hi).1
  rw [List.length_take] at hl
  rw [List.getElem?_take] at hi
  split at hi
  · rw [List.take_take] at hin
    rw [show min i k = i by omega] at hin
    exact h i r hi hin
  · cases hi
/-- the powers of two that are not in the span of what is ahead, behind it -/
def compS (r : List Nat) (i : Nat) : List Nat := if (red0 (r ++ [2 ^ i])).length = (r ++ [2 ^ i]).length then r ++ [2 ^ i] else r
def comp (vv : List Nat) (n : Nat) : List Nat := (List.range n).foldl compS vv
theorem comp_0 (vv : List Nat) : comp vv 0 = vv := rfl
theorem comp_next (vv : List Nat) (n : Nat) : comp vv (n + 1) = compS (comp vv n) n := by
  unfold comp
  rw [List.range_succ, List.foldl_append]
  rfl
/-- what stands behind -/
structure Comp (vv : List Nat) (n : Nat) (r : List Nat) : Prop where
  ind : Indep r
  app : ∃ ps : List Nat, r = vv ++ ps ∧ ps.Pairwise (· < ·) ∧ ∀ x ∈ ps, ∃ j, j < n ∧ x = 2 ^ j
  has : ∀ j, j < n → InS r (2 ^ j)
theorem comp_is {vv : List Nat} (h : Indep vv) : ∀ n, Comp vv n (comp vv n)
  | 0 => ⟨h, ⟨[], (List.append_nil _).symm, List.Pairwise.nil, fun x hx => (by cases hx)⟩, fun j hj => absurd hj (Nat.not_lt_zero j)⟩
  | n + 1 => by
    obtain ⟨hi, ⟨ps, e, srt, hm⟩, hh⟩ := comp_is h n
    rw [comp_next]
    unfold compS
    by_cases c : (red0 (comp vv n ++ [2 ^ n])).length = (comp vv n ++ [2 ^ n]).length
    · rw [if_pos c]
      refine ⟨(indep_iff _).mp c, ⟨ps ++ [2 ^ n], by rw [← List.append_assoc, ← e], ?_, fun x hx => ?_⟩, fun j hj => ?_⟩
      · refine List.pairwise_append.mpr ⟨srt, List.pairwise_singleton _ _, fun a ha b hb => ?_⟩
        obtain ⟨j, hj, rfl⟩ := hm a ha
        rw [List.mem_singleton.mp hb]
        exact Nat.pow_lt_pow_right (by decide) hj
      · rcases List.mem_append.mp hx with hx | hx
        · obtain ⟨j, hj, e⟩ := hm x hx
          exact ⟨j, by omega, e⟩
        · exact ⟨n, by omega, List.mem_singleton.mp hx⟩
      · by_cases hn : j = n
        · rw [hn]
          exact ins_mem (List.mem_append_right _ (List.mem_singleton.mpr rfl))
        · exact ins_le (fun y hy => ins_mem (List.mem_append_left _ hy)) (hh j (by omega))
    · rw [if_neg c]
      refine ⟨hi, ⟨ps, e, srt, fun x hx => ?_⟩, fun j hj => ?_⟩
      · obtain ⟨j, hj, e⟩ := hm x hx
        exact ⟨j, by omega, e⟩
      · by_cases hn : j = n
        · rw [hn]
          exact Classical.byContradiction fun z => c ((indep_iff _).mpr ((indep_snoc hi).mpr z))
        · exact hh j (by omega)
theorem comp_yes {vv : List Nat} (h : Indep vv) (n : Nat) (c : InS (comp vv n) (2 ^ n)) : comp vv (n + 1) = comp vv n := by
  rw [comp_next]
  unfold compS
  exact if_neg fun z => (indep_snoc (comp_is h n).ind).mp ((indep_iff _).mp z) c
theorem comp_no {vv : List Nat} (h : Indep vv) (n : Nat) (c : ¬ InS (comp vv n) (2 ^ n)) : comp vv (n + 1) = comp vv n ++ [2 ^ n] := by
  rw [comp_next]
  unfold compS
  exact if_pos ((indep_iff _).mpr ((indep_snoc (comp_is h n).ind).mpr c))
theorem powers_indep (w : Nat) : Indep ((List.range w).map (2 ^ ·)) := fun i r hi hin => by
  have hl := (List.getElem?_eq_some_iff.mp hi).1
  rw [List.length_map, List.length_range] at hl
  rw [List.getElem?_map, List.getElem?_range hl] at hi
  cases hi
  have e : ((List.range w).map (2 ^ ·)).take i = (List.range i).map (2 ^ ·) := by
    rw [← List.map_take, List.take_range, show min i w = i by omega]
  rw [e] at hin
  have := pows_lt (w := i) (fun j hj => List.mem_range.mp hj) hin
  exact Nat.lt_irrefl _ this
theorem powers_all {w x : Nat} (h : x < 2 ^ w) : InS ((List.range w).map (2 ^ ·)) x := bits_in _ x fun _ hi => List.mem_range.mpr (bit_lt h hi)
theorem comp_span {vv : List Nat} {w : Nat} (h : Indep vv) (hv : ∀ v ∈ vv, v < 2 ^ w) (x : Nat) : InS (comp vv w) x ↔ x < 2 ^ w := by
  obtain ⟨hi, ⟨ps, e, srt, hm⟩, hh⟩ := comp_is h w
  have lt : ∀ v ∈ comp vv w, v < 2 ^ w := fun v hx => by
    rw [e] at hx
    rcases List.mem_append.mp hx with hx | hx
    · exact hv v hx
    · obtain ⟨j, hj, rfl⟩ := hm v hx
      exact Nat.pow_lt_pow_right (by decide) hj
  refine ⟨fun q => ins_lt lt q, fun q => ?_⟩
  refine ins_le (fun y hy => ?_) (powers_all q)
  obtain ⟨j, hj, rfl⟩ := List.mem_map.mp hy
  exact hh j (List.mem_range.mp hj)
theorem comp_len {vv : List Nat} {w : Nat} (h : Indep vv) (hv : ∀ v ∈ vv, v < 2 ^ w) : (comp vv w).length = w := by
  have e := indep_len (comp_is h w).ind (powers_indep w) fun x => (comp_span h hv x).trans ⟨fun q => powers_all q, fun q => pows_lt (fun j hj => List.mem_range.mp hj) q⟩
  rw [e, List.length_map, List.length_range]
theorem comp_lt {vv : List Nat} {w : Nat} (h : Indep vv) (hv : ∀ v ∈ vv, v < 2 ^ w) : ∀ v ∈ comp vv w, v < 2 ^ w := fun v hm => (comp_span h hv v).mp (ins_mem hm)
/-- as many masks as the width that span all: no two addresses share a bank -/
theorem bk_inj {r : List Nat} {w : Nat} (hs : ∀ x, x < 2 ^ w → InS r x) {a b : Nat} (ha : a < 2 ^ w) (hb : b < 2 ^ w) (e : bk r a = bk r b) : a = b := by
  have z : bk r (a ^^^ b) = 0 := by rw [bk_xor, e, Nat.xor_self]
  have o := (bk_0 r _).mp z
  have hx : a ^^^ b = 0 := by
    refine Nat.eq_of_testBit_eq fun i => ?_
    rw [Nat.zero_testBit]
    cases c : (a ^^^ b).testBit i with
    | false => rfl
    | true =>
      have hlt : a ^^^ b < 2 ^ w := Nat.xor_lt_two_pow ha hb
      have hi := bit_lt hlt c
      have h1 : InS r (2 ^ i) := hs _ (Nat.pow_lt_pow_right (by decide) hi)
      have h2 := ins_dot o h1
      rw [dot_comm, dot_pow] at h2
      unfold has at h2
      rw [if_pos c] at h2
      cases h2
  exact Classical.byContradiction fun n => ne_bit n hx
/-- numbers below n, all different, as many as n: in order they are all of them -/
theorem all_have : ∀ (n : Nat) (L : List Nat), L.Nodup → L.length = n → (∀ x ∈ L, x < n) → ∀ y, y < n → y ∈ L
  | 0, _, _, _, _, y, hy => absurd hy (Nat.not_lt_zero y)
  | n + 1, L, nd, hl, hb, y, hy => by
    by_cases c : n ∈ L
    · by_cases e : y = n
      · rw [e]
        exact c
      · have h1 : (L.erase n).Nodup := nd.erase n
        have h2 : (L.erase n).length = n := by rw [List.length_erase_of_mem c, hl]; rfl
        have h3 : ∀ x ∈ L.erase n, x < n := fun x hx => by
          have := (List.Nodup.mem_erase_iff nd).mp hx
          have := hb x this.2
          omega
        exact List.mem_of_mem_erase (all_have n _ h1 h2 h3 y (by omega))
    · exfalso
      cases L with
      | nil => simp at hl
      | cons a L' =>
        obtain ⟨h1, h2⟩ := List.nodup_cons.mp nd
        have hlt : ∀ x ∈ a :: L', x < n := fun x hx => by
          have := hb x hx
          have : x ≠ n := fun z => c (z ▸ hx)
          omega
        exact h1 (all_have n L' h2 (by simpa using hl) (fun x hx => hlt x (List.mem_cons_of_mem _ hx)) a (hlt a (List.mem_cons_self ..)))
theorem all_below {L : List Nat} {n : Nat} (nd : L.Nodup) (hl : L.length = n) (hb : ∀ x ∈ L, x < n) : L.Perm (List.range n) :=
  (List.perm_ext_iff_of_nodup nd List.nodup_range).mpr fun x => ⟨fun h => List.mem_range.mpr (hb x h), fun h => all_have n L nd hl hb x (List.mem_range.mp h)⟩
theorem places_all {r : List Nat} {w : Nat} (hs : ∀ x, x < 2 ^ w → InS r x) (hl : r.length = w) : ((List.range (2 ^ w)).map (bk r)).Perm (List.range (2 ^ w)) := by
  refine all_below ?_ ?_ ?_
  · rw [List.nodup_iff_pairwise_ne, List.pairwise_map]
    exact List.nodup_range.imp_of_mem fun {a b} ha hb n z => n (bk_inj hs (List.mem_range.mp ha) (List.mem_range.mp hb) z)
  · rw [List.length_map, List.length_range]
  · intro x hx
    obtain ⟨a, _, rfl⟩ := List.mem_map.mp hx
    have := bk_lt r a
    rw [hl] at this
    exact this
end GF
set_option Elab.async false
set_option maxRecDepth 100000
set_option maxHeartbeats 4000000
/-! rows of different highest bits -/
namespace GF
theorem log_xor {a b : Nat} (hb : b ≠ 0) (h : a.log2 < b.log2) : a ^^^ b ≠ 0 ∧ (a ^^^ b).log2 = b.log2 := by
  refine log_of ?_ fun j hj => ?_
  · rw [Nat.testBit_xor, tb_above h, tb_log hb]
    rfl
  · rw [Nat.testBit_xor, tb_above (Nat.lt_trans h hj), tb_above hj]
    rfl
theorem logs_lead : ∀ {C : List Nat}, (C.map Nat.log2).Nodup → (∀ c ∈ C, c ≠ 0) → ∀ {x}, InS C x → x ≠ 0 → ∃ c ∈ C, c.log2 = x.log2
  | [], _, _, x, h, n => absurd h n
  | c :: C, nd, nz, x, h, n => by
    obtain ⟨h1, h2⟩ := List.nodup_cons.mp nd
    have ih := @logs_lead C h2 fun y hy => nz y (List.mem_cons_of_mem _ hy)
    have hc := nz c (List.mem_cons_self ..)
    rcases h with h | h
    · obtain ⟨y, hy, e⟩ := ih h n
      exact ⟨y, List.mem_cons_of_mem _ hy, e⟩
    · by_cases z : x ^^^ c = 0
      · have e : x = c := Classical.byContradiction fun q => ne_bit q z
        exact ⟨c, List.mem_cons_self .., by rw [e]⟩
      · obtain ⟨y, hy, e⟩ := ih h z
        have ne : (x ^^^ c).log2 ≠ c.log2 := fun q => h1 (List.mem_map.mpr ⟨y, hy, e.trans q⟩)
        have ex : x = (x ^^^ c) ^^^ c := by rw [Nat.xor_assoc, Nat.xor_self, Nat.xor_zero]
        rcases Nat.lt_or_gt_of_ne ne with q | q
        · have := (log_xor hc q).2
          rw [← ex] at this
          exact ⟨c, List.mem_cons_self .., this.symm⟩
        · have := (log_xor z q).2
          rw [Nat.xor_comm, ← ex] at this
          exact ⟨y, List.mem_cons_of_mem _ hy, e.trans this.symm⟩
theorem logs_indep {C : List Nat} (nd : (C.map Nat.log2).Nodup) (nz : ∀ c ∈ C, c ≠ 0) : Indep C := fun i r hi hin => by
  have hl := (List.getElem?_eq_some_iff.mp hi).1
  have hr := nz r (List.mem_of_getElem? hi)
  have nd2 : ((C.take i).map Nat.log2).Nodup := by
    rw [List.map_take]
    exact nd.sublist (List.take_sublist _ _)
  obtain ⟨y, hy, e⟩ := logs_lead nd2 (fun c hc => nz c (List.mem_of_mem_take hc)) hin hr
  obtain ⟨j, hj⟩ := List.getElem?_of_mem hy
  have hj1 := (List.getElem?_eq_some_iff.mp hj).1
  rw [List.length_take] at hj1
  rw [List.getElem?_take_of_lt (by omega)] at hj
  have d := List.pairwise_iff_getElem.mp nd j i (by rw [List.length_map]; omega) (by rw [List.length_map]; omega) (by omega)
  rw [List.getElem_map, List.getElem_map] at d
  rw [(List.getElem?_eq_some_iff.mp hj).2, (List.getElem?_eq_some_iff.mp hi).2] at d
  exact d e
/-- the top bit taken off -/
theorem log_off {a b : Nat} (ha : a ≠ 0) (h : b.log2 = a.log2) (hb : b ≠ 0) : a ^^^ b < a := by
  refine lt_of_bit (i := a.log2) ?_ (tb_log ha) fun j hj => ?_
  · rw [Nat.testBit_xor, tb_log ha, ← h, tb_log hb]
    rfl
  · rw [Nat.testBit_xor, tb_above hj, tb_above (h ▸ hj)]
    rfl
end GF
set_option Elab.async false
set_option maxRecDepth 100000
/-! masks and what makes them: combinations, the inverse of a map -/
namespace GF
/-- the sum of the masks at the bits of c -/
def comb : List Nat → Nat → Nat
  | [], _ => 0
  | v :: vs, c => (if c % 2 = 1 then v else 0) ^^^ comb vs (c / 2)
theorem comb_0 : ∀ vs, comb vs 0 = 0
  | [] => rfl
  | v :: vs => by
    show (if 0 % 2 = 1 then v else 0) ^^^ comb vs (0 / 2) = 0
    rw [if_neg (by decide), Nat.zero_div, comb_0 vs]
    rfl
theorem comb_xor : ∀ (vs : List Nat) (a b : Nat), comb vs (a ^^^ b) = comb vs a ^^^ comb vs b
  | [], _, _ => (Nat.xor_self 0).symm
  | v :: vs, a, b => by
    show (if (a ^^^ b) % 2 = 1 then v else 0) ^^^ comb vs ((a ^^^ b) / 2) = ((if a % 2 = 1 then v else 0) ^^^ comb vs (a / 2)) ^^^ ((if b % 2 = 1 then v else 0) ^^^ comb vs (b / 2))
    rw [Nat.xor_div_two, comb_xor vs]
    have h2 := @Nat.xor_mod_two_eq_one a b
    generalize comb vs (a / 2) = p
    generalize comb vs (b / 2) = q
    have e : (if (a ^^^ b) % 2 = 1 then v else 0) = (if a % 2 = 1 then v else 0) ^^^ (if b % 2 = 1 then v else 0) := by
      by_cases ha : a % 2 = 1 <;> by_cases hb : b % 2 = 1
      · rw [if_neg (by omega), if_pos ha, if_pos hb, Nat.xor_self]
      · rw [if_pos (by omega), if_pos ha, if_neg hb, Nat.xor_zero]
      · rw [if_pos (by omega), if_neg ha, if_pos hb, Nat.zero_xor]
      · rw [if_neg (by omega), if_neg ha, if_neg hb, Nat.xor_zero]
    rw [e]
    generalize (if a % 2 = 1 then v else 0) = x
    generalize (if b % 2 = 1 then v else 0) = y
    rw [Nat.xor_assoc, Nat.xor_assoc]
    congr 1
    rw [← Nat.xor_assoc, ← Nat.xor_assoc, Nat.xor_comm y p]
theorem comb_in : ∀ (vs : List Nat) (c : Nat), InS vs (comb vs c)
  | [], _ => rfl
  | v :: vs, c => by
    show InS vs _ ∨ InS vs _
    by_cases h : c % 2 = 1
    · refine .inr ?_
      show InS vs (((if c % 2 = 1 then v else 0) ^^^ comb vs (c / 2)) ^^^ v)
      rw [if_pos h, Nat.xor_comm v, xor_cancel]
      exact comb_in vs _
    · refine .inl ?_
      show InS vs ((if c % 2 = 1 then v else 0) ^^^ comb vs (c / 2))
      rw [if_neg h, Nat.zero_xor]
      exact comb_in vs _
/-- masks above, what made them below -/
def liftA (n : Nat) : Nat → List Nat → List Nat
  | _, [] => []
  | k, v :: vs => (v * 2 ^ n ^^^ 2 ^ k) :: liftA n (k + 1) vs
def lift (vs : List Nat) (n : Nat) : List Nat := liftA n 0 vs
theorem liftA_len (n : Nat) : ∀ (k : Nat) (vs : List Nat), (liftA n k vs).length = vs.length
  | _, [] => rfl
  | k, v :: vs => by
    show (liftA n (k + 1) vs).length + 1 = _
    rw [liftA_len n (k + 1) vs]
    rfl
theorem liftA_at (n : Nat) : ∀ (k : Nat) (vs : List Nat) (i : Nat), (liftA n k vs)[i]? = vs[i]?.map fun v => v * 2 ^ n ^^^ 2 ^ (k + i)
  | _, [], _ => by simp [liftA]
  | k, v :: vs, 0 => rfl
  | k, v :: vs, i + 1 => by
    show (liftA n (k + 1) vs)[i]? = vs[i]?.map _
    rw [liftA_at n (k + 1) vs i]
    congr 1
    funext v
    rw [show k + 1 + i = k + (i + 1) by omega]
theorem shl_xor (a b n : Nat) : (a ^^^ b) * 2 ^ n = a * 2 ^ n ^^^ b * 2 ^ n := by
  rw [← Nat.shiftLeft_eq, ← Nat.shiftLeft_eq, ← Nat.shiftLeft_eq, Nat.shiftLeft_xor_distrib]
/-- in the span of the lifted ones: a combination above, its choice below -/
theorem lift_to (n : Nat) : ∀ (k : Nat) (vs : List Nat) {x : Nat}, InS (liftA n k vs) x → ∃ c, c < 2 ^ vs.length ∧ x = comb vs c * 2 ^ n ^^^ c * 2 ^ k
  | k, [], x, h => ⟨0, Nat.one_pos, by
    have e : x = 0 := h
    rw [e, comb_0]
    simp⟩
  | k, v :: vs, x, h => by
    rcases h with h | h
    · obtain ⟨c, hc, e⟩ := lift_to n (k + 1) vs h
      refine ⟨2 * c, by rw [List.length_cons, Nat.pow_succ]; omega, ?_⟩
      have e1 : comb (v :: vs) (2 * c) = comb vs c := by
        show (if 2 * c % 2 = 1 then v else 0) ^^^ comb vs (2 * c / 2) = _
        rw [if_neg (by omega), Nat.zero_xor, Nat.mul_div_cancel_left _ (by decide)]
      rw [e, e1]
      congr 1
      rw [Nat.pow_succ]
      ac_rfl
    · obtain ⟨c, hc, e⟩ := lift_to n (k + 1) vs h
      refine ⟨2 * c + 1, by rw [List.length_cons, Nat.pow_succ]; omega, ?_⟩
      have e1 : comb (v :: vs) (2 * c + 1) = v ^^^ comb vs c := by
        show (if (2 * c + 1) % 2 = 1 then v else 0) ^^^ comb vs ((2 * c + 1) / 2) = _
        rw [if_pos (by omega), show (2 * c + 1) / 2 = c by omega]
      have e2 : (2 * c + 1) * 2 ^ k = c * 2 ^ (k + 1) ^^^ 2 ^ k := by
        have ec : 2 * c + 1 = 2 * c ^^^ 1 := by
          have := @xor_digit 0 1 c 0 (by decide) (by decide)
          simp only [Nat.zero_add, Nat.mul_zero, Nat.add_zero, Nat.xor_zero] at this
          rw [this]
          omega
        rw [ec, shl_xor, Nat.one_mul, Nat.pow_succ]
        congr 1
        ac_rfl
      have ex : x = comb vs c * 2 ^ n ^^^ c * 2 ^ (k + 1) ^^^ (v * 2 ^ n ^^^ 2 ^ k) := by rw [← e, xor_cancel]
      rw [ex, e1, e2, shl_xor]
      generalize comb vs c * 2 ^ n = a
      generalize c * 2 ^ (k + 1) = b
      generalize v * 2 ^ n = d
      generalize 2 ^ k = f
      rw [Nat.xor_comm d a, Nat.xor_assoc, Nat.xor_assoc]
      congr 1
      rw [← Nat.xor_assoc, ← Nat.xor_assoc, Nat.xor_comm b d]
theorem lift_of (n : Nat) : ∀ (k : Nat) (vs : List Nat) (c : Nat), c < 2 ^ vs.length → InS (liftA n k vs) (comb vs c * 2 ^ n ^^^ c * 2 ^ k)
  | k, [], c, h => by
    have e : c = 0 := by
      have : c < 1 := h
      omega
    rw [e, comb_0]
    show 0 * 2 ^ n ^^^ 0 * 2 ^ k = 0
    simp
  | k, v :: vs, c, h => by
    have hc : c / 2 < 2 ^ vs.length := by
      rw [List.length_cons, Nat.pow_succ] at h
      omega
    have ih := lift_of n (k + 1) vs (c / 2) hc
    show InS (liftA n (k + 1) vs) _ ∨ InS (liftA n (k + 1) vs) _
    have ep : c / 2 * 2 ^ (k + 1) = (2 * (c / 2)) * 2 ^ k := by
      rw [Nat.pow_succ]
      ac_rfl
    by_cases hm : c % 2 = 1
    · refine .inr ?_
      have e1 : comb (v :: vs) c = v ^^^ comb vs (c / 2) := by
        show (if c % 2 = 1 then v else 0) ^^^ comb vs (c / 2) = _
        rw [if_pos hm]
      have ec : c = 2 * (c / 2) ^^^ 1 := by
        have := @xor_digit 0 1 (c / 2) 0 (by decide) (by decide)
        simp only [Nat.zero_add, Nat.mul_zero, Nat.add_zero, Nat.xor_zero] at this
        rw [this]
        omega
      have e2 : c * 2 ^ k = c / 2 * 2 ^ (k + 1) ^^^ 2 ^ k := by
        rw [ep]
        conv => lhs; rw [ec]
        rw [shl_xor, Nat.one_mul]
      have e3 : comb (v :: vs) c * 2 ^ n ^^^ c * 2 ^ k ^^^ (v * 2 ^ n ^^^ 2 ^ k) = comb vs (c / 2) * 2 ^ n ^^^ c / 2 * 2 ^ (k + 1) := by
        rw [e1, e2, shl_xor]
        generalize comb vs (c / 2) * 2 ^ n = a
        generalize c / 2 * 2 ^ (k + 1) = b
        generalize v * 2 ^ n = d
        generalize 2 ^ k = f
        refine Nat.eq_of_testBit_eq fun i => ?_
        simp only [Nat.testBit_xor]
        cases a.testBit i <;> cases b.testBit i <;> cases d.testBit i <;> cases f.testBit i <;> rfl
      rw [e3]
      exact ih
    · refine .inl ?_
      have e1 : comb (v :: vs) c = comb vs (c / 2) := by
        show (if c % 2 = 1 then v else 0) ^^^ comb vs (c / 2) = _
        rw [if_neg hm, Nat.zero_xor]
      rw [e1, show c * 2 ^ k = c / 2 * 2 ^ (k + 1) by rw [ep]; congr 1; omega]
      exact ih
theorem ins_comb {vs : List Nat} {y : Nat} (h : InS vs y) : ∃ c, c < 2 ^ vs.length ∧ comb vs c = y := by
  have key : ∀ (vs : List Nat) {y : Nat}, InS vs y → ∃ c, c < 2 ^ vs.length ∧ comb vs c = y := by
    intro vs
    induction vs with
    | nil => exact fun h => ⟨0, Nat.one_pos, (show _ = 0 from h).symm⟩
    | cons v vs ih =>
      intro y h
      rcases h with h | h
      · obtain ⟨c, hc, e⟩ := ih h
        refine ⟨2 * c, by rw [List.length_cons, Nat.pow_succ]; omega, ?_⟩
        show (if 2 * c % 2 = 1 then v else 0) ^^^ comb vs (2 * c / 2) = _
        rw [if_neg (by omega), Nat.zero_xor, Nat.mul_div_cancel_left _ (by decide), e]
      · obtain ⟨c, hc, e⟩ := ih h
        refine ⟨2 * c + 1, by rw [List.length_cons, Nat.pow_succ]; omega, ?_⟩
        show (if (2 * c + 1) % 2 = 1 then v else 0) ^^^ comb vs ((2 * c + 1) / 2) = _
        rw [if_pos (by omega), show (2 * c + 1) / 2 = c by omega, e, Nat.xor_comm y, xor_cancel']
  exact key vs h
/-- what is left of a number above tells whether the masks make it, and how -/
theorem rem_lift {vs L : List Nat} {n y : Nat} (hn : vs.length ≤ n) (R : Red L) (hL : ∀ x, InS L x ↔ InS (lift vs n) x) :
    (rem L (y * 2 ^ n) < 2 ^ n ↔ InS vs y) ∧ (rem L (y * 2 ^ n) < 2 ^ n → comb vs (rem L (y * 2 ^ n)) = y ∧ rem L (y * 2 ^ n) < 2 ^ vs.length) := by
  generalize hr : rem L (y * 2 ^ n) = r
  have h1 : InS (lift vs n) (r ^^^ y * 2 ^ n) := (hL _).mp (hr ▸ rem_in L (y * 2 ^ n))
  obtain ⟨c, hc, e⟩ := lift_to n 0 vs h1
  rw [Nat.pow_zero, Nat.mul_one] at e
  have hcn : c < 2 ^ n := Nat.lt_of_lt_of_le hc (Nat.pow_le_pow_right (by decide) hn)
  have er : r = (comb vs c ^^^ y) * 2 ^ n ^^^ c := by
    rw [shl_xor]
    generalize comb vs c * 2 ^ n = a at e ⊢
    generalize y * 2 ^ n = b at e ⊢
    have : r = r ^^^ b ^^^ b := (xor_cancel r b).symm
    rw [this, e]
    rw [Nat.xor_assoc, Nat.xor_comm c b, ← Nat.xor_assoc]
  have hdiv : r / 2 ^ n = comb vs c ^^^ y := by
    rw [er, Nat.xor_div_two_pow, Nat.mul_div_cancel _ (Nat.two_pow_pos n), Nat.div_eq_of_lt hcn, Nat.xor_zero]
  have small : r < 2 ^ n → comb vs r = y ∧ r < 2 ^ vs.length := fun h => by
    rw [Nat.div_eq_of_lt h] at hdiv
    have ey : comb vs c = y := Classical.byContradiction fun z => ne_bit z hdiv.symm
    rw [← hdiv, Nat.zero_mul, Nat.zero_xor] at er
    rw [er]
    exact ⟨ey, hc⟩
  refine ⟨⟨fun h => (small h).1 ▸ comb_in vs r, fun h => ?_⟩, small⟩
  obtain ⟨c0, hc0, e0⟩ := ins_comb h
  have hc0n : c0 < 2 ^ n := Nat.lt_of_lt_of_le hc0 (Nat.pow_le_pow_right (by decide) hn)
  have h2 := lift_of n 0 vs c0 hc0
  rw [Nat.pow_zero, Nat.mul_one, e0] at h2
  have h3 : InS L (r ^^^ c0) := (hL _).mpr (by
    have := ins_xor h1 h2
    rw [show r ^^^ y * 2 ^ n ^^^ (y * 2 ^ n ^^^ c0) = r ^^^ c0 by
      rw [Nat.xor_assoc, xor_cancel']] at this
    exact this)
  refine Nat.lt_of_not_le fun hge => ?_
  have hlog : n ≤ r.log2 := (Nat.le_log2 (by have := Nat.two_pow_pos n; omega)).mpr hge
  have r0 : r ≠ 0 := by have := Nat.two_pow_pos n; omega
  have lt : c0.log2 < r.log2 ∨ c0 = 0 := by
    by_cases z : c0 = 0
    · exact .inr z
    · exact .inl (Nat.lt_of_lt_of_le ((Nat.log2_lt z).mpr hc0n) hlog)
  have hx : r ^^^ c0 ≠ 0 ∧ (r ^^^ c0).log2 = r.log2 := by
    rcases lt with lt | z
    · rw [Nat.xor_comm]
      exact log_xor r0 lt
    · rw [z, Nat.xor_zero]
      exact ⟨r0, rfl⟩
  obtain ⟨u, hu, eu⟩ := lead R h3 hx.1
  have := rem_clear (v := y * 2 ^ n) R u hu
  rw [hr, eu, hx.2, tb_log r0] at this
  cases this
/-! ### the inverse -/
structure InvM (vv R : List Nat) (w : Nat) : Prop where
  len : R.length = w
  at_ : ∀ j r, R[j]? = some r → r < 2 ^ w ∧ comb vv r = 2 ^ j
/-- the parity of a choice with a bank is that of the combination with the address -/
theorem dot_comb : ∀ (vv : List Nat) (c a : Nat), dot c (bk vv a) = dot (comb vv c) a
  | [], c, a => by
    show dot c 0 = dot 0 a
    rw [dot_0, dot_comm, dot_0]
  | v :: vv, c, a => by
    show dot c (dot a v + 2 * bk vv a) = dot ((if c % 2 = 1 then v else 0) ^^^ comb vv (c / 2)) a
    rw [dot_xor_l, ← dot_comb vv (c / 2) a]
    have h := dot_lt a v
    have e1 : dot c (dot a v + 2 * bk vv a) = ((c % 2) * dot a v + dot (c / 2) (bk vv a)) % 2 := by
      show par (c &&& (dot a v + 2 * bk vv a)) = _
      rw [par_eq]
      have e2 : (c &&& (dot a v + 2 * bk vv a)) / 2 = c / 2 &&& bk vv a := by
        rw [Nat.and_div_two]
        congr 1
        omega
      have e3 : (c &&& (dot a v + 2 * bk vv a)) % 2 = (c % 2) * dot a v := by
        have := @Nat.and_mod_two_pow c (dot a v + 2 * bk vv a) 1
        rw [Nat.pow_one] at this
        rw [this, show (dot a v + 2 * bk vv a) % 2 = dot a v by omega]
        rcases Nat.mod_two_eq_zero_or_one c with z | z <;> rw [z]
        · simp
        · have : dot a v = 0 ∨ dot a v = 1 := by omega
          rcases this with q | q <;> rw [q] <;> rfl
      rw [e2, e3]
      rfl
    rw [e1]
    rcases Nat.mod_two_eq_zero_or_one c with z | z
    · rw [z, if_neg (by decide)]
      congr 2
      rw [dot_comm 0 a, dot_0, Nat.zero_mul]
    · rw [z, if_pos rfl, Nat.one_mul, dot_comm a v]
theorem bk_bit : ∀ (R : List Nat) (b j : Nat), (bk R b).testBit j = decide (dot b (R.getD j 0) = 1)
  | [], b, j => by
    show (0 : Nat).testBit j = _
    rw [Nat.zero_testBit, List.getD_nil, dot_0]
    rfl
  | r :: R, b, 0 => by
    show (dot b r + 2 * bk R b).testBit 0 = decide (dot b r = 1)
    rw [Nat.testBit_zero, show (dot b r + 2 * bk R b) % 2 = dot b r by have := dot_lt b r; omega]
  | r :: R, b, j + 1 => by
    show (dot b r + 2 * bk R b).testBit (j + 1) = _
    rw [Nat.testBit_succ, show (dot b r + 2 * bk R b) / 2 = bk R b by have := dot_lt b r; omega, bk_bit R b j]
    rfl
theorem has_bit (a j : Nat) : decide (has a j = 1) = a.testBit j := by
  unfold has
  cases a.testBit j <;> rfl
theorem inv_bk {vv R : List Nat} {w a : Nat} (I : InvM vv R w) (ha : a < 2 ^ w) : bk R (bk vv a) = a := by
  refine Nat.eq_of_testBit_eq fun j => ?_
  rw [bk_bit]
  by_cases hj : j < w
  · have hj' : j < R.length := by rw [I.len]; exact hj
    obtain ⟨h1, h2⟩ := I.at_ j R[j] (List.getElem?_eq_getElem hj')
    rw [List.getD_eq_getElem?_getD, List.getElem?_eq_getElem hj', Option.getD_some, dot_comm, dot_comb, h2, dot_comm, dot_pow, has_bit]
  · have e : R[j]? = none := List.getElem?_eq_none (by rw [I.len]; omega)
    rw [List.getD_eq_getElem?_getD, e, Option.getD_none, dot_0]
    cases c : a.testBit j with
    | false => rfl
    | true => exact absurd (bit_lt ha c) hj
theorem full_span {vv : List Nat} {w : Nat} (h : Indep vv) (hl : vv.length = w) (hv : ∀ v ∈ vv, v < 2 ^ w) (x : Nat) : InS vv x ↔ x < 2 ^ w := by
  have e : comp vv w = vv := by
    obtain ⟨ps, e, _, _⟩ := (comp_is h w).app
    have l := comp_len h hv
    rw [e, List.length_append, hl] at l
    rw [e, List.eq_nil_of_length_eq_zero (show ps.length = 0 by omega), List.append_nil]
  rw [← comp_span h hv, e]
theorem bk_onto {vv : List Nat} {w b : Nat} (h : Indep vv) (hl : vv.length = w) (hv : ∀ v ∈ vv, v < 2 ^ w) (hb : b < 2 ^ w) : ∃ a, a < 2 ^ w ∧ bk vv a = b := by
  have p := places_all (fun x hx => (full_span h hl hv x).mpr hx) hl
  obtain ⟨a, ha, e⟩ := List.mem_map.mp (p.symm.subset (List.mem_range.mpr hb))
  exact ⟨a, List.mem_range.mp ha, e⟩
/-- masks below are told by the banks -/
theorem bk_ext {A B : List Nat} {w : Nat} (hl : A.length = B.length) (hA : ∀ a ∈ A, a < 2 ^ w) (hB : ∀ a ∈ B, a < 2 ^ w) (h : ∀ x, x < 2 ^ w → bk A x = bk B x) : A = B := by
  refine List.ext_getElem hl fun j h1 h2 => ?_
  refine Nat.eq_of_testBit_eq fun i => ?_
  by_cases hi : i < w
  · have := h (2 ^ i) (Nat.pow_lt_pow_right (by decide) hi)
    have := congrArg (fun z => z.testBit j) this
    simp only [bk_bit] at this
    rw [List.getD_eq_getElem?_getD, List.getElem?_eq_getElem h1, List.getD_eq_getElem?_getD, List.getElem?_eq_getElem h2, Option.getD_some, Option.getD_some, dot_comm _ A[j], dot_comm _ B[j], dot_pow, dot_pow, has_bit, has_bit] at this
    exact this
  · have e : ∀ z, z < 2 ^ w → z.testBit i = false := fun z hz => by
      cases c : z.testBit i with
      | false => rfl
      | true => exact absurd (bit_lt hz c) hi
    rw [e _ (hA _ (List.getElem_mem h1)), e _ (hB _ (List.getElem_mem h2))]
theorem InvM.lt {vv R : List Nat} {w : Nat} (I : InvM vv R w) : ∀ r ∈ R, r < 2 ^ w := fun r hr => by
  obtain ⟨j, hj⟩ := List.getElem?_of_mem hr
  exact (I.at_ j r hj).1
theorem inv_uniq {vv A B : List Nat} {w : Nat} (h : Indep vv) (hl : vv.length = w) (hv : ∀ v ∈ vv, v < 2 ^ w) (a : InvM vv A w) (b : InvM vv B w) : A = B :=
  bk_ext (a.len.trans b.len.symm) a.lt b.lt fun x hx => by
    obtain ⟨y, hy, rfl⟩ := bk_onto h hl hv hx
    rw [inv_bk a hy, inv_bk b hy]
theorem inv_inv {vv R S : List Nat} {w : Nat} (hl : vv.length = w) (hv : ∀ v ∈ vv, v < 2 ^ w) (a : InvM vv R w) (b : InvM R S w) : S = vv :=
  bk_ext (b.len.trans hl.symm) b.lt hv fun x hx => by
    have h1 := bk_lt vv x
    rw [hl] at h1
    have := inv_bk b h1
    rw [inv_bk a hx] at this
    exact this
/-- the masks of an inverse are independent -/
theorem inv_indep {vv R : List Nat} {w : Nat} (a : InvM vv R w) : Indep R := fun i r hi hin => by
  have key : ∀ (L : List Nat) {x : Nat}, InS L x → InS (L.map (comb vv)) (comb vv x) := by
    intro L
    induction L with
    | nil =>
      intro x h
      rw [show x = 0 from h, comb_0]
      rfl
    | cons y L ih =>
      intro x h
      rcases h with h | h
      · exact .inl (ih h)
      · have := ih h
        rw [comb_xor] at this
        exact .inr this
  have h1 := key _ hin
  rw [(a.at_ i r hi).2] at h1
  have h2 : ∀ v ∈ (R.take i).map (comb vv), v.testBit i = false := fun v hv => by
    obtain ⟨y, hy, rfl⟩ := List.mem_map.mp hv
    obtain ⟨j, hj⟩ := List.getElem?_of_mem hy
    rw [List.getElem?_take] at hj
    split at hj
    · rename_i hlt
      rw [(a.at_ j y hj).2, pow_bit]
      exact decide_eq_false (by omega)
    · cases hj
  have := ins_bit h2 h1
  rw [pow_bit] at this
  simp at this
/-! ### a mask added to another one -/
theorem set_in {L : List Nat} {i k a b : Nat} (hi : L[i]? = some a) (hk : L[k]? = some b) (n : i ≠ k) {x : Nat} (h : InS (L.set i (a ^^^ b)) x) : InS L x := by
  refine ins_le (fun v hv => ?_) h
  rcases List.mem_or_eq_of_mem_set hv with hv | rfl
  · exact ins_mem hv
  · exact ins_xor (ins_mem (List.mem_of_getElem? hi)) (ins_mem (List.mem_of_getElem? hk))
theorem set_span {L : List Nat} {i k a b : Nat} (hi : L[i]? = some a) (hk : L[k]? = some b) (n : i ≠ k) (x : Nat) : InS (L.set i (a ^^^ b)) x ↔ InS L x := by
  refine ⟨set_in hi hk n, fun h => ?_⟩
  have li : i < L.length := (List.getElem?_eq_some_iff.mp hi).1
  have h1 : (L.set i (a ^^^ b))[i]? = some (a ^^^ b) := List.getElem?_set_self li
  have h2 : (L.set i (a ^^^ b))[k]? = some b := by rw [List.getElem?_set_ne n]; exact hk
  have e : (L.set i (a ^^^ b)).set i (a ^^^ b ^^^ b) = L := by
    rw [List.set_set, xor_cancel]
    refine List.ext_getElem? fun j => ?_
    by_cases q : i = j
    · subst q
      rw [List.getElem?_set_self li, hi]
    · rw [List.getElem?_set_ne q]
  exact set_in h1 h2 n (by rw [e]; exact h)
theorem set_indep {L : List Nat} {i k a b : Nat} (h : Indep L) (hi : L[i]? = some a) (hk : L[k]? = some b) (n : i ≠ k) : Indep (L.set i (a ^^^ b)) := by
  refine (indep_iff _).mp ?_
  have e := indep_len (red_indep (red0_red (L.set i (a ^^^ b)))) (red_indep (red0_red L)) fun x => by
    rw [red0_span, red0_span]
    exact set_span hi hk n x
  rw [e, List.length_set, indep_red h]
end GF
set_option Elab.async false
set_option maxRecDepth 100000
namespace GF
theorem inv_ex {vv : List Nat} {w : Nat} (h : Indep vv) (hl : vv.length = w) (hv : ∀ v ∈ vv, v < 2 ^ w) : ∃ R, InvM vv R w := by
  refine ⟨(List.range w).map fun j => rem (red0 (lift vv w)) (2 ^ j * 2 ^ w), ⟨by rw [List.length_map, List.length_range], fun j r hj => ?_⟩⟩
  have hjl : j < w := by
    have := (List.getElem?_eq_some_iff.mp hj).1
    rw [List.length_map, List.length_range] at this
    exact this
  rw [List.getElem?_map, List.getElem?_range hjl] at hj
  cases hj
  obtain ⟨h1, h2⟩ := rem_lift (n := w) (y := 2 ^ j) (Nat.le_of_eq hl) (red0_red (lift vv w)) (red0_span (lift vv w))
  obtain ⟨h3, h4⟩ := h2 (h1.mpr ((full_span h hl hv _).mpr (Nat.pow_lt_pow_right (by decide) hjl)))
  rw [hl] at h4
  exact ⟨h4, h3⟩
theorem low_bits (r : Nat) : ∀ n, ((List.range n).map fun i => r / 2 ^ i % 2 * 2 ^ i).sum = r % 2 ^ n
  | 0 => by rw [Nat.pow_zero, Nat.mod_one]; rfl
  | n + 1 => by
    rw [List.range_succ, List.map_append, List.sum_append, low_bits r n, Nat.mod_pow_succ]
    simp [Nat.mul_comm]
theorem bit_digit (x j : Nat) : x.testBit j = decide (x / 2 ^ j % 2 = 1) := Nat.testBit_eq_decide_div_mod_eq
/-- bit j of the address with the bank 2 ^ i is bit i of mask j of the inverse -/
theorem inv_col {vv R : List Nat} {w a i j r : Nat} (I : InvM vv R w) (ha : a < 2 ^ w) (e : bk vv a = 2 ^ i) (hj : R[j]? = some r) : a / 2 ^ j % 2 = r / 2 ^ i % 2 := by
  have h1 := inv_bk I ha
  rw [e] at h1
  have h2 : a.testBit j = r.testBit i := by
    rw [← h1, bk_bit, List.getD_eq_getElem?_getD, hj, Option.getD_some, dot_comm, dot_pow, has_bit]
  rw [bit_digit, bit_digit, decide_eq_decide] at h2
  omega
end GF
set_option Elab.async false
set_option maxRecDepth 100000
/-! the addresses with bank 0 of maps, of joined maps; how often banks occur -/
namespace GF
/-- the addresses with bank 0, ascending -/
structure Zer (w : Nat) (vv Z : List Nat) : Prop where
  srt : Z.Pairwise (· < ·)
  iff : ∀ x, x ∈ Z ↔ x < 2 ^ w ∧ bk vv x = 0
section
variable {w : Nat} {vv uu A Z Y J : List Nat}
theorem zer_of (hA : ∀ m, InS A m ↔ m < 2 ^ w ∧ Orth vv m) (a : All Z A) : Zer w vv Z := ⟨a.srt, fun x => by rw [a.iff, hA, bk_0]⟩
theorem zer_len (RA : Red A) (hA : ∀ m, InS A m ↔ m < 2 ^ w ∧ Orth vv m) (hv : ∀ v ∈ vv, v < 2 ^ w) (a : All Z A) : 2 ^ (red0 vv).length * Z.length = 2 ^ w := by
  have l1 := all_len a
  have l2 : (red0 A).length = A.length := indep_len (red_indep (red0_red A)) (red_indep RA) (red0_span A)
  have hL : ∀ r ∈ red0 vv, r < 2 ^ w := fun r hr => ins_lt hv ((red0_span vv r).mp (ins_mem hr))
  have l3 := dims (red0_red vv) hL RA fun m => by rw [hA, orth_span (red0_span vv)]
  rw [l1, l2, ← Nat.pow_add, show (red0 vv).length + A.length = w by omega]
theorem ker_len (RA : Red A) (hA : ∀ m, InS A m ↔ m < 2 ^ w ∧ Orth vv m) (hv : ∀ v ∈ vv, v < 2 ^ w) : A.length ≤ w := by
  have hL : ∀ r ∈ red0 vv, r < 2 ^ w := fun r hr => ins_lt hv ((red0_span vv r).mp (ins_mem hr))
  have l3 := dims (red0_red vv) hL RA fun m => by rw [hA, orth_span (red0_span vv)]
  omega
theorem Zer.pair (z : Zer w vv Z) {x y : Nat} (hx : x < 2 ^ w) (hy : y < 2 ^ w) : decide (bk vv x = bk vv y) = decide (x ^^^ y ∈ Z) := by
  rw [decide_eq_decide, z.iff, bk_xor]
  exact ⟨fun h => ⟨Nat.xor_lt_two_pow hx hy, by rw [h, Nat.xor_self]⟩, fun ⟨_, h⟩ => Classical.byContradiction fun n => ne_bit n h⟩
theorem bk_app : ∀ (vv uu : List Nat) (a : Nat), bk (vv ++ uu) a = bk vv a + bk uu a * 2 ^ vv.length
  | [], uu, a => by
    show bk uu a = 0 + bk uu a * 1
    omega
  | v :: vv, uu, a => by
    have ih := bk_app vv uu a
    show dot a v + 2 * bk (vv ++ uu) a = dot a v + 2 * bk vv a + bk uu a * 2 ^ (vv.length + 1)
    rw [ih, Nat.pow_succ, ← Nat.mul_assoc]
    omega
theorem count_map (f : Nat → Nat) (k : Nat) : ∀ l : List Nat, ((l.map f).map (fun n : Nat => (n : Int))).count (k : Int) = (l.filter fun x => decide (f x = k)).length
  | [] => rfl
  | a :: l => by
    rw [List.map_cons, List.map_cons, List.count_cons, count_map f k l]
    by_cases h : f a = k
    · rw [List.filter_cons_of_pos (p := fun x => decide (f x = k)) (decide_eq_true h), h, if_pos (beq_self_eq_true _), List.length_cons]
    · rw [List.filter_cons_of_neg (p := fun x => decide (f x = k)) (by rw [decide_eq_false h]; decide), if_neg (fun e => h (Int.ofNat_inj.mp (beq_iff_eq.mp e)))]
      rfl
theorem xor_inj {a b c : Nat} (h : a ^^^ c = b ^^^ c) : a = b := by
  have e := congrArg (fun x => x ^^^ c) h
  simp only [xor_cancel] at e
  exact e
theorem Zer.many (z : Zer w vv Z) {c : Nat} (hc : c < 2 ^ w) : ((List.range (2 ^ w)).filter fun x => decide (bk vv x = bk vv c)).length = Z.length := by
  have nd : (Z.map fun x => x ^^^ c).Nodup := List.pairwise_map.mpr (z.srt.imp fun {a b} h e => absurd (xor_inj e) (Nat.ne_of_lt h))
  have p : ((List.range (2 ^ w)).filter fun x => decide (bk vv x = bk vv c)).Perm (Z.map fun x => x ^^^ c) := (List.perm_ext_iff_of_nodup (List.nodup_range.sublist List.filter_sublist) nd).mpr fun x => by
    rw [List.mem_filter, List.mem_range, decide_eq_true_iff, List.mem_map]
    constructor
    · rintro ⟨h1, h2⟩
      exact ⟨x ^^^ c, (z.iff _).mpr ⟨Nat.xor_lt_two_pow h1 hc, by rw [bk_xor, h2, Nat.xor_self]⟩, xor_cancel x c⟩
    · rintro ⟨y, hy, rfl⟩
      obtain ⟨h1, h2⟩ := (z.iff y).mp hy
      exact ⟨Nat.xor_lt_two_pow h1 hc, by rw [bk_xor, h2, Nat.zero_xor]⟩
  rw [p.length_eq, List.length_map]
theorem Zer.list (z : Zer w vv Z) : (List.range (2 ^ w)).filter (fun x => decide (bk vv x = 0)) = Z :=
  sorted_ext (List.pairwise_lt_range.sublist List.filter_sublist) z.srt fun x => by rw [List.mem_filter, List.mem_range, decide_eq_true_iff, z.iff]
theorem Zer.join (z : Zer w vv Z) (y : Zer w uu Y) (j : Zer w (vv ++ uu) J) : Z.filter (fun x => decide (x ∈ Y)) = J :=
  sorted_ext (z.srt.sublist List.filter_sublist) j.srt fun x => by
    rw [List.mem_filter, decide_eq_true_iff, z.iff, y.iff, j.iff, bk_app]
    have hp := Nat.two_pow_pos vv.length
    constructor
    · rintro ⟨⟨h1, h2⟩, _, h3⟩
      exact ⟨h1, by rw [h2, h3, Nat.zero_mul]⟩
    · rintro ⟨h1, h2⟩
      have h3 : bk vv x = 0 := by omega
      have h4 : bk uu x * 2 ^ vv.length = 0 := by omega
      exact ⟨⟨h1, h3⟩, h1, (Nat.mul_eq_zero.mp h4).resolve_right (by omega)⟩
theorem Zer.hid (z : Zer w vv Z) {g : List Nat} (hg : ∀ x ∈ g, x < 2 ^ w) : g.filter (fun x => decide (bk vv x = 0)) = g.filter (fun x => decide (x ∈ Z)) :=
  List.filter_congr fun x hx => by
    rw [decide_eq_decide, z.iff]
    exact ⟨fun h => ⟨hg x hx, h⟩, fun h => h.2⟩
theorem banks_many (hv : ∀ v ∈ vv, v < 2 ^ w) {ns : List Nat} (nd : ns.Nodup) (h : ∀ k, k ∈ ns ↔ ∃ x, x < 2 ^ w ∧ bk vv x = k) : ns.length = 2 ^ (red0 vv).length := by
  obtain ⟨s, e, l⟩ := indep_els (red_indep (red0_red (cols vv w)))
  have p : ns.Perm s := (List.perm_ext_iff_of_nodup nd e.nd).mpr fun x => by rw [h, e.iff, red0_span, cols_iff]
  rw [p.length_eq, l, cols_rank hv]
end
end GF
set_option Elab.async false
set_option maxRecDepth 100000
set_option maxHeartbeats 4000000
/-! enumerate over a tuple -/
namespace G
open PySem PySem.Spec PyProof.Rows L2

/-- what draws from a tuple's iterator -/
theorem draws_T {prog : Program} {w : World} {A : Around} (hh : A.handled = none) (it t : Addr) (hne : t ≠ it) (its : Array Value) :
    Draws prog w A it [it, t] its.size (fun i v => its[i]? = some v) (fun i h => IsTupIter h it t i ∧ IsTup h t its) :=
  { live := fun _ _ st => st.1.elim fun o q => ⟨o, q.1⟩
    frame := fun _ _ _ st hk => ⟨st.1.elim fun o q => ⟨o, hk it (List.mem_cons_self ..) o q.1, q.2⟩, st.2.elim fun o q => ⟨o, hk t (List.mem_cons_of_mem _ (List.mem_cons_self ..)) o q.1, q.2⟩⟩
    item := fun i s Q E hi st hQ => RZ.nextOf_tuple_item st.1 st.2 (x := its[i]) (Array.getElem?_eq_getElem hi) fun h' hit' hs' =>
      hQ _ h' s.toks (Array.getElem?_eq_getElem hi) ⟨hit', st.2.elim fun o q => ⟨o, hs'.extBut t o hne q.1, q.2⟩⟩ hs'
    done := fun s Q E st hE => RZ.nextOf_tuple_end hh st.1 st.2 (Array.getElem?_eq_none (Nat.le_refl _)) hE }

/-- enumerate(t), t a tuple: made -/
theorem meets_enum1 {v : Value} {o : Obj} {H : Heap → Prop} (B : Begins v o H) :
    Meets (Builtin.«enumerate.__new__» ⟨[.type "enumerate", v], []⟩) (fun _ R s => H s.heap ∧
      R (.ok (.ret (.ref (s.heap.objs.size + 1)))) { s with heap := (s.heap.push o).push { cls := .type "enumerate", data := .fields #[.none, .bool false, .ref s.heap.objs.size, rawInt 0, .none, .none] } }) :=
  .of_wp fun prog w A R s h => by
    obtain ⟨hp, g, d, tk, os⟩ := s
    obtain ⟨h1, h⟩ := h
    have hsub := sub_enumerate
    have hz : (hp.push o).objs.size = hp.objs.size + 1 := Heap.size_push ..
    have q1 : ∀ {A' : Around} {E : Value → Shared → Prop} {Q : Value → Shared → Prop}, Q (.ref hp.objs.size) ⟨hp.push o, g, d, tk, os⟩ → wpAny (model prog w) A' (pyIter v) Q E ⟨hp, g, d, tk, os⟩ := B.iter prog w _ _ ⟨hp, g, d, tk, os⟩ _ h1
    wp_walk using q1
    refine wpAny_stack_any fun st => wpAny_pure ?_
    split
    · rename_i c _ _ _ _ _
      cases (c == Value.type "enumerate") <;> (wp_walk using q1; exact ⟨_, hz ▸ rfl, h⟩)
    · wp_walk using q1
      exact ⟨_, hz ▸ rfl, h⟩
theorem call_enum1 {prog : Program} {w : World} {A : Around} {E : Value → Shared → Prop} {s : Shared} {v : Value} {o : Obj} {H : Heap → Prop} {Q : Value → Shared → Prop} (B : Begins v o H) (h1 : H s.heap)
    (h : ∀ h', IsEnum h' (s.heap.objs.size + 1) s.heap.objs.size 0 .none → h'.get? s.heap.objs.size = some o → (∀ b u, s.heap.get? b = some u → h'.get? b = some u) → Q (.ref (s.heap.objs.size + 1)) { s with heap := h' }) :
    wpAny (model prog w) A (call (.type "enumerate") [v]) Q E s := by
  have hz : (s.heap.push o).objs.size = s.heap.objs.size + 1 := Heap.size_push ..
  have he : IsEnum ((s.heap.push o).push { cls := .type "enumerate", data := .fields #[.none, .bool false, .ref s.heap.objs.size, rawInt 0, .none, .none] }) (s.heap.objs.size + 1) s.heap.objs.size 0 .none :=
    hz ▸ Heap.get?_push_size (s.heap.push o) rfl
  exact callType_new F.called_enumerate (by decide) (F.typeCall_enumerate_1 _) (F.newCall_enumerate_1 _) (fun obj => F.args_object_init_2 obj _) F.entry_enumerate_new (meets_enum1 B)
    ⟨h1, ⟨_, he, rfl⟩, h _ he (Heap.get?_push_of_some _ (Heap.get?_push_size _ B.free)) fun b u x => Heap.get?_push_of_some _ (Heap.get?_push_of_some _ x)⟩

/-- the tuple at a, each item in a new pair -/
def Iet (K : PySem.W.Frag) (a : Addr) : It :=
  ⟨fun i H => ∃ (xs : List V) (x : V), SqT K H a xs ∧ xs[i]? = some x, fun i H v H' => ∃ T x, v = .ref T ∧ H T = none ∧ H' = upd H T (.tup [.int (i : Nat), x]) ∧ ∀ xs, SqT K H a xs → xs[i]? = some x, fun i H => ∃ xs : List V, SqT K H a xs ∧ xs.length ≤ i⟩
theorem turn_enumT {P : Program} {w : World} {K : PySem.W.Frag} {elts : List Expr} {kk : Nat} {tpos : Pos} (a e it : Addr) (hne : e ≠ it) (hea : a ≠ e) (hia : a ≠ it) :
    Turn P w K (.Tuple elts kk tpos) (Iet K a) [e, it] e (fun i h => (∃ old, IsEnum h e it ((i : Nat) : Int) old) ∧ IsTupIter h it a i) where
  mem := List.mem_cons_self ..
  obj := fun i h ⟨⟨old, he⟩, ⟨o, ho, hc, hd⟩⟩ b hb => by
    rcases List.mem_cons.mp hb with rfl | hb
    · exact ⟨_, he, fun v q => nomatch q⟩
    · rw [List.mem_singleton.mp hb]
      exact ⟨o, ho, fun v q => by rw [hd] at q; cases q⟩
  keep := fun i h h' ⟨⟨old, he⟩, ⟨o, ho, r⟩⟩ k => ⟨⟨old, k e (List.mem_cons_self ..) _ he⟩, ⟨o, k it (List.mem_cons_of_mem _ (List.mem_cons_self ..)) o ho, r⟩⟩
  item := by
    intro X hP hw hK hc i pins s σ H E I hf ⟨⟨old, he⟩, hit⟩ ⟨xs, x, hq, hx⟩
    subst hP hw hK
    obtain ⟨its, rv, p, hz⟩ := I.tuple hq
    obtain ⟨u, hu, ru⟩ := rv.get hx
    have hel : e < s.heap.objs.size := Heap.lt_size he
    have hil : it < s.heap.objs.size := hit.elim fun o q => Heap.lt_size q.1
    have hi : i < its.toArray.size := by
      rw [List.size_toArray]
      exact (List.getElem?_eq_some_iff.mp hu).1
    refine wpAny_pyNext_enum_itemD (draws_T (prog := X.prog) (w := X.w) (A := X.A.in1) (I.ok.hd hc) it a hia its.toArray) he ⟨hit, p⟩ hi hne (by simp [hne, Ne.symm hea]) fun y h' tk hy ho hst hT hsz hk => ?_
    obtain rfl : u = y := Option.some.inj (hu.symm.trans (by simpa using hy))
    refine ⟨_, rfl, wpAny_letOwnedTupleGo_enum (s := { s with heap := h', toks := tk + 1 }) ho fun h2 he2 sb => ?_⟩
    have nT : ∀ b ∈ [e, it], b < s.heap.objs.size := fun b hb => by
      rcases List.mem_cons.mp hb with rfl | hb
      · exact hel
      · rw [List.mem_singleton.mp hb]
        exact hil
    have new : ObjOk X.prog X.w (upd H s.heap.objs.size (.tup [.int (i : Nat), x])) h2 s.heap.objs.size (.tup [.int (i : Nat), x]) :=
      ⟨by show 2 ≤ sizeLine; decide, [.int i tk, u], .cons ⟨_, rfl⟩ (.cons ru .nil), ⟨_, (sb.2 _ (Nat.ne_of_gt hel)).trans hT, rfl, _, rfl⟩⟩
    refine ⟨.ref s.heap.objs.size, _, I.turnedNew (t' := tk + 1) (ch := [e, it]) (fun b ob hb q => (sb.2 b fun z => hb (z ▸ List.mem_cons_self ..)).trans (hk b ob (fun z => hb (z ▸ List.mem_cons_self ..)) (fun z => hb (z ▸ List.mem_cons_of_mem _ (List.mem_cons_self ..))) q)) hf (Nat.le_refl _) new,
      rfl, ⟨_, x, rfl, I.hok.fresh (Nat.le_refl _), rfl, fun ys hy => by rw [I.tuple_inj hy hq]; exact hx⟩, ⟨⟨u, ?_⟩, hst.1.elim fun o q => ⟨o, (sb.2 it (Ne.symm hne)).trans q.1, q.2⟩⟩, fun b hb => ?_⟩
    · rw [Int.natCast_add]
      exact he2
    · rw [upd_ne (Nat.ne_of_lt (nT b hb))]
      exact (hf b hb).1
  done := by
    intro X hP hw hK hc i pins s σ H E I hf ⟨⟨old, he⟩, hit⟩ ⟨xs, hq, hx⟩
    subst hP hw hK
    obtain ⟨its, rv, p, hz⟩ := I.tuple hq
    obtain ⟨f0, f1, f2, f3, f4, f5⟩ := hf it (List.mem_cons_of_mem _ (List.mem_cons_self ..))
    have hl : its.length ≤ i := by
      have := rv.length
      omega
    have hT : s.TypeIs (.ref e) "enumerate" := ⟨_, he, rfl⟩
    unfold pyNext
    refine wpAny_bind (wpAny_attempt (wpAny_callSpecial?_slot (name := Str.ofString "__next__") hT F.slot_enumerate_next (wpAny_call_entry F.slot_enumerate_next hT F.entry_enumerate_next ?_ (F.args_enumerate_next_1 _))))
    refine wpAny_bind (m := field (.ref e) 2) (wpAny_field he rfl (x := .ref it) rfl ?_)
    refine wpAny_bind (RZ.nextOf_tuple_end (I.ok.hd hc) hit p (by simpa using hl) fun h' y hk ⟨o, ho, hc'⟩ => ?_)
    exact wpAny_bind (wpAny_isInstance (T := "StopIteration") (b := true) ⟨o, ho, hc'⟩ isSubtype_stop (wpAny_pure ⟨rfl, I.turned (t' := s.toks) (fun b o hb q => hk b o hb q) f0 f1 f3 f4 f5⟩))
  self := fun A i s Q E ⟨⟨_, he⟩, _⟩ h => wpAny_pyIter_enum he h

def iEnumT (K : PySem.W.Frag) (ta : TA) : TI := fun σ H R => ta σ H fun vs H1 => ∃ a xs, vs = [.ref a] ∧ SqT K H1 a xs ∧ R (Iet K a) H1
theorem pi_enumT {X : Cx} {e : Expr} {ta : TA} {p pos tpos : Pos} {elts : List Expr} {kk : Nat} (hg : Gl X "enumerate") (hm : X.mg "enumerate" = none) (ha : PA X [e] ta) (hs : starEach [e] X.env = [(false, eval e X.env)] := by rfl) :
    PI X (.Tuple elts kk tpos) (.Call (.Name "enumerate" p) [e] [] pos) (iEnumT X.K ta) := by
  refine ⟨fun pins s σ H R I h => Call_ (ld_blt I hg hm boot_enumerate (PyProof.Rows.callWith_type1 (thn (ha.run pos pins s σ H _ I h) fun us s1 ⟨vs, H1, I1, r1, a, xs, ex, hq, q⟩ => ?_) hs rfl))⟩
  subst ex
  cases r1 with
  | cons r rr =>
    cases rr
    cases r
    obtain ⟨its, rv, p', hz⟩ := I1.tuple hq
    have ha : a < s1.heap.objs.size := p'.elim fun o q => Heap.lt_size q.1
    refine call_enum1 (begins_tuple a its.toArray) p' fun h' he hit hk => wpAny_pyIter_enum he ?_
    refine ⟨s1.heap.objs.size + 1, [s1.heap.objs.size + 1, s1.heap.objs.size], _, _, H1, rfl, I1.kept (t' := s1.toks) hk, turn_enumT a (s1.heap.objs.size + 1) s1.heap.objs.size (Nat.succ_ne_self _) (Nat.ne_of_lt (Nat.lt_succ_of_lt ha)) (Nat.ne_of_lt ha), ⟨⟨.none, he⟩, ⟨_, hit, rfl, rfl⟩⟩, fun b hb => ?_, q⟩
    have hle : s1.heap.objs.size ≤ b := by
      rcases List.mem_cons.mp hb with z | z
      · rw [z]
        exact Nat.le_succ _
      · rw [List.mem_singleton.mp z]
        exact Nat.le_refl _
    exact I1.fpOk hle (I1.hok.fresh hle)
theorem walk_enumT {K : PySem.W.Frag} {a : Addr} {xs : List V} : Walk (Iet K a) xs.length (fun H => SqT K H a xs) (YPair (fun i => some (.int (i : Nat))) (fun i => xs[i]?)) where
  goes := fun i H hi h => ⟨xs, xs[i], h, List.getElem?_eq_getElem hi⟩
  stops := fun H h => ⟨xs, h, Nat.le_refl _⟩
  yields := fun i H x H' hi h ⟨T, y, e1, e2, e3, e4⟩ => ⟨T, _, y, e1, e2, e3, rfl, e4 xs h⟩
end G
set_option Elab.async false
set_option maxRecDepth 100000
namespace X1
open PySem PySem.Spec PyProof.Rows L2
open GF (pc par pc_0 pc_eq par_lt)
/-- one bit of a bank -/
def bitOf (ms : List Int) (a : Int) (i : Nat) : Int := (par (a.toNat &&& ((ms.getD i 0).toNat)) : Int) * 2 ^ i
def bits (ms : List Int) (a : Int) : List Int := (List.range ms.length).map (bitOf ms a)
/-- the bank of an address -/
def bankOf (ms : List Int) (a : Int) : Int := (bits ms a).sum
theorem bits_length (ms : List Int) (a : Int) : (bits ms a).length = ms.length := by
  unfold bits
  rw [List.length_map, List.length_range]
theorem bits_next (ms : List Int) (a : Int) {i : Nat} (h : i < ms.length) : (bits ms a).take i ++ [bitOf ms a i] = (bits ms a).take (i + 1) := by
  have e : (bits ms a)[i]? = some (bitOf ms a i) := by
    unfold bits
    rw [List.getElem?_map, List.getElem?_range h]
    rfl
  rw [List.take_add_one, e]
  rfl
theorem sum_lt (ms : List Int) (a : Int) : ∀ i, i ≤ ms.length → 0 ≤ ((bits ms a).take i).sum ∧ ((bits ms a).take i).sum < 2 ^ i
  | 0, _ => ⟨Int.le_refl 0, by show (0 : Int) < 1; decide⟩
  | i + 1, h => by
    obtain ⟨h1, h2⟩ := sum_lt ms a i (by omega)
    rw [← bits_next ms a (by omega), List.sum_append]
    have hp := par_lt (a.toNat &&& ((ms.getD i 0).toNat))
    have h3 : 0 ≤ bitOf ms a i ∧ bitOf ms a i ≤ 2 ^ i := by
      have hh : (0 : Int) ≤ 2 ^ i := two_pow_nn i
      unfold bitOf
      rcases (by omega : par (a.toNat &&& ((ms.getD i 0).toNat)) = 0 ∨ par (a.toNat &&& ((ms.getD i 0).toNat)) = 1) with e | e
      · rw [e]
        simp [hh]
      · rw [e]
        simp [hh]
    have e2 : (2 : Int) ^ (i + 1) = 2 ^ i + 2 ^ i := by
      rw [Int.pow_succ]
      omega
    rw [e2]
    simp only [List.sum_cons, List.sum_nil]
    omega
theorem bank_lt (ms : List Int) (a : Int) : 0 ≤ bankOf ms a ∧ bankOf ms a < 2 ^ ms.length := by
  have h := sum_lt ms a ms.length (Nat.le_refl _)
  rw [List.take_of_length_le (by rw [bits_length]; exact Nat.le_refl _)] at h
  exact h
end X1
set_option Elab.async false
set_option maxRecDepth 100000
namespace X1
open PySem PySem.Spec PyProof.Rows L2
open GF (pc par pc_0 pc_eq par_lt)
theorem digit_code (b : Nat) (h : b < 2) : (Nat.digitChar b).toNat = 48 + b := by
  match b, h with
  | 0, _ => decide
  | 1, _ => decide
theorem cnt_core : ∀ (fuel n : Nat) (ds : List Char), n < fuel → cnt 49 ((Nat.toDigitsCore 2 fuel n ds).map Char.toNat) = (pc n : Int) + cnt 49 (ds.map Char.toNat)
  | 0, _, _, h => absurd h (Nat.not_lt_zero _)
  | fuel + 1, n, ds, h => by
    have hb : n % 2 < 2 := Nat.mod_lt _ (by decide)
    have step : cnt 49 ((Nat.digitChar (n % 2) :: ds).map Char.toNat) = ((n % 2 : Nat) : Int) + cnt 49 (ds.map Char.toNat) := by
      rw [List.map_cons, cnt_cons, digit_code _ hb]
      by_cases h1 : n % 2 = 1
      · rw [h1]
        rfl
      · have h0 : n % 2 = 0 := by omega
        rw [h0]
        rfl
    unfold Nat.toDigitsCore
    by_cases h0 : n / 2 = 0
    · simp only [h0, if_true]
      rw [step, pc_eq n, h0, pc_0, Nat.add_zero]
    · simp only [h0, if_false]
      rw [cnt_core fuel (n / 2) _ (by omega), step, pc_eq n]
      omega
theorem cnt_bin (n : Nat) : Txt.count (G.binText n) ("1" : Str) = (pc n : Int) := by
  have e : ("1" : Str) = ⟨#[49]⟩ := by decide +kernel
  rw [e, count_cnt]
  show cnt 49 (G.binL n) = _
  unfold G.binL Nat.toDigits
  rw [cnt_core (n + 1) n [] (Nat.lt_succ_self n)]
  show (pc n : Int) + 0 = pc n
  omega
end X1
set_option Elab.async false
set_option maxRecDepth 100000
set_option maxHeartbeats 4000000
namespace X1
open PySem L2
open GF (pc par pc_0 pc_eq par_lt)
def top (i : Nat) : Stmt := PySem.Challenge.pw_xorbanks_k79_whole_recodings_and_kernels.main.body.getD i (.Pass ⟨0, 0, 0, 0⟩)
abbrev sIsInt : Stmt := top 12
abbrev sIsAddr : Stmt := top 14
abbrev sAreAddrs : Stmt := top 15
abbrev sAreMasks : Stmt := top 16
abbrev sAsc : Stmt := top 17
abbrev sAreDiffs : Stmt := top 18
abbrev sCkWidth : Stmt := top 19
abbrev sCkMap : Stmt := top 20
abbrev sCkAddr : Stmt := top 21
abbrev sCkDiffs : Stmt := top 22
abbrev sParity : Stmt := top 24
abbrev sRem : Stmt := top 25
abbrev sRed : Stmt := top 26
abbrev sHb : Stmt := top 28
abbrev sPowers : Stmt := top 29
abbrev sOrth : Stmt := top 30
abbrev sBankOf : Stmt := top 32
abbrev sInd : Stmt := top 33
abbrev sRec : Stmt := top 34
abbrev sBank : Stmt := top 35
abbrev sKernel : Stmt := top 36
abbrev sRecg : Stmt := top 37
abbrev sComp : Stmt := top 38
abbrev sInv : Stmt := top 39
abbrev sHidden : Stmt := top 41
abbrev sBox : Stmt := top 43
abbrev sTake : Stmt := top 44
abbrev sOf : Stmt := top 45
abbrev sAllOf : Stmt := top 46
abbrev sRank : Stmt := top 47
abbrev sLot : Stmt := top 48
abbrev sPlan : Stmt := top 49
abbrev sGaps : Stmt := top 50
abbrev sLed : Stmt := top 51
abbrev sPair : Stmt := top 52
abbrev sRight : Stmt := top 53
abbrev sLaw : Stmt := top 54
/-- a def of the module, as it stands behind the top -/
structure At (K : PySem.W.Frag) (mg : Str → Option Value) (x : Str) (st : Stmt) (ps : List Str) (f : Addr) (fd : FuncData) : Prop where
  fn : Fun K x x st f fd
  mg : mg x = some (.ref f)
  bi : Binds K fd ps []
/-- what else the defs ask of the module -/
abbrev sIsWidth : Stmt := top 13
abbrev sIndepN : Stmt := top 27
structure Txt (K : PySem.W.Frag) (mg : Str → Option Value) : Prop where
  isIndep : ∃ f fd, At K mg "independent" sIndepN ["known", "vectors"] f fd
  isWidth : ∃ f fd, At K mg "is_width" sIsWidth ["value"] f fd
  isinstance : mg "isinstance" = none
  int : mg "int" = none
  bool : mg "bool" = none
  tuple : mg "tuple" = none
  len : mg "len" = none
  all : mg "all" = none
  any : mg "any" = none
  sum : mg "sum" = none
  enum : mg "enumerate" = none
  zip : mg "zip" = none
  sorted : mg "sorted" = none
  abs : mg "abs" = none
  range : mg "range" = none
  repr : mg "repr" = none
  max : mg "max" = none
  min : mg "min" = none
  dict : mg "dict" = none
  set : mg "set" = none
  list : mg "list" = none
  mWidth : ∃ t, mg "MOST_WIDTH" = some (.int 16 t)
  mMasks : ∃ t, mg "MOST_MASKS" = some (.int 16 t)
theorem iteFb {b : Bool} {A B : Prop} (h : b = false) (k : B) : if b = true then A else B := by
  subst h
  exact iteF k
theorem iteTb {b : Bool} {A B : Prop} (h : b = true) (k : A) : if b = true then A else B := by
  subst h
  exact iteT k
theorem yes {σ : St} {H : Hp} {Q : Bool → Hp → Prop} (h : Q true H) : tYes σ H Q := h
theorem qv {Q : VK} {v v' : V} {H : Hp} (e : v = v') (k : Q v' H) : Q v H := e ▸ k
section
variable {P : Program} {w : World} {K : PySem.W.Frag} {mg : Str → Option Value} {base : Heap}

/-! ### is_int, of an int -/
def spIsInt : Sp := fun vs H Q _ => ∃ i : Int, vs = [.int i] ∧ Q (.bl true) H
theorem scIsInt : FnScope ["value"] ["value"] (defScope sIsInt) := ⟨rfl, rfl, rfl, by decide +kernel, rfl, by decide +kernel, by decide +kernel⟩
theorem ok_isInt {f : Addr} {fd : FuncData} (A0 : At K mg "is_int" sIsInt ["value"] f fd) (T : Txt K mg) : FnOk P w K mg base CX0 1 f fd ["value"] spIsInt := by
  refine A0.fn.ok scIsInt (fun vs H Q E h => ?_) (fun cdv A outer s H vs Q E hr h => ?_)
  · obtain ⟨i, rfl, _⟩ := h
    rfl
  · obtain ⟨i, rfl, k⟩ := h
    refine ⟨_, pss_one (ps_ret (pe_and (pe_callB call_isi (by rfl) T.isinstance (by decide +kernel) (pa_cons (pv 0) (pa_cons (pe_bltn (v := .ty "int") (by rfl) T.int (by decide +kernel) rfl) pa_nil)))
      (pe_one (pe_not (pe_callB call_isi (by rfl) T.isinstance (by decide +kernel) (pa_cons (pv 0) (pa_cons (pe_bltn (v := .ty "bool") (by rfl) T.bool (by decide +kernel) rfl) pa_nil))))))), ?_⟩
    refine ⟨_, rfl, _, _, _, _, _, rfl, .ty _, .base (.int _), kit_ty (r := true) (by decide +kernel), _, rfl, iteT ?_⟩
    exact ⟨_, rfl, _, _, _, _, _, rfl, .ty _, .base (.int _), kit_ty (r := false) (by decide +kernel), _, rfl, k⟩

/-! ### is_address, of ints -/
def spIsAddr : Sp := fun vs H Q _ => ∃ wd v : Int, vs = [.int wd, .int v] ∧ 0 ≤ wd ∧ wd ≤ 1000 ∧ Q (.bl (decide (0 ≤ v ∧ v < 2 ^ wd.toNat))) H
theorem scIsAddr : FnScope ["width", "value"] ["width", "value"] (defScope sIsAddr) := ⟨rfl, rfl, rfl, by decide +kernel, rfl, by decide +kernel, by decide +kernel⟩
theorem ok_isAddr {f f1 : Addr} {fd fd1 : FuncData} (A0 : At K mg "is_address" sIsAddr ["width", "value"] f fd) (A1 : At K mg "is_int" sIsInt ["value"] f1 fd1) (T : Txt K mg) :
    FnOk P w K mg base CX0 2 f fd ["width", "value"] spIsAddr := by
  have G1 : FnOk P w K mg base CX0 1 f1 fd1 ["value"] spIsInt := ok_isInt A1 T
  refine A0.fn.ok scIsAddr (fun vs H Q E h => ?_) (fun cdv A outer s H vs Q E hr h => ?_)
  · obtain ⟨i, j, rfl, _⟩ := h
    rfl
  · obtain ⟨wd, v, rfl, h0, h1, k⟩ := h
    refine ⟨_, pss_one (ps_ret (pe_and (pe_call G1 hr (by rfl) A1.mg A1.fn.kp A1.bi .nil pass0 (pa_cons (pv 1) pa_nil))
      (pe_one (pe_chain op_le op_lt pe_int (pv 1) (pe_op op_shl pe_int (pv 0)))))), ?_⟩
    refine ⟨_, rfl, _, rfl, _, rfl, iteT ?_⟩
    refine ⟨_, rfl, _, _, rfl, rfl, _, rfl, ?_⟩
    by_cases hv : 0 ≤ v
    · refine iteTb (decide_eq_true hv) ?_
      refine ⟨_, rfl, _, _, rfl, rfl, ⟨h0, by omega, by decide⟩, _, _, rfl, rfl, ?_⟩
      exact qv (by rw [Int.one_mul]; simp [hv]) k
    · refine iteFb (decide_eq_false hv) ?_
      exact qv (by simp [hv]) k
/-- all of them addresses of the width -/
def InW (wd : Int) (ns : List Int) : Prop := ∀ x ∈ ns, 0 ≤ x ∧ x < 2 ^ wd.toNat
/-! ### are_addresses, of a tuple of addresses -/
def spAreAddrs (K : PySem.W.Frag) : Sp := fun vs H Q _ => ∃ (wd m : Int) (p : Addr) (ns : List Int), vs = [.int wd, .ref p, .int m] ∧ 0 ≤ wd ∧ wd ≤ 1000 ∧ H p = some (.tup (ns.map V.int)) ∧ (ns.length : Int) ≤ m ∧ ns.length ≤ 1000 ∧ InW wd ns ∧
  ∀ H', Same H H' → Q (.bl true) H'
theorem scAreAddrs : FnScope ["width", "value", "most", "item"] ["width", "value", "most"] (defScope sAreAddrs) := ⟨rfl, rfl, rfl, by decide +kernel, rfl, by decide +kernel, by decide +kernel⟩
theorem ok_areAddrs {f f1 f2 : Addr} {fd fd1 fd2 : FuncData} (A0 : At K mg "are_addresses" sAreAddrs ["width", "value", "most"] f fd) (A1 : At K mg "is_int" sIsInt ["value"] f1 fd1)
    (A2 : At K mg "is_address" sIsAddr ["width", "value"] f2 fd2) (T : Txt K mg) : FnOk P w K mg base CX0 3 f fd ["width", "value", "most"] (spAreAddrs K) := by
  have G2 : FnOk P w K mg base CX0 2 f2 fd2 ["width", "value"] spIsAddr := ok_isAddr A2 A1 T
  refine A0.fn.ok scAreAddrs (fun vs H Q E h => ?_) (fun cdv A outer s H vs Q E hr h => ?_)
  · obtain ⟨wd, m, p, ns, rfl, _⟩ := h
    rfl
  · obtain ⟨wd, m, p, ns, rfl, h0, h1, hp, hm, hl, hin, k⟩ := h
    refine ⟨_, pss_cons (ps_if (PW.pt (pw_or (pt_not (pt_val (pe_callB call_isi (by rfl) T.isinstance (by decide +kernel) (pa_cons (pv 1) (pa_cons (pe_bltn (v := .ty "tuple") (by rfl) T.tuple (by decide +kernel) rfl) pa_nil)))))
        (pw_or1 (pt_cmpR op_gt (pe_callB call_len_seq (by rfl) T.len PySem.boot_len (pa_cons (pv 1) pa_nil)) (pv 2) (nomark _))))) (pss_one (ps_ret pe_bl)) pss_nil)
      (pss_one (ps_ret (pe_callB (cr_all rfl) (by rfl) T.all (by decide +kernel) (pa_cons (pe_lc (own := [("item", 3)]) (g := gName 3) (tt := tYes) rfl scAreAddrs.nd (pi_tup (pv 1))
        (blkOk_by (N := ["width", "value", "most", "item"]) (sc := defScope sAreAddrs) (by decide +kernel)) (fun _ _ _ _ _ => pg_name (i := 3) scAreAddrs.nd rfl (Or.inl rfl)) (fun _ _ _ _ _ => pts_nil)
        (fun _ _ _ _ _ => pe_call G2 hr (by rfl) A2.mg A2.fn.kp A2.bi .nil pass0 (pa_cons (pv 0) (pa_cons (pv 3) pa_nil)))) pa_nil)))), ?_⟩
    refine ⟨_, rfl, _, _, _, _, _, rfl, .ty _, .base (.tup hp), kit_ty (r := true) (by decide +kernel), _, rfl, iteF ?_⟩
    refine ⟨_, rfl, _, _, rfl, .inr (SqT.of hp), _, rfl, _, _, rfl, rfl, _, rfl, ?_⟩
    refine iteFb (decide_eq_false (by rw [List.length_map]; omega)) ?_
    refine ⟨_, rfl, _, rfl, ⟨_, SqT.of hp⟩, fun D hD => ?_⟩
    have npD : p ≠ D := ne_of_none hp hD
    refine lc_tup (K := K) (a := p) (xs := ns.map V.int) (fun i H' => (∀ b o, b ≠ D → H b = some o → H' b = some o) ∧ H' D = some (.lst ((List.replicate i true).map V.bl))) ⟨fun b o n e => by rw [upd_ne n]; exact e, upd_same⟩ (fun i H' _ ⟨s1, _⟩ => SqT.of (s1 _ _ npD hp)) ?_ ?_
    · rintro i x H' hi ⟨s1, hd⟩
      rw [List.getElem?_map] at hi
      cases e : ns[i]? with
      | none =>
        rw [e] at hi
        cases hi
      | some u =>
        rw [e] at hi
        cases hi
        have hu := hin u (List.mem_of_getElem? e)
        have hil : i < ns.length := (List.getElem?_eq_some_iff.mp e).1
        refine ⟨rfl, yes (iteT ?_)⟩
        refine ⟨_, rfl, _, rfl, wd, u, rfl, h0, h1, _, hd, ?_, ?_⟩
        · rw [List.length_map, List.length_replicate]
          exact Nat.lt_of_lt_of_le hil (Nat.le_trans hl (by decide))
        · refine ⟨fun b o n e => by rw [upd_ne n]; exact s1 b o n e, ?_⟩
          rw [upd_same, decide_eq_true hu, List.replicate_succ', List.map_append]
          rfl
    · rintro H' ⟨s1, hd⟩
      rw [List.length_map] at hd
      refine ⟨D, _, rfl, SqL.of hd, ?_⟩
      rw [show (List.replicate ns.length true).all id = true by simp]
      exact k H' fun b o e => s1 b o (ne_of_none e hD) e
/-! ### are_masks -/
def spAreMasks (K : PySem.W.Frag) : Sp := fun vs H Q _ => ∃ (wd : Int) (p : Addr) (ns : List Int), vs = [.int wd, .ref p] ∧ 0 ≤ wd ∧ wd ≤ 1000 ∧ H p = some (.tup (ns.map V.int)) ∧ ns.length ≤ 16 ∧ InW wd ns ∧ ∀ H', Same H H' → Q (.bl true) H'
theorem scAreMasks : FnScope ["width", "value"] ["width", "value"] (defScope sAreMasks) := ⟨rfl, rfl, rfl, by decide +kernel, rfl, by decide +kernel, by decide +kernel⟩
theorem ok_areMasks {f f1 f2 f3 : Addr} {fd fd1 fd2 fd3 : FuncData} (A0 : At K mg "are_masks" sAreMasks ["width", "value"] f fd) (A1 : At K mg "is_int" sIsInt ["value"] f1 fd1)
    (A2 : At K mg "is_address" sIsAddr ["width", "value"] f2 fd2) (A3 : At K mg "are_addresses" sAreAddrs ["width", "value", "most"] f3 fd3) (T : Txt K mg) : FnOk P w K mg base CX0 4 f fd ["width", "value"] (spAreMasks K) := by
  have G3 : FnOk P w K mg base CX0 3 f3 fd3 ["width", "value", "most"] (spAreAddrs K) := ok_areAddrs A3 A1 A2 T
  obtain ⟨tm, hmm⟩ := T.mMasks
  refine A0.fn.ok scAreMasks (fun vs H Q E h => ?_) (fun cdv A outer s H vs Q E hr h => ?_)
  · obtain ⟨wd, p, ns, rfl, _⟩ := h
    rfl
  · obtain ⟨wd, p, ns, rfl, h0, h1, hp, hl, hin, k⟩ := h
    refine ⟨_, pss_one (ps_ret (pe_call G3 hr (by rfl) A3.mg A3.fn.kp A3.bi .nil pass0 (pa_cons (pv 0) (pa_cons (pv 1) (pa_cons (pe_glob (v := .int 16) (by rfl) hmm ⟨_, rfl⟩) pa_nil))))), ?_⟩
    exact ⟨_, rfl, _, rfl, wd, 16, p, ns, rfl, h0, h1, hp, by omega, by omega, hin, k⟩
/-! ### the checks -/
/-! ### is_width, of an int -/
def spIsWidth : Sp := fun vs H Q _ => ∃ wd : Int, vs = [.int wd] ∧ 1 ≤ wd ∧ wd ≤ 16 ∧ Q (.bl true) H
theorem scIsWidth : FnScope ["value"] ["value"] (defScope sIsWidth) := ⟨rfl, rfl, rfl, by decide +kernel, rfl, by decide +kernel, by decide +kernel⟩
theorem ok_isWidth {f f1 : Addr} {fd fd1 : FuncData} (A0 : At K mg "is_width" sIsWidth ["value"] f fd) (A1 : At K mg "is_int" sIsInt ["value"] f1 fd1) (T : Txt K mg) : FnOk P w K mg base CX0 2 f fd ["value"] spIsWidth := by
  have G1 : FnOk P w K mg base CX0 1 f1 fd1 ["value"] spIsInt := ok_isInt A1 T
  obtain ⟨tw, hmw⟩ := T.mWidth
  refine A0.fn.ok scIsWidth (fun vs H Q E h => ?_) (fun cdv A outer s H vs Q E hr h => ?_)
  · obtain ⟨wd, rfl, _⟩ := h
    rfl
  · obtain ⟨wd, rfl, h0, h1, k⟩ := h
    refine ⟨_, pss_one (ps_ret (pe_and (pe_call G1 hr (by rfl) A1.mg A1.fn.kp A1.bi .nil pass0 (pa_cons (pv 0) pa_nil)) (pe_one (pe_chain op_le op_le pe_int (pv 0) (pe_glob (v := .int 16) (by rfl) hmw ⟨_, rfl⟩))))), ?_⟩
    refine ⟨_, rfl, _, rfl, _, rfl, iteT ?_⟩
    refine ⟨_, rfl, _, _, rfl, rfl, _, rfl, ?_⟩
    refine iteTb (decide_eq_true h0) ?_
    refine ⟨_, _, rfl, rfl, ?_⟩
    exact qv (show V.bl (decide (wd ≤ 16)) = V.bl true by rw [decide_eq_true h1]) k
def spCkWidth : Sp := fun vs H Q _ => ∃ wd : Int, vs = [.int wd] ∧ 1 ≤ wd ∧ wd ≤ 16 ∧ Q .non H
theorem scCkWidth : FnScope ["width"] ["width"] (defScope sCkWidth) := ⟨rfl, rfl, rfl, by decide +kernel, rfl, by decide +kernel, by decide +kernel⟩
theorem ok_ckWidth {f f1 : Addr} {fd fd1 : FuncData} (A0 : At K mg "check_width" sCkWidth ["width"] f fd) (A1 : At K mg "is_int" sIsInt ["value"] f1 fd1) (T : Txt K mg) : FnOk P w K mg base CX0 3 f fd ["width"] spCkWidth := by
  obtain ⟨f2, fd2, A2⟩ := T.isWidth
  have G2 : FnOk P w K mg base CX0 2 f2 fd2 ["value"] spIsWidth := ok_isWidth A2 A1 T
  refine A0.fn.ok scCkWidth (fun vs H Q E h => ?_) (fun cdv A outer s H vs Q E hr h => ?_)
  · obtain ⟨wd, rfl, _⟩ := h
    rfl
  · obtain ⟨wd, rfl, h0, h1, k⟩ := h
    refine ⟨_, pss_one (ps_if (pt_not (pt_val (pe_call G2 hr (by rfl) A2.mg A2.fn.kp A2.bi .nil pass0 (pa_cons (pv 0) pa_nil)))) (pss_one ps_never) pss_nil), ?_⟩
    refine ⟨_, rfl, _, rfl, h0, h1, _, rfl, ?_⟩
    exact iteF k
def spCkMap (K : PySem.W.Frag) : Sp := fun vs H Q _ => ∃ (wd : Int) (p : Addr) (ns : List Int), vs = [.int wd, .ref p] ∧ 0 ≤ wd ∧ wd ≤ 1000 ∧ H p = some (.tup (ns.map V.int)) ∧ ns.length ≤ 16 ∧ InW wd ns ∧ ∀ H', Same H H' → Q .non H'
theorem scCkMap : FnScope ["width", "masks"] ["width", "masks"] (defScope sCkMap) := ⟨rfl, rfl, rfl, by decide +kernel, rfl, by decide +kernel, by decide +kernel⟩
theorem ok_ckMap {f f1 f2 f3 f4 : Addr} {fd fd1 fd2 fd3 fd4 : FuncData} (A0 : At K mg "check_map" sCkMap ["width", "masks"] f fd) (A1 : At K mg "is_int" sIsInt ["value"] f1 fd1)
    (A2 : At K mg "is_address" sIsAddr ["width", "value"] f2 fd2) (A3 : At K mg "are_addresses" sAreAddrs ["width", "value", "most"] f3 fd3) (A4 : At K mg "are_masks" sAreMasks ["width", "value"] f4 fd4) (T : Txt K mg) :
    FnOk P w K mg base CX0 5 f fd ["width", "masks"] (spCkMap K) := by
  have G4 : FnOk P w K mg base CX0 4 f4 fd4 ["width", "value"] (spAreMasks K) := ok_areMasks A4 A1 A2 A3 T
  refine A0.fn.ok scCkMap (fun vs H Q E h => ?_) (fun cdv A outer s H vs Q E hr h => ?_)
  · obtain ⟨wd, p, ns, rfl, _⟩ := h
    rfl
  · obtain ⟨wd, p, ns, rfl, h0, h1, hp, hl, hin, k⟩ := h
    refine ⟨_, pss_one (ps_if (pt_not (pt_val (pe_call G4 hr (by rfl) A4.mg A4.fn.kp A4.bi .nil pass0 (pa_cons (pv 0) (pa_cons (pv 1) pa_nil))))) (pss_one ps_never) pss_nil), ?_⟩
    exact ⟨_, rfl, _, rfl, wd, p, ns, rfl, h0, h1, hp, hl, hin, fun H' sm => ⟨_, rfl, iteF (k H' sm)⟩⟩
def spCkAddr : Sp := fun vs H Q _ => ∃ wd v : Int, vs = [.int wd, .int v] ∧ 0 ≤ wd ∧ wd ≤ 1000 ∧ 0 ≤ v ∧ v < 2 ^ wd.toNat ∧ Q .non H
theorem scCkAddr : FnScope ["width", "address"] ["width", "address"] (defScope sCkAddr) := ⟨rfl, rfl, rfl, by decide +kernel, rfl, by decide +kernel, by decide +kernel⟩
theorem ok_ckAddr {f f1 f2 : Addr} {fd fd1 fd2 : FuncData} (A0 : At K mg "check_address" sCkAddr ["width", "address"] f fd) (A1 : At K mg "is_int" sIsInt ["value"] f1 fd1)
    (A2 : At K mg "is_address" sIsAddr ["width", "value"] f2 fd2) (T : Txt K mg) : FnOk P w K mg base CX0 3 f fd ["width", "address"] spCkAddr := by
  have G2 : FnOk P w K mg base CX0 2 f2 fd2 ["width", "value"] spIsAddr := ok_isAddr A2 A1 T
  refine A0.fn.ok scCkAddr (fun vs H Q E h => ?_) (fun cdv A outer s H vs Q E hr h => ?_)
  · obtain ⟨wd, v, rfl, _⟩ := h
    rfl
  · obtain ⟨wd, v, rfl, h0, h1, h2, h3, k⟩ := h
    refine ⟨_, pss_one (ps_if (pt_not (pt_val (pe_call G2 hr (by rfl) A2.mg A2.fn.kp A2.bi .nil pass0 (pa_cons (pv 0) (pa_cons (pv 1) pa_nil))))) (pss_one ps_never) pss_nil), ?_⟩
    refine ⟨_, rfl, _, rfl, wd, v, rfl, h0, h1, _, rfl, ?_⟩
    exact iteFb (by rw [decide_eq_true ⟨h2, h3⟩]; rfl) k
end
section
variable {P : Program} {w : World} {K : PySem.W.Frag} {mg : Str → Option Value} {base : Heap}
/-! ### parity -/
def spParity : Sp := fun vs H Q _ => ∃ n : Nat, vs = [.int (n : Int)] ∧ n < 2 ^ 2000 ∧ Q (.int (par n : Nat)) H
theorem pe_f1 {X : Cx} {e : Expr} {te : TE} {pos : Pos} (he : PE X e te) : PE X (.JoinedStr [e] pos) te := ⟨fun pins s σ H Q I h => PyProof.Rows.JoinedStr_one (he.run pins s σ H Q I h)⟩
theorem scParity : FnScope ["number", "digits"] ["number"] (defScope sParity) := ⟨rfl, rfl, rfl, by decide +kernel, rfl, by decide +kernel, by decide +kernel⟩
theorem ok_parity {f f1 : Addr} {fd fd1 : FuncData} (A0 : At K mg "parity" sParity ["number"] f fd) (A1 : At K mg "is_int" sIsInt ["value"] f1 fd1) (T : Txt K mg) : FnOk P w K mg base CX0 2 f fd ["number"] spParity := by
  have G1 : FnOk P w K mg base CX0 1 f1 fd1 ["value"] spIsInt := ok_isInt A1 T
  refine A0.fn.ok scParity (fun vs H Q E h => ?_) (fun cdv A outer s H vs Q E hr h => ?_)
  · obtain ⟨n, rfl, _⟩ := h
    rfl
  · obtain ⟨n, rfl, hn, k⟩ := h
    refine ⟨_, pss_cons (ps_if (PW.pt (pw_or (pt_not (pt_val (pe_call G1 hr (by rfl) A1.mg A1.fn.kp A1.bi .nil pass0 (pa_cons (pv 0) pa_nil)))) (pw_or1 (pt_cmpR op_lt (pv 0) pe_int (nomark _))))) (pss_one ps_never) pss_nil)
      (pss_cons (ps_set (i := 1) scParity.nd rfl (Or.inl rfl) (pe_f1 (G.pe_fmtB (pv 0))))
      (pss_one (ps_ret (pe_op op_and (pe_m1 PySem.F.slot_str_count PySem.F.type_str_count mt_count (pv 1) pe_str) pe_int)))), ?_⟩
    refine ⟨_, rfl, _, rfl, _, rfl, iteF ?_⟩
    refine ⟨_, rfl, _, _, rfl, rfl, _, rfl, ?_⟩
    refine iteFb (decide_eq_false (by omega)) ?_
    refine ⟨_, rfl, n, rfl, hn, ?_⟩
    refine ⟨_, rfl, ⟨_, rfl⟩, _, _, rfl, rfl, _, _, rfl, rfl, ?_⟩
    exact qv (by rw [cnt_bin]; show V.int (Builtin.bitAnd (pc n : Int) 1) = _; rw [PyProof.Rows.bitAnd_m1]; rfl) k
end
end X1
set_option Elab.async false
set_option maxRecDepth 100000
set_option maxHeartbeats 4000000
namespace X1
open PySem L2
open GF (pc par pc_0 pc_eq par_lt)
/-- the law's own stream of draws: three ints in a list -/
def BoxO (n : Int) (o : HO) : Prop := ∃ x0 x1 x2 : Int, o = .lst [.int x0, .int x1, .int x2] ∧ 0 ≤ x0 ∧ x0 < 2 ^ 1000 ∧ 0 ≤ x1 ∧ x1 < 2 ^ 62 ∧ 0 ≤ x2 ∧ x2 ≤ n
theorem BoxO.mono {n m : Int} {o : HO} (h : n ≤ m) (b : BoxO n o) : BoxO m o := by
  obtain ⟨x0, x1, x2, e, h0, h1, h2, h3, h4, h5⟩ := b
  exact ⟨x0, x1, x2, e, h0, h1, h2, h3, h4, by omega⟩
theorem BoxO.lst {n : Int} {o : HO} (b : BoxO n o) : ∃ xs, o = .lst xs := by
  obtain ⟨x0, x1, x2, e, _⟩ := b
  exact ⟨_, e⟩
/-- all but b as it was -/
def Sam (b : Addr) (H H' : Hp) : Prop := ∀ c o, c ≠ b → H c = some o → H' c = some o
theorem Sam.refl (b : Addr) (H : Hp) : Sam b H H := fun _ _ _ e => e
theorem Sam.trans {b : Addr} {H H1 H2 : Hp} (x : Sam b H H1) (y : Sam b H1 H2) : Sam b H H2 := fun c o n e => y c o n (x c o n e)
theorem Sam.upd {b : Addr} {o : HO} {H : Hp} : Sam b H (upd H b o) := fun c u n e => by rw [upd_ne n]; exact e
theorem Sam.new {b p : Addr} {o : HO} {H H' : Hp} (x : Sam b H H') (hp : H' p = none) : Sam b H (L2.upd H' p o) := fun c u n e => by
  rw [upd_ne (ne_of_none (x c u n e) hp)]
  exact x c u n e
theorem b01 (b : Bool) : -(2 ^ 64) < (if b = true then (1 : Int) else 0) ∧ (if b = true then (1 : Int) else 0) < 2 ^ 64 := by cases b <;> decide
theorem mulb {x M : Int} (b : Bool) (h0 : 0 ≤ x) (h : x < M) : 0 ≤ x * (if b = true then (1 : Int) else 0) ∧ x * (if b = true then (1 : Int) else 0) < M := by
  cases b
  · rw [if_neg (by decide), Int.mul_zero]
    omega
  · rw [if_pos rfl, Int.mul_one]
    exact ⟨h0, h⟩
theorem big300 : (0 : Int) < ((10 : Int) ^ (60 : Int).toNat) ^ (5 : Int).toNat ∧ ((10 : Int) ^ (60 : Int).toNat) ^ (5 : Int).toNat < 2 ^ 1000 := by decide +kernel
theorem mulB (x : Int) (b : Bool) : 0 ≤ x % (((10 : Int) ^ (60 : Int).toNat) ^ (5 : Int).toNat) * (if b = true then (1 : Int) else 0) ∧ x % (((10 : Int) ^ (60 : Int).toNat) ^ (5 : Int).toNat) * (if b = true then (1 : Int) else 0) < 2 ^ 1000 :=
  mulb b (Int.emod_nonneg x (Int.ne_of_gt big300.1)) (Int.lt_trans (Int.emod_lt_of_pos x big300.1) big300.2)
section
variable {P : Program} {w : World} {K : PySem.W.Frag} {mg : Str → Option Value} {base : Heap}
/-! ### _law_box -/
def spBox (K : PySem.W.Frag) : Sp := fun vs H Q _ => ∃ (a : Addr) (ns : List Int) (k : Nat), vs = [.ref a, .int (k : Int)] ∧ SqL K H a (ns.map V.int) ∧ k ≤ 1000 ∧ ∀ b o, H b = none → BoxO 0 o → Q (.ref b) (upd H b o)
theorem scBox : FnScope ["_law_script", "_law_k", "_law_cell", "_law_own"] ["_law_script", "_law_k"] (defScope sBox) := ⟨rfl, rfl, rfl, by decide +kernel, rfl, by decide +kernel, by decide +kernel⟩
theorem ok_box {f : Addr} {fd : FuncData} (A0 : At K mg "_law_box" sBox ["_law_script", "_law_k"] f fd) (T : Txt K mg) : FnOk P w K mg base CX0 1 f fd ["_law_script", "_law_k"] (spBox K) := by
  refine A0.fn.ok scBox (fun vs H Q E h => ?_) (fun cdv A outer s H vs Q E hr h => ?_)
  · obtain ⟨a, ns, k, rfl, _⟩ := h
    rfl
  · obtain ⟨a, ns, j, rfl, hS, hj, k⟩ := h
    refine ⟨_, pss_cons (ps_set (i := 2) scBox.nd rfl (Or.inl rfl) (pe_ifExp (pt_cmpR op_lt (pv 1) (pe_callB call_len_seq (by rfl) T.len PySem.boot_len (pa_cons (pv 0) pa_nil)) (nomark _))
        (pe_ix ix_list (pv 0) (pv 1) (fun _ _ => rfl)) (pe_op op_add (pe_op op_mul pe_int (pv 1)) pe_int)))
      (pss_cons (ps_set (i := 3) scBox.nd rfl (Or.inl rfl) (pe_op op_mul (pe_op op_mod (pe_callB call_abs (by rfl) T.abs (by decide +kernel) (pa_cons (pv 2) pa_nil)) (pe_op G.op_powW (pe_op op_pow pe_int pe_int) pe_int))
        (pe_callTy call_int1 (by rfl) T.int (by decide +kernel) (pa_cons (pe_cmpR op_ge (pe_callB call_abs (by rfl) T.abs (by decide +kernel) (pa_cons (pv 2) pa_nil)) (pe_op op_pow pe_int pe_int) (nomark _)) pa_nil))))
      (pss_one (ps_ret (pe_lst (pa_cons (pv 3) (pa_cons (pe_op op_mod (pe_op op_add (pe_op op_add (pe_op op_mul (pe_op op_mod (pv 2) pe_int) pe_int) (pe_op op_mul (pe_op op_mul pe_int (pv 1)) (pv 1))) pe_int) pe_int) (pa_cons pe_int pa_nil))))))), ?_⟩
    refine ⟨_, rfl, _, rfl, a, _, rfl, .inl hS, _, _, rfl, rfl, _, rfl, ?_⟩
    refine ite2 (fun hlt => ?g1) (fun hlt => ?g2)
    case' g1 =>
      obtain ⟨c, hc⟩ : ∃ c, ns[j]? = some c := ⟨_, List.getElem?_eq_getElem (by simpa using hlt)⟩
      refine ⟨_, rfl, _, rfl, a, _, _, _, rfl, rfl, hS, atI_nat (v := V.int c) (by rw [List.getElem?_map, hc]; rfl), ?_⟩
    case' g2 => refine ⟨_, rfl, _, _, rfl, rfl, .inl ⟨by decide, by decide⟩, _, _, rfl, rfl, ?_⟩
    all_goals
      refine ⟨_, rfl, _, rfl, _, _, rfl, rfl, ⟨by decide, by decide, by decide⟩, _, _, rfl, rfl, ⟨by decide, by decide +kernel⟩, _, _, rfl, rfl, big300.1, ?_⟩
      refine ⟨_, rfl, _, rfl, _, _, rfl, rfl, ⟨by decide, by decide, by decide⟩, _, _, rfl, rfl, .inr ⟨_, rfl, _, _, rfl, rfl, .inr (b01 _), ?_⟩⟩
      refine ⟨_, rfl, _, rfl, _, _, rfl, rfl, (by show (0 : Int) < 2305843009213693951; decide), _, _, rfl, rfl, .inr ⟨by decide, by decide⟩, _, rfl, _, _, rfl, rfl, .inl ⟨by decide, by decide⟩, _, rfl, _, _, rfl, rfl, .inr ⟨by omega, by omega⟩, _, _, rfl, rfl, _, _, rfl, rfl, _, _, rfl, rfl, (by show (0 : Int) < 2305843009213693921; decide), (by show 3 ≤ sizeLine; decide), fun b hb => ?_⟩
      exact k b _ hb ⟨_, _, _, rfl, (mulB _ _).1, (mulB _ _).2, Int.emod_nonneg _ (by decide), Int.lt_trans (Int.emod_lt_of_pos _ (by decide)) (by decide), Int.le_refl 0, Int.le_refl 0⟩
/-! ### _law_take -/
def spTake : Sp := fun vs H Q _ => ∃ (b : Addr) (n many : Int) (o : HO), vs = [.ref b, .int many] ∧ H b = some o ∧ BoxO n o ∧ n ≤ 1000000 ∧ 0 < many ∧ many < 2 ^ 1000 ∧
  ∀ v o', 0 ≤ v → v < many → BoxO (n + 1) o' → Q (.int v) (upd H b o')
theorem scTake : FnScope ["_law_box_here", "_law_many", "_law_digit", "_law_mixed"] ["_law_box_here", "_law_many"] (defScope sTake) := ⟨rfl, rfl, rfl, by decide +kernel, rfl, by decide +kernel, by decide +kernel⟩
theorem ok_take {f : Addr} {fd : FuncData} (A0 : At K mg "_law_take" sTake ["_law_box_here", "_law_many"] f fd) : FnOk P w K mg base CX0 1 f fd ["_law_box_here", "_law_many"] spTake := by
  refine A0.fn.ok scTake (fun vs H Q E h => ?_) (fun cdv A outer s H vs Q E hr h => ?_)
  · obtain ⟨b, n, m, o, rfl, _⟩ := h
    rfl
  · obtain ⟨b, n, m, o, rfl, hb, ⟨x0, x1, x2, rfl, h0, h1, h2, h3, h4, h5⟩, hn, m0, m1, k⟩ := h
    refine ⟨_, pss_cons (ps_if (pt_cmpR op_gt (pe_ix ix_list (pv 0) pe_int (fun _ _ => rfl)) pe_int (nomark _))
        (pss_cons (ps_set (i := 2) scTake.nd rfl (Or.inl rfl) (pe_op op_mod (pe_ix ix_list (pv 0) pe_int (fun _ _ => rfl)) (pv 1)))
        (pss_cons (ps_asg (pe_op op_fdivW (pe_ix ix_list (pv 0) pe_int (fun _ _ => rfl)) (pv 1)) (pg_sub (pv 0) pe_int set_list)) (pss_one (ps_ret (pv 2))))) pss_nil)
      (pss_cons (ps_asg (pe_op op_add (pe_ix ix_list (pv 0) pe_int (fun _ _ => rfl)) pe_int) (pg_sub (pv 0) pe_int set_list))
      (pss_cons (ps_set (i := 3) scTake.nd rfl (Or.inl rfl) (pe_op op_mod (pe_op op_mul (pe_op op_add (pe_op op_add (pe_ix ix_list (pv 0) pe_int (fun _ _ => rfl))
          (pe_op op_mul (pe_op op_mul pe_int (pe_ix ix_list (pv 0) pe_int (fun _ _ => rfl))) (pe_ix ix_list (pv 0) pe_int (fun _ _ => rfl)))) pe_int) pe_int) pe_int))
      (pss_cons (ps_set (i := 3) scTake.nd rfl (Or.inl rfl) (pe_op op_mod (pe_op op_mul (pv 3) (pe_op op_add (pe_op op_mod (pv 3) pe_int) (pe_op op_mul pe_int (pe_ix ix_list (pv 0) pe_int (fun _ _ => rfl))))) pe_int))
      (pss_one (ps_ret (pe_op op_mod (pe_op op_add (pe_op op_fdiv (pv 3) pe_int) (pe_op op_fdiv (pv 3) pe_int)) (pv 1))))))), ?_⟩
    refine ⟨_, rfl, b, _, 0, _, rfl, rfl, SqL.of hb, rfl, _, _, rfl, rfl, _, rfl, ?_⟩
    refine ite2 (fun hp => ?_) (fun hp => ?_)
    · refine ⟨_, rfl, b, _, 0, _, rfl, rfl, SqL.of hb, rfl, _, rfl, _, _, rfl, rfl, m0, ?_⟩
      refine ⟨_, rfl, b, _, 0, _, rfl, rfl, SqL.of hb, rfl, _, rfl, _, _, rfl, rfl, wide_div m0 (b := 1000) (by omega) (by decide) (by decide), ?_⟩
      refine ⟨_, rfl, b, _, 0, 0, rfl, rfl, hb, rfl, ?_⟩
      have hx : 0 ≤ x0 / m := Int.ediv_nonneg h0 (by omega)
      have hy : x0 / m ≤ x0 := Int.ediv_le_self m h0
      exact ⟨_, rfl, k _ _ (Int.emod_nonneg _ (by omega)) (Int.emod_lt_of_pos _ m0) ⟨_, _, _, rfl, hx, by omega, h2, h3, h4, by omega⟩⟩
    · refine ⟨_, rfl, b, _, 2, _, rfl, rfl, SqL.of hb, rfl, _, _, rfl, rfl, _, rfl, b, _, 2, 2, rfl, rfl, hb, rfl, ?_⟩
      have hb' : ∀ o, upd H b o b = some o := fun _ => upd_same
      refine ⟨_, rfl, b, _, 1, _, rfl, rfl, SqL.of upd_same, rfl, _, rfl, b, _, 2, _, rfl, rfl, SqL.of upd_same, rfl, _, _, rfl, rfl, .inl ⟨by decide, by decide⟩, _, rfl, b, _, 2, _, rfl, rfl, SqL.of upd_same, rfl, _, _, rfl, rfl, .inr ⟨by omega, by omega⟩, _, _, rfl, rfl, _, _, rfl, rfl, _, _, rfl, rfl, .inr ⟨by decide, by decide⟩, _, _, rfl, rfl, (by show (0 : Int) < 2305843009213693921; decide), ?_⟩
      have hq0 := Int.emod_nonneg ((x1 + 65551 * (x2 + 1) * (x2 + 1) + 17) * 48299) (b := 2305843009213693921) (by decide)
      have hq1 := Int.emod_lt_of_pos ((x1 + 65551 * (x2 + 1) * (x2 + 1) + 17) * 48299) (b := 2305843009213693921) (by decide)
      refine ⟨_, rfl, _, rfl, _, _, rfl, rfl, (by show (0 : Int) < 1000033; decide), _, rfl, b, _, 2, _, rfl, rfl, SqL.of upd_same, rfl, _, _, rfl, rfl, .inl ⟨by decide, by decide⟩, _, _, rfl, rfl, _, _, rfl, rfl, .inl ⟨by omega, by omega⟩, _, _, rfl, rfl, (by show (0 : Int) < 2305843009213693907; decide), ?_⟩
      refine ⟨_, rfl, _, _, rfl, rfl, ⟨by decide, by decide⟩, _, rfl, _, _, rfl, rfl, ⟨by decide, by decide⟩, _, _, rfl, rfl, _, rfl, _, _, rfl, rfl, m0, ?_⟩
      exact k _ _ (Int.emod_nonneg _ (by omega)) (Int.emod_lt_of_pos _ m0) ⟨_, _, _, rfl, h0, h1, h2, h3, by omega, by omega⟩
/-! ### _law_of -/
def spOf : Sp := fun vs H Q _ => ∃ (b p : Addr) (n : Int) (o : HO) (xs : List V), vs = [.ref b, .ref p] ∧ H b = some o ∧ BoxO n o ∧ n ≤ 1000000 ∧ H p = some (.lst xs) ∧ p ≠ b ∧ 0 < xs.length ∧ xs.length ≤ 1000 ∧
  ∀ (j : Nat) v o', xs[j]? = some v → BoxO (n + 1) o' → Q v (upd H b o')
theorem scOf : FnScope ["_law_box_here", "_law_some"] ["_law_box_here", "_law_some"] (defScope sOf) := ⟨rfl, rfl, rfl, by decide +kernel, rfl, by decide +kernel, by decide +kernel⟩
theorem ok_of {f f1 : Addr} {fd fd1 : FuncData} (A0 : At K mg "_law_of" sOf ["_law_box_here", "_law_some"] f fd) (A1 : At K mg "_law_take" sTake ["_law_box_here", "_law_many"] f1 fd1) (T : Txt K mg) :
    FnOk P w K mg base CX0 2 f fd ["_law_box_here", "_law_some"] spOf := by
  have G1 : FnOk P w K mg base CX0 1 f1 fd1 ["_law_box_here", "_law_many"] spTake := ok_take A1
  refine A0.fn.ok scOf (fun vs H Q E h => ?_) (fun cdv A outer s H vs Q E hr h => ?_)
  · obtain ⟨b, p, n, o, xs, rfl, _⟩ := h
    rfl
  · obtain ⟨b, p, n, o, xs, rfl, hb, B, hn, hp, npb, hl0, hl1, k⟩ := h
    refine ⟨_, pss_one (ps_ret (pe_ix ix_list (pv 1) (pe_call G1 hr (by rfl) A1.mg A1.fn.kp A1.bi .nil pass0 (pa_cons (pv 0) (pa_cons (pe_callB call_len_seq (by rfl) T.len PySem.boot_len (pa_cons (pv 1) pa_nil)) pa_nil))) (fun _ _ => rfl))), ?_⟩
    have big : (xs.length : Int) < 2 ^ 1000 := Int.lt_of_le_of_lt (show (xs.length : Int) ≤ 1000 by omega) (by decide +kernel)
    refine ⟨_, rfl, _, rfl, _, rfl, p, _, rfl, .inl (SqL.of hp), b, n, _, o, rfl, hb, B, hn, by omega, big, fun v o' v0 v1 B' => ?_⟩
    obtain ⟨j, rfl⟩ := Int.eq_ofNat_of_zero_le v0
    obtain ⟨x, hx⟩ : ∃ x, xs[j]? = some x := ⟨_, List.getElem?_eq_getElem (by omega)⟩
    exact ⟨p, xs, _, x, rfl, rfl, SqL.of (by rw [upd_ne npb]; exact hp), atI_nat hx, k j x o' hx B'⟩
end
theorem at_map {ms : List Int} {i : Nat} {y : V} (h : (ms.map V.int)[i]? = some y) : ∃ m, ms[i]? = some m ∧ y = .int m ∧ i < ms.length ∧ ms.getD i 0 = m := by
  rw [List.getElem?_map] at h
  cases e : ms[i]? with
  | none =>
    rw [e] at h
    cases h
  | some m =>
    rw [e] at h
    cases h
    exact ⟨m, rfl, rfl, (List.getElem?_eq_some_iff.mp e).1, by rw [List.getD_eq_getElem?_getD, e]; rfl⟩
/-- a list of ints as data -/
theorem dpAll_ints {K : PySem.W.Frag} {H : Hp} : ∀ ns : List Int, DpAll K H (ns.map V.int) (ns.map PyData.int)
  | [] => .nil
  | n :: ns => .cons (.int n) (dpAll_ints ns)
theorem canLay_ints : ∀ ns : List Int, PyData.canLayAll0 (ns.map PyData.int) = true
  | [] => rfl
  | n :: ns => by
    show (PyData.canLay0 (.int n) && PyData.canLayAll0 (ns.map PyData.int)) = true
    rw [canLay_ints ns]
    rfl
theorem depth_ints : ∀ ns : List Int, PyData.depthAll (ns.map PyData.int) = 0
  | [] => rfl
  | n :: ns => by
    show max (PyData.depth (.int n)) (PyData.depthAll (ns.map PyData.int)) = 0
    rw [depth_ints ns]
    rfl
theorem shaped_ints (ns : List Int) : SeqAt.shaped (.list (ns.map PyData.int)) = true := by
  unfold SeqAt.shaped
  show (PyData.canLayAll0 (ns.map PyData.int) && decide (PyData.depthAll (ns.map PyData.int) + 1 ≤ 64)) = true
  rw [canLay_ints, depth_ints]
  rfl
theorem eqv_nil (ns : List Int) : PyData.eqv (.list (ns.map PyData.int)) (.list []) = decide (ns = []) := by
  cases ns with
  | nil => rfl
  | cons n ns => rfl
theorem xor_in {x y : Int} {k : Nat} (hx : 0 ≤ x ∧ x < 2 ^ k) (hy : 0 ≤ y ∧ y < 2 ^ k) : 0 ≤ Builtin.bitXor x y ∧ Builtin.bitXor x y < 2 ^ k := by
  rw [Bits.bitXor_pp hx.1 hy.1]
  have e : ((2 ^ k : Nat) : Int) = 2 ^ k := by rw [Int.natCast_pow]; rfl
  have h1 : x.toNat < 2 ^ k := by omega
  have h2 : y.toNat < 2 ^ k := by omega
  have := Nat.xor_lt_two_pow h1 h2
  omega
theorem InW.snoc {wd x : Int} {ns : List Int} (h : InW wd ns) (hx : 0 ≤ x ∧ x < 2 ^ wd.toNat) : InW wd (ns ++ [x]) := fun y hy => by
  rcases List.mem_append.mp hy with z | z
  · exact h y z
  · rw [List.mem_singleton.mp z]
    exact hx
theorem at_new {H : Hp} {p q : Addr} {o u : HO} (h : H p = some o) (hq : H q = none) : upd H q u p = some o := by
  rw [upd_ne (ne_of_none h hq)]
  exact h
theorem cut_ints (zs : List Int) (lo hi : Option Int) : ∃ cs : List Int, cutV (zs.map V.int) lo hi = cs.map V.int ∧ (∀ x ∈ cs, x ∈ zs) ∧ cs.length ≤ zs.length := by
  unfold cutV
  generalize HT.sIx (zs.map V.int).length 0 lo = a
  generalize HT.sIx (zs.map V.int).length (zs.map V.int).length hi = c
  refine ⟨(zs.drop a).take (c - a), by rw [List.map_take, List.map_drop], fun x hx => List.mem_of_mem_drop (List.mem_of_mem_take hx), ?_⟩
  rw [List.length_take, List.length_drop]
  omega
section
variable {P : Program} {w : World} {K : PySem.W.Frag} {mg : Str → Option Value} {base : Heap}
/-! ### _law_lot -/
def spLot : Sp := fun vs H Q _ => ∃ (b : Addr) (n sz m : Int) (o : HO), vs = [.ref b, .int sz, .int m] ∧ H b = some o ∧ BoxO n o ∧ n ≤ 900000 ∧ 1 ≤ sz ∧ sz ≤ 16 ∧ 0 ≤ m ∧ m ≤ 64 ∧
  ∀ (p : Addr) (ns : List Int) (H' : Hp) (o' : HO), H p = none → Sam b H H' → H' b = some o' → BoxO (n + 1 + 4 * m) o' → H' p = some (.tup (ns.map V.int)) → InW sz ns → (ns.length : Int) ≤ m → Q (.ref p) H'
theorem scLot : FnScope ["_law_box_here", "_law_size", "_law_most", "_law_found", "_law_turn", "_law_some"] ["_law_box_here", "_law_size", "_law_most"] (defScope sLot) := ⟨rfl, rfl, rfl, by decide +kernel, rfl, by decide +kernel, by decide +kernel⟩
theorem pw_le {sz : Int} (h1 : 1 ≤ sz) (h2 : sz ≤ 16) : (2 : Int) ≤ 2 ^ sz.toNat ∧ (2 : Int) ^ sz.toNat ≤ 65536 := by
  obtain ⟨k, rfl⟩ := Int.eq_ofNat_of_zero_le (show 0 ≤ sz by omega)
  have hk : k ≤ 16 := by omega
  have hk1 : 1 ≤ k := by omega
  have e : ∀ j : Nat, j < 17 → 1 ≤ j → (2 : Int) ≤ 2 ^ j ∧ (2 : Int) ^ j ≤ 65536 := by decide
  exact e k (by omega) hk1
theorem p2_lt {sz v : Int} (h1 : 1 ≤ sz) (v0 : 0 ≤ v) (v1 : v < sz) : 0 ≤ 1 * (2 : Int) ^ v.toNat ∧ 1 * (2 : Int) ^ v.toNat < 2 ^ sz.toNat := by
  rw [Int.one_mul]
  refine ⟨two_pow_nn _, ?_⟩
  have h : v.toNat < sz.toNat := by omega
  have e := Nat.pow_lt_pow_right (a := 2) (by decide) h
  have e1 : ∀ k : Nat, ((2 ^ k : Nat) : Int) = 2 ^ k := fun k => by rw [Int.natCast_pow]; rfl
  rw [← e1, ← e1]
  exact Int.ofNat_lt.mpr e
theorem ok_lot {f f1 f2 : Addr} {fd fd1 fd2 : FuncData} (A0 : At K mg "_law_lot" sLot ["_law_box_here", "_law_size", "_law_most"] f fd) (A1 : At K mg "_law_take" sTake ["_law_box_here", "_law_many"] f1 fd1)
    (A2 : At K mg "_law_of" sOf ["_law_box_here", "_law_some"] f2 fd2) (T : Txt K mg) : FnOk P w K mg base CX0 3 f fd ["_law_box_here", "_law_size", "_law_most"] spLot := by
  have G1 : FnOk P w K mg base CX0 1 f1 fd1 ["_law_box_here", "_law_many"] spTake := ok_take A1
  have G2 : FnOk P w K mg base CX0 2 f2 fd2 ["_law_box_here", "_law_some"] spOf := ok_of A2 A1 T
  refine A0.fn.ok scLot (fun vs H Q E h => ?_) (fun cdv A outer s H vs Q E hr h => ?_)
  · obtain ⟨b, n, sz, m, o, rfl, _⟩ := h
    rfl
  · obtain ⟨b, n, sz, m, o, rfl, hb, B, hn, s1, s2, m1, m2, k⟩ := h
    have hr1 : Room 1 _ := hr.mono (by decide)
    refine ⟨_, (pss_cons (ps_set (i := 3) scLot.nd rfl (Or.inl rfl) (pe_lst pa_nil))
        (pss_cons (ps_for PassesOwn.never rfl (pi_range1 (by rfl) T.range (pa_cons (pe_call G1 hr1 (by rfl) A1.mg A1.fn.kp A1.bi .nil pass0 (pa_cons (pv 0) (pa_cons (pe_op op_add (pv 2) pe_int) pa_nil))) pa_nil)) (pg_name (i := 4) scLot.nd rfl (Or.inl rfl))
        (pss_cons (ps_set (i := 5) scLot.nd rfl (Or.inl rfl) (pe_lst (pa_cons (pe_call G1 hr1 (by rfl) A1.mg A1.fn.kp A1.bi .nil pass0 (pa_cons (pv 0) (pa_cons (pe_op op_shl pe_int (pv 1)) pa_nil))) (pa_cons (pe_op op_shl pe_int (pe_call G1 hr1 (by rfl) A1.mg A1.fn.kp A1.bi .nil pass0 (pa_cons (pv 0) (pa_cons (pv 1) pa_nil)))) (pa_cons pe_int pa_nil)))))
        (pss_cons (ps_if (pt_cmpR (op_neD hr.units) (pv 3) (pe_lst pa_nil) (nomark _)) (pss_one (ps_set (i := 5) scLot.nd rfl (Or.inl rfl) (pe_op op_cat (pv 5) (pe_lst (pa_cons (pe_op op_xor (pe_ix ix_list (pv 3) (pe_un un_neg pe_int) (fun _ _ => rfl)) (pe_call G2 hr (by rfl) A2.mg A2.fn.kp A2.bi .nil pass0 (pa_cons (pv 0) (pa_cons (pv 3) pa_nil)))) pa_nil))))) pss_nil)
        (pss_one (ps_expr (pe_bm PySem.F.plainAttrs_list PySem.F.slot_list_append PySem.F.type_list_append mt_append (pv 3) (pa_cons (pe_call G2 hr (by rfl) A2.mg A2.fn.kp A2.bi .nil pass0 (pa_cons (pv 0) (pa_cons (pe_op op_cat (pv 5) (pe_slice sl_list (pv 5) po_none (po_some pe_int))) pa_nil))) pa_nil)))))))
        (pss_one (ps_ret (pe_callTy call_tuple_of (by rfl) T.tuple (by decide +kernel) (pa_cons (pv 3) pa_nil)))))), ?_⟩
    obtain ⟨p2a, p2b⟩ := pw_le s1 s2
    have big : ∀ {x : Int}, x ≤ 70000 → x < 2 ^ 1000 := fun h => Int.lt_of_le_of_lt h (by decide +kernel)
    refine ⟨Nat.zero_le _, fun l hl => ?_⟩
    have nbl : b ≠ l := ne_of_none hb hl
    refine ⟨_, rfl, _, rfl, _, _, rfl, rfl, b, n, _, o, rfl, by rw [upd_ne nbl]; exact hb, B, by omega, by omega, big (by omega), fun v o' v0 v1 B' => ?_⟩
    refine ⟨v, rfl, by omega, by omega, ?_⟩
    -- between two turns
    refine for_range (lo := 0) (n := v.toNat) (fun i σ H' => ∃ (ns : List Int) (o1 : HO) (t u : Option V), σ = [some (.ref b), some (.int sz), some (.int m), some (.ref l), t, u] ∧ Sam b H H' ∧ H' b = some o1 ∧ BoxO (n + 1 + 4 * (i : Int)) o1 ∧
        H' l = some (.lst (ns.map V.int)) ∧ InW sz ns ∧ ns.length = i) ⟨[], o', none, none, rfl, ?_, upd_same, by simpa using B', by rw [upd_ne nbl.symm]; exact upd_same, (fun x hx => by cases hx), rfl⟩ ?_ ?_
    · intro c u nc e
      rw [upd_ne nc, upd_ne (ne_of_none e hl)]
      exact e
    · rintro i σ H1 hi ⟨ns, o1, t, u, rfl, sm, hb1, B1, hl1, hin, hlen⟩
      have hil : i < 64 := by omega
      refine ⟨_, rfl, _, rfl, _, _, rfl, rfl, ⟨by omega, by omega, by decide⟩, b, _, _, o1, rfl, hb1, B1, by omega, by omega, big (by omega), fun v1 o2 w0 w1 B2 => ?_⟩
      refine ⟨_, rfl, _, rfl, b, _, sz, o2, rfl, upd_same, B2, by omega, by omega, big (by omega), fun v2 o3 x0 x1 B3 => ?_⟩
      refine ⟨_, _, rfl, rfl, ⟨x0, by omega, by decide⟩, by show 3 ≤ sizeLine; decide, fun q hq => ?_⟩
      have nlb : l ≠ b := nbl.symm
      have sm1 : Sam b H1 (upd (upd (upd H1 b o2) b o3) q (.lst [.int v1, .int (1 * 2 ^ v2.toNat), .int 0])) := (Sam.upd.trans Sam.upd).new hq
      have fb : (upd (upd (upd H1 b o2) b o3) q (.lst [.int v1, .int (1 * 2 ^ v2.toNat), .int 0])) b = some o3 := at_new upd_same hq
      have hin3 : InW sz [v1, 1 * 2 ^ v2.toNat, 0] := fun x hx => by
        rcases List.mem_cons.mp hx with rfl | hx
        · exact ⟨w0, by omega⟩
        · rcases List.mem_cons.mp hx with rfl | hx
          · exact p2_lt s1 x0 x1
          · rw [List.mem_singleton.mp hx]
            exact ⟨Int.le_refl 0, by omega⟩
      have nqb : q ≠ b := (ne_of_none (H := upd (upd H1 b o2) b o3) upd_same hq).symm
      have nql : q ≠ l := (ne_of_none (H := upd (upd H1 b o2) b o3) (by rw [upd_ne nlb, upd_ne nlb]; exact hl1) hq).symm
      refine ⟨_, rfl, Nat.zero_le _, fun e he => ?_⟩
      have fl := sm1 l _ nlb hl1
      have fr := (fun h => at_new (p := q) (o := .lst ([v1, 1 * 2 ^ v2.toNat, 0].map V.int)) (u := .lst []) h he) upd_same
      refine ⟨.list (ns.map PyData.int), .list [], .lst (SqL.of (at_new fl he)) (dpAll_ints ns), .lst (SqL.of upd_same) .nil, shaped_ints ns, shaped_ints [], _, rfl, ?_⟩
      have sm2 := sm1.new (o := .lst []) he
      have fb2 := at_new (u := .lst []) fb he
      have fl2 := at_new (u := .lst []) fl he
      refine ite2 (fun hz => ?g1) (fun hz => ?g2)
      case' g1 =>
        have hne : ns ≠ [] := fun z => by
          rw [eqv_nil, z] at hz
          cases hz
        obtain ⟨ys, y, ens⟩ : ∃ ys y, ns = ys ++ [y] := ⟨_, _, (List.dropLast_concat_getLast hne).symm⟩
        have hy := hin y (by rw [ens]; simp)
        refine ⟨_, rfl, _, rfl, _, rfl, l, _, _, V.int y, rfl, rfl, SqL.of fl2, (by rw [ens, List.map_append]; exact atI_last _ _), ?_⟩
        refine ⟨_, rfl, _, rfl, b, l, _, o3, _, rfl, fb2, B3, by omega, fl2, nlb, (by rw [ens]; simp), (by rw [List.length_map]; omega), fun j z o4 hj B4 => ?_⟩
        obtain ⟨x, ex, rfl, _, _⟩ := at_map hj
        have hx := hin x (List.mem_of_getElem? ex)
        have hxy := xor_in hy hx
        refine ⟨_, _, rfl, rfl, by show 1 ≤ sizeLine; decide, fun r hr' => ?_⟩
        have sm3 := (sm2.trans (Sam.upd (o := o4))).new (o := .lst [.int (Builtin.bitXor y x)]) hr'
        have fb3 := at_new (p := b) (o := o4) (u := .lst [.int (Builtin.bitXor y x)]) upd_same hr'
        have fl3 := sm3 l _ nlb hl1
        have fr3 := at_new (p := q) (u := .lst [.int (Builtin.bitXor y x)]) ((upd_ne nqb).trans fr) hr'
        refine ⟨q, r, _, [.int (Builtin.bitXor y x)], rfl, rfl, fr3, upd_same, by show 4 ≤ sizeLine; decide, fun p hp => ?_⟩
        have sm4 := sm3.new (o := .lst ([v1, 1 * 2 ^ v2.toNat, 0, Builtin.bitXor y x].map V.int)) hp
        have fb4 := at_new (u := .lst ([v1, 1 * 2 ^ v2.toNat, 0, Builtin.bitXor y x].map V.int)) fb3 hp
        have fl4 := at_new (u := .lst ([v1, 1 * 2 ^ v2.toNat, 0, Builtin.bitXor y x].map V.int)) fl3 hp
        have npb : p ≠ b := (ne_of_none fb3 hp).symm
        have npl : p ≠ l := (ne_of_none fl3 hp).symm
        have inz : InW sz [v1, 1 * 2 ^ v2.toNat, 0, Builtin.bitXor y x] := hin3.snoc (ns := [v1, 1 * 2 ^ v2.toNat, 0]) hxy
        have fz : ∀ H' : Hp, upd H' p (.lst ([v1, 1 * 2 ^ v2.toNat, 0, Builtin.bitXor y x].map V.int)) p = some (.lst ([v1, 1 * 2 ^ v2.toNat, 0, Builtin.bitXor y x].map V.int)) := fun _ => upd_same
        obtain ⟨cs, ec, hcs, lcs⟩ := cut_ints [v1, 1 * 2 ^ v2.toNat, 0, Builtin.bitXor y x] none (some 2)
        refine ⟨_, rfl, .inl ⟨rfl, _, SqL.of fl4⟩, _, rfl, _, rfl, _, rfl, _, rfl, p, _, rfl, SqL.of (fz _), fun c hc => ?_⟩
        refine ⟨p, c, _, _, rfl, rfl, at_new (fz _) hc, upd_same, (by rw [ec, List.length_map, List.length_map]; exact Nat.le_trans (Nat.add_le_add (Nat.le_refl 4) lcs) (by show 4 + 4 ≤ sizeLine; decide)), fun d hd => ?_⟩
        have sm5 := (sm4.new (o := .lst (cutV ([v1, 1 * 2 ^ v2.toNat, 0, Builtin.bitXor y x].map V.int) none (some 2))) hc).new (o := .lst ([v1, 1 * 2 ^ v2.toNat, 0, Builtin.bitXor y x].map V.int ++ cutV ([v1, 1 * 2 ^ v2.toNat, 0, Builtin.bitXor y x].map V.int) none (some 2))) hd
        have fb5 := (fun h => at_new (p := b) (o := o4) (u := .lst ([v1, 1 * 2 ^ v2.toNat, 0, Builtin.bitXor y x].map V.int ++ cutV ([v1, 1 * 2 ^ v2.toNat, 0, Builtin.bitXor y x].map V.int) none (some 2))) h hd) (at_new fb4 hc)
        have ndb : d ≠ b := (fun h => (ne_of_none (a := b) (o := o4) h hd).symm) (at_new fb4 hc)
      case' g2 =>
        have fz := fr
        obtain ⟨cs, ec, hcs, lcs⟩ := cut_ints [v1, 1 * 2 ^ v2.toNat, 0] none (some 2)
        refine ⟨_, rfl, .inl ⟨rfl, _, SqL.of fl2⟩, _, rfl, _, rfl, _, rfl, _, rfl, q, _, rfl, SqL.of fz, fun c hc => ?_⟩
        refine ⟨q, c, _, _, rfl, rfl, at_new fz hc, upd_same, (by rw [ec, List.length_map, List.length_map]; exact Nat.le_trans (Nat.add_le_add (Nat.le_refl 3) lcs) (by show 3 + 3 ≤ sizeLine; decide)), fun d hd => ?_⟩
        have sm5 := (sm2.new (o := .lst (cutV ([v1, 1 * 2 ^ v2.toNat, 0].map V.int) none (some 2))) hc).new (o := .lst ([v1, 1 * 2 ^ v2.toNat, 0].map V.int ++ cutV ([v1, 1 * 2 ^ v2.toNat, 0].map V.int) none (some 2))) hd
        have fb5 := (fun h => at_new (p := b) (o := o3) (u := .lst ([v1, 1 * 2 ^ v2.toNat, 0].map V.int ++ cutV ([v1, 1 * 2 ^ v2.toNat, 0].map V.int) none (some 2))) h hd) (at_new fb2 hc)
        have ndb : d ≠ b := (fun h => (ne_of_none (a := b) (o := o3) h hd).symm) (at_new fb2 hc)
        have B4 := B3.mono (show n + 1 + 4 * (i : Int) + 1 + 1 ≤ n + 1 + 4 * (i : Int) + 1 + 1 + 1 by omega)
        have inz := hin3
      all_goals
        have fl5 := sm5 l _ nlb hl1
        refine ⟨b, d, _, _, _, rfl, fb5, B4, by omega, upd_same, ndb, by simp, (by rw [ec, List.length_append, List.length_map, List.length_map]; simp at lcs ⊢; omega), fun j z o5 hj B5 => ?_⟩
        rw [ec, ← List.map_append] at hj
        obtain ⟨y', ey, rfl, _, _⟩ := at_map hj
        have hyy : 0 ≤ y' ∧ y' < 2 ^ sz.toNat := by
          rcases List.mem_append.mp (List.mem_of_getElem? ey) with z | z
          · exact inz _ z
          · exact inz _ (hcs _ z)
        refine ⟨l, _, _, rfl, rfl, (upd_ne nlb).trans fl5, (by rw [List.length_map, hlen]; exact Nat.lt_trans hil (by decide)), ?_⟩
        refine ⟨ns ++ [y'], o5, _, _, rfl, ?_, (by rw [upd_ne nbl]; exact upd_same), B5.mono (by omega), (by rw [upd_same, List.map_append]; rfl), hin.snoc hyy, (by rw [List.length_append, hlen]; rfl)⟩
        intro c' u' nc e'
        rw [upd_ne (ne_of_none e' hl), upd_ne nc]
        exact sm5 c' u' nc (sm c' u' nc e')
    · rintro σ H1 ⟨ns, o1, t, u, rfl, sm, hb1, B1, hl1, hin, hlen⟩
      refine ⟨_, rfl, l, _, rfl, .inl ⟨SqL.of hl1, fun p hp => ?_⟩⟩
      have nlp : l ≠ p := ne_of_none hl1 hp
      refine k p ns _ o1 ?_ (sm.new hp) (by rw [upd_ne (ne_of_none hb1 hp)]; exact hb1) (B1.mono (by omega)) upd_same hin (by omega)
      cases e : H p with
      | none => rfl
      | some u =>
        have npb : p ≠ b := fun z => by subst z; rw [hb1] at hp; cases hp
        rw [sm p u npb e] at hp
        cases hp
/-! ### _law_plan -/
theorem scPlan : FnScope ["_law_box_here", "_law_size", "_law_many"] ["_law_box_here", "_law_size", "_law_many"] (defScope sPlan) := ⟨rfl, rfl, rfl, by decide +kernel, rfl, by decide +kernel, by decide +kernel⟩
theorem ok_plan {f f1 f2 f3 : Addr} {fd fd1 fd2 fd3 : FuncData} (A0 : At K mg "_law_plan" sPlan ["_law_box_here", "_law_size", "_law_many"] f fd) (A1 : At K mg "_law_take" sTake ["_law_box_here", "_law_many"] f1 fd1)
    (A2 : At K mg "_law_of" sOf ["_law_box_here", "_law_some"] f2 fd2) (A3 : At K mg "_law_lot" sLot ["_law_box_here", "_law_size", "_law_most"] f3 fd3) (T : Txt K mg) : FnOk P w K mg base CX0 4 f fd ["_law_box_here", "_law_size", "_law_many"] spLot := by
  have G3 : FnOk P w K mg base CX0 3 f3 fd3 ["_law_box_here", "_law_size", "_law_most"] spLot := ok_lot A3 A1 A2 T
  refine A0.fn.ok scPlan (fun vs H Q E h => ?_) (fun cdv A outer s H vs Q E hr h => ?_)
  · obtain ⟨b, n, sz, m, o, rfl, _⟩ := h
    rfl
  · obtain ⟨b, n, sz, m, o, rfl, rest⟩ := h
    refine ⟨_, pss_one (ps_ret (pe_call G3 hr (by rfl) A3.mg A3.fn.kp A3.bi .nil pass0 (pa_cons (pv 0) (pa_cons (pv 1) (pa_cons (pv 2) pa_nil))))), ?_⟩
    exact ⟨_, rfl, _, rfl, _, rfl, b, n, sz, m, o, rfl, rest⟩
end
end X1
set_option Elab.async false
set_option maxRecDepth 100000
set_option maxHeartbeats 4000000
namespace X1
open PySem L2
open GF (pc par pc_0 pc_eq par_lt InS Can Red Orth)
/-- numbers as values -/
def nv (l : List Nat) : List V := l.map fun n : Nat => V.int (n : Int)
theorem nv_len (l : List Nat) : (nv l).length = l.length := List.length_map ..
theorem nv_at {l : List Nat} {i : Nat} {y : V} (h : (nv l)[i]? = some y) : ∃ n, l[i]? = some n ∧ y = .int (n : Int) ∧ i < l.length := by
  unfold nv at h
  rw [List.getElem?_map] at h
  cases e : l[i]? with
  | none =>
    rw [e] at h
    cases h
  | some m =>
    rw [e] at h
    cases h
    exact ⟨m, rfl, rfl, (List.getElem?_eq_some_iff.mp e).1⟩
theorem nv_of {sz : Int} {ns : List Int} (h : InW sz ns) : ∃ ms : List Nat, ns.map V.int = nv ms ∧ ms.length = ns.length ∧ ∀ m ∈ ms, m < 2 ^ sz.toNat := by
  refine ⟨ns.map Int.toNat, ?_, List.length_map .., fun m hm => ?_⟩
  · unfold nv
    rw [List.map_map]
    refine List.map_congr_left fun x hx => ?_
    show V.int x = V.int ((x.toNat : Nat) : Int)
    rw [Int.toNat_of_nonneg (h x hx).1]
  · obtain ⟨x, hx, rfl⟩ := List.mem_map.mp hm
    have := h x hx
    have e : ((2 ^ sz.toNat : Nat) : Int) = 2 ^ sz.toNat := by rw [Int.natCast_pow]; rfl
    omega
theorem nv_ints (l : List Nat) : nv l = (l.map fun n : Nat => (n : Int)).map V.int := by
  unfold nv
  rw [List.map_map]
  rfl
theorem min_cast (a b : Nat) : (if ((Builtin.bitXor (a : Int) (b : Int)) < (a : Int)) then Builtin.bitXor (a : Int) (b : Int) else (a : Int)) = ((min a (a ^^^ b) : Nat) : Int) := by
  rw [Bits.bitXor_pp (Int.natCast_nonneg a) (Int.natCast_nonneg b)]
  show (if ((a ^^^ b : Nat) : Int) < (a : Int) then ((a ^^^ b : Nat) : Int) else (a : Int)) = _
  split <;> omega
section
variable {P : Program} {w : World} {K : PySem.W.Frag} {mg : Str → Option Value} {base : Heap}
/-! ### remainder, of rows in a list -/
def spRem (K : PySem.W.Frag) : Sp := fun vs H Q _ => ∃ (p : Addr) (rs : List Nat) (v : Nat), vs = [.ref p, .int (v : Int)] ∧ SqL K H p (nv rs) ∧ Q (.int (GF.rem rs v : Nat)) H
theorem scRem : FnScope ["rows", "vector", "row"] ["rows", "vector"] (defScope sRem) := ⟨rfl, rfl, rfl, by decide +kernel, rfl, by decide +kernel, by decide +kernel⟩
theorem rem_next {rs : List Nat} {i r : Nat} (v : Nat) (h : rs[i]? = some r) : GF.rem (rs.take (i + 1)) v = min (GF.rem (rs.take i) v) (GF.rem (rs.take i) v ^^^ r) := by
  unfold GF.rem
  rw [List.take_add_one, h, List.foldl_append]
  rfl
theorem ok_rem {f : Addr} {fd : FuncData} (A0 : At K mg "remainder" sRem ["rows", "vector"] f fd) (T : Txt K mg) : FnOk P w K mg base CX0 1 f fd ["rows", "vector"] (spRem K) := by
  refine A0.fn.ok scRem (fun vs H Q E h => ?_) (fun cdv A outer s H vs Q E hr h => ?_)
  · obtain ⟨p, rs, v, rfl, _⟩ := h
    rfl
  · obtain ⟨p, rs, v, rfl, hp, k⟩ := h
    refine ⟨_, pss_cons (ps_for PassesOwn.never rfl (pi_list (pv 0)) (pg_name (i := 2) scRem.nd rfl (Or.inl rfl))
        (pss_one (ps_set (i := 1) scRem.nd rfl (Or.inl rfl) (pe_callB (call_min2 rfl) (by rfl) T.min (by decide +kernel) (pa_cons (pv 1) (pa_cons (pe_op op_xor (pv 1) (pv 2)) pa_nil))))))
      (pss_one (ps_ret (pv 1))), ?_⟩
    refine ⟨_, rfl, p, rfl, ⟨_, hp⟩, ?_⟩
    refine for_list (K := K) (a := p) (xs := nv rs) (fun i σ H' => ∃ t, σ = [some (.ref p), some (.int (GF.rem (rs.take i) v : Nat)), t] ∧ H' = H) ⟨none, rfl, rfl⟩ (fun i σ H' _ ⟨_, _, e⟩ => e ▸ hp) ?_ ?_
    · rintro i y σ H' hy ⟨t, rfl, rfl⟩
      obtain ⟨r, er, rfl, hi⟩ := nv_at hy
      refine ⟨_, rfl, _, rfl, _, rfl, _, _, rfl, rfl, _, _, rfl, ?_⟩
      refine ⟨some (.int (r : Int)), ?_, rfl⟩
      rw [rem_next v er, ← min_cast]
      rfl
    · rintro σ H' ⟨t, rfl, rfl⟩
      rw [nv_len, List.take_length]
      exact ⟨_, rfl, k⟩
def spRemT (K : PySem.W.Frag) : Sp := fun vs H Q _ => ∃ (p : Addr) (rs : List Nat) (v : Nat), vs = [.ref p, .int (v : Int)] ∧ SqT K H p (nv rs) ∧ Q (.int (GF.rem rs v : Nat)) H
theorem ok_remT {f : Addr} {fd : FuncData} (A0 : At K mg "remainder" sRem ["rows", "vector"] f fd) (T : Txt K mg) : FnOk P w K mg base CX0 1 f fd ["rows", "vector"] (spRemT K) := by
  refine A0.fn.ok scRem (fun vs H Q E h => ?_) (fun cdv A outer s H vs Q E hr h => ?_)
  · obtain ⟨p, rs, v, rfl, _⟩ := h
    rfl
  · obtain ⟨p, rs, v, rfl, hp, k⟩ := h
    refine ⟨_, pss_cons (ps_for PassesOwn.never rfl (pi_tup (pv 0)) (pg_name (i := 2) scRem.nd rfl (Or.inl rfl))
        (pss_one (ps_set (i := 1) scRem.nd rfl (Or.inl rfl) (pe_callB (call_min2 rfl) (by rfl) T.min (by decide +kernel) (pa_cons (pv 1) (pa_cons (pe_op op_xor (pv 1) (pv 2)) pa_nil))))))
      (pss_one (ps_ret (pv 1))), ?_⟩
    refine ⟨_, rfl, p, rfl, ⟨_, hp⟩, ?_⟩
    refine for_tup (K := K) (a := p) (xs := nv rs) (fun i σ H' => ∃ t, σ = [some (.ref p), some (.int (GF.rem (rs.take i) v : Nat)), t] ∧ H' = H) ⟨none, rfl, rfl⟩ (fun i σ H' _ ⟨_, _, e⟩ => e ▸ hp) ?_ ?_
    · rintro i y σ H' hy ⟨t, rfl, rfl⟩
      obtain ⟨r, er, rfl, hi⟩ := nv_at hy
      refine ⟨_, rfl, _, rfl, _, rfl, _, _, rfl, rfl, _, _, rfl, ?_⟩
      refine ⟨some (.int (r : Int)), ?_, rfl⟩
      rw [rem_next v er, ← min_cast]
      rfl
    · rintro σ H' ⟨t, rfl, rfl⟩
      rw [nv_len, List.take_length]
      exact ⟨_, rfl, k⟩
/-! ### reduced -/
theorem sort_nats {L' : List Int} {rs : List Nat} (p : L'.Perm (rs.map fun n : Nat => (n : Int))) (hs : L'.Pairwise (· ≤ ·)) : ∃ L : List Nat, L'.map V.int = nv L ∧ L.Perm rs ∧ L.Pairwise (· ≤ ·) := by
  have h0 : ∀ x ∈ L', 0 ≤ x := fun x hx => by
    obtain ⟨n, _, rfl⟩ := List.mem_map.mp (p.mem_iff.mp hx)
    exact Int.natCast_nonneg n
  refine ⟨L'.map Int.toNat, ?_, ?_, ?_⟩
  · unfold nv
    rw [List.map_map]
    refine List.map_congr_left fun x hx => ?_
    show V.int x = V.int ((x.toNat : Nat) : Int)
    rw [Int.toNat_of_nonneg (h0 x hx)]
  · have e : ∀ l : List Nat, (l.map fun n : Nat => (n : Int)).map Int.toNat = l := fun l => by
      induction l with
      | nil => rfl
      | cons a l ih =>
        rw [List.map_cons, List.map_cons, ih]
        rfl
    have := p.map Int.toNat
    rw [e] at this
    exact this
  · rw [List.pairwise_map]
    exact List.Pairwise.imp_of_mem (fun {a b} ha hb h => Int.toNat_le_toNat h) hs
def spRed (K : PySem.W.Frag) (tup : Bool) : Sp := fun vs H Q _ => ∃ (p : Addr) (vv : List Nat), vs = [.ref p] ∧ (if tup = true then SqT K H p (nv vv) else SqL K H p (nv vv)) ∧ vv.length ≤ 1000 ∧
  ∀ (q : Addr) (L : List Nat) (H' : Hp), H q = none → Same H H' → H' q = some (.tup (nv L)) → Can (InS vv) L → Red L → L.length ≤ vv.length → (∀ x, InS L x ↔ InS vv x) → Q (.ref q) H'
theorem scRed : FnScope ["vectors", "rows", "vector", "rest", "row"] ["vectors"] (defScope sRed) := ⟨rfl, rfl, rfl, by decide +kernel, rfl, by decide +kernel, by decide +kernel⟩
theorem red_next {vv : List Nat} {i v : Nat} (h : vv[i]? = some v) : GF.red0 (vv.take (i + 1)) = GF.step (GF.red0 (vv.take i)) v := by
  unfold GF.red0
  rw [List.take_add_one, h, List.foldl_append]
  rfl
theorem step_len (rows : List Nat) (v : Nat) : (GF.step rows v).length ≤ rows.length + 1 := by
  unfold GF.step
  split
  · rw [List.length_append, List.length_map]
    exact Nat.le_refl _
  · omega
theorem keep_new {H H1 : Hp} {p : Addr} {o : HO} (s : Same H H1) (hp : H1 p = none) : Same H (upd H1 p o) := fun c u e => by
  rw [upd_ne (ne_of_none (s c u e) hp)]
  exact s c u e
theorem new_at {H : Hp} {p q : Addr} {o u : HO} (h : H p = some o) (hq : H q = none) : upd H q u p = some o := by
  rw [upd_ne (ne_of_none h hq)]
  exact h
theorem sameT {K : PySem.W.Frag} {H H' : Hp} {a : Addr} {xs : List V} (e : Same H H') (h : SqT K H a xs) : SqT K H' a xs := by
  rcases h with (h | ⟨o, h⟩) | h
  · exact .inl (.inl (e _ _ h))
  · exact .inl (.inr ⟨o, e _ _ h⟩)
  · exact .inr h
theorem ok_redT {f f1 : Addr} {fd fd1 : FuncData} (A0 : At K mg "reduced" sRed ["vectors"] f fd) (A1 : At K mg "remainder" sRem ["rows", "vector"] f1 fd1) (T : Txt K mg) : FnOk P w K mg base CX0 2 f fd ["vectors"] (spRed K true) := by
  have G1 : FnOk P w K mg base CX0 1 f1 fd1 ["rows", "vector"] (spRem K) := ok_rem A1 T
  refine A0.fn.ok scRed (fun vs H Q E h => ?_) (fun cdv A outer s H vs Q E hr h => ?_)
  · obtain ⟨p, vv, rfl, _⟩ := h
    rfl
  · obtain ⟨p, vv, rfl, hp, hl, k⟩ := h
    have hp : SqT K H p (nv vv) := hp
    refine ⟨_, (pss_cons (ps_set (i := 1) scRed.nd rfl (Or.inl rfl) (pe_lst pa_nil))
      (pss_cons (ps_for PassesOwn.never rfl (pi_tup (pv 0)) (pg_name (i := 2) scRed.nd rfl (Or.inl rfl)) (pss_cons (ps_set (i := 3) scRed.nd rfl (Or.inr rfl) (pe_call G1 hr (by rfl) A1.mg A1.fn.kp A1.bi .nil pass0 (pa_cons (pv 1) (pa_cons (pv 2) pa_nil))))
      (pss_one (ps_if (pt_cmpR op_gt (pv 3) pe_int (nomark _)) (pss_cons (ps_setLc (i := 1) (own := [("row", 4)]) (g := gName 4) (tt := tYes) rfl scRed.nd rfl rfl (sw_true rfl rfl rfl (by decide +kernel)) (pi_list (pv 1)) (blkOk_by (N := ["vectors", "rows", "vector", "rest", "row"]) (sc := defScope sRed) (by decide +kernel)) (fun _ _ _ _ _ => pg_name (i := 4) scRed.nd rfl (Or.inl rfl)) (fun _ _ _ _ _ => pts_nil) (fun _ _ _ _ _ => pe_callB (call_min2 rfl) (by rfl) T.min (by decide +kernel) (pa_cons (pv 4) (pa_cons (pe_op op_xor (pv 4) (pv 3)) pa_nil))))
      (pss_one (ps_expr (pe_bm PySem.F.plainAttrs_list PySem.F.slot_list_append PySem.F.type_list_append mt_append (pv 1) (pa_cons (pv 3) pa_nil))))) pss_nil))))
      (pss_one (ps_ret (pe_callTy call_tuple_of (by rfl) T.tuple (by decide +kernel) (pa_cons (pe_callB cr_sortedI (by rfl) T.sorted (by decide +kernel) (pa_cons (pv 1) pa_nil)) pa_nil)))))), ?_⟩
    refine ⟨Nat.zero_le _, fun l hl0 => ?_⟩
    refine ⟨_, rfl, p, rfl, ⟨_, sameT (keep_new (Same.refl H) hl0) hp⟩, ?_⟩
    refine for_tup (K := K) (a := p) (xs := nv vv) (fun i σ H' => ∃ (l : Addr) (t2 t3 t4 : Option V), σ = [some (.ref p), some (.ref l), t2, t3, t4] ∧ Same H H' ∧ H l = none ∧ H' l = some (.lst (nv (GF.red0 (vv.take i)))) ∧ (GF.red0 (vv.take i)).length ≤ i)
      ⟨l, none, none, none, rfl, keep_new (Same.refl H) hl0, hl0, upd_same, Nat.le_refl _⟩ (fun i σ H' _ ⟨_, _, _, _, _, sm, _⟩ => sameT sm hp) ?_ ?_
    · rintro i y σ H1 hy ⟨l, t2, t3, t4, rfl, sm, nl, hl1, hlen⟩
      obtain ⟨v, ev, rfl, hi⟩ := nv_at hy
      have R := GF.red0_red (vv.take i)
      rw [red_next ev]
      refine ⟨_, rfl, _, rfl, l, _, v, rfl, SqL.of hl1, ?_⟩
      refine ⟨_, rfl, _, _, rfl, rfl, _, rfl, ?_⟩
      refine ite2 (fun hpos => ?_) (fun hpos => ?_)
      · have hpos : 0 < GF.rem (GF.red0 (vv.take i)) v := by
          have := of_decide_eq_true hpos
          omega
        refine ⟨_, rfl, l, rfl, ⟨_, SqL.of hl1⟩, fun D hD => ?_⟩
        have nlD : l ≠ D := ne_of_none hl1 hD
        refine lc_list (K := K) (a := l) (xs := nv (GF.red0 (vv.take i))) (fun j H' => (∀ c u, c ≠ D → H1 c = some u → H' c = some u) ∧ H' D = some (.lst (nv (((GF.red0 (vv.take i)).take j).map fun r => min r (r ^^^ GF.rem (GF.red0 (vv.take i)) v))))) ⟨fun c u n e => by rw [upd_ne n]; exact e, upd_same⟩ (fun j H' _ ⟨s1, _⟩ => SqL.of (s1 l _ nlD hl1)) ?_ ?_
        · rintro j x H2 hx ⟨s1, hd⟩
          obtain ⟨r, er, rfl, hj⟩ := nv_at hx
          refine ⟨rfl, yes (iteT ?_)⟩
          refine ⟨_, rfl, _, rfl, _, rfl, _, _, rfl, rfl, _, _, rfl, _, hd, ?_, ?_, ?_⟩
          · rw [nv_len, List.length_map, List.length_take]
            exact Nat.lt_of_le_of_lt (Nat.le_trans (Nat.min_le_left _ _) (Nat.le_trans (Nat.le_of_lt hj) (Nat.le_trans hlen (Nat.le_trans (Nat.le_of_lt hi) hl)))) (by decide)
          · exact fun c u n e => by rw [upd_ne n]; exact s1 c u n e
          · rw [upd_same, List.take_add_one, er, List.map_append]
            show some (HO.lst (nv _ ++ [V.int (if Builtin.bitXor (r : Int) _ < (r : Int) then _ else _)])) = _
            rw [min_cast]
            unfold nv
            rw [List.map_append]
            rfl
        · rintro H2 ⟨s1, hd⟩
          rw [nv_len, List.take_length] at hd
          have sm2 : Same H H2 := fun c u e => s1 c u (ne_of_none (sm c u e) hD) (sm c u e)
          have nD : H D = none := by
            cases e : H D with
            | none => rfl
            | some u =>
              rw [sm _ _ e] at hD
              cases hD
          refine ⟨_, rfl, .inl ⟨rfl, _, SqL.of hd⟩, _, rfl, D, _, _, rfl, rfl, hd, ?_, ?_⟩
          · rw [nv_len, List.length_map]
            exact Nat.lt_of_le_of_lt (Nat.le_trans hlen (Nat.le_trans (Nat.le_of_lt hi) hl)) (by decide)
          · refine ⟨D, _, _, _, rfl, fun c u e => ?_, nD, ?_, ?_⟩
            · rw [upd_ne (ne_of_none e nD)]
              exact sm2 c u e
            · rw [upd_same]
              unfold GF.step
              rw [if_pos hpos]
              unfold nv
              rw [List.map_append]
              rfl
            · exact Nat.le_trans (step_len _ _) (Nat.succ_le_succ hlen)
      · have hz : ¬ 0 < GF.rem (GF.red0 (vv.take i)) v := fun z => hpos (decide_eq_true (by omega))
        refine ⟨l, _, _, _, rfl, sm, nl, ?_, ?_⟩
        · unfold GF.step
          rw [if_neg hz]
          exact hl1
        · exact Nat.le_trans (step_len _ _) (Nat.succ_le_succ hlen)
    · rintro σ H1 ⟨l, t2, t3, t4, rfl, sm, nl, hl1, hlen⟩
      rw [nv_len, List.take_length] at hl1 hlen
      refine ⟨_, rfl, l, _, rfl, SqL.of (by rw [← nv_ints]; exact hl1), fun L' q pm hs hq => ?_⟩
      obtain ⟨L, eL, pL, sL⟩ := sort_nats pm hs
      obtain ⟨C, RL⟩ := GF.sorted_can pL sL
      refine ⟨q, _, rfl, .inl ⟨SqL.of upd_same, fun t ht => ?_⟩⟩
      have smq := keep_new (o := .lst (L'.map V.int)) sm hq
      have nt : H t = none := by
        cases e : H t with
        | none => rfl
        | some u =>
          rw [smq _ _ e] at ht
          cases ht
      exact k t L _ nt (keep_new smq ht) (by rw [upd_same, eL]) C RL (by rw [pL.length_eq]; exact hlen) fun x => (GF.span_perm pL x).trans (GF.red0_span vv x)
theorem ok_redL {f f1 : Addr} {fd fd1 : FuncData} (A0 : At K mg "reduced" sRed ["vectors"] f fd) (A1 : At K mg "remainder" sRem ["rows", "vector"] f1 fd1) (T : Txt K mg) : FnOk P w K mg base CX0 2 f fd ["vectors"] (spRed K false) := by
  have G1 : FnOk P w K mg base CX0 1 f1 fd1 ["rows", "vector"] (spRem K) := ok_rem A1 T
  refine A0.fn.ok scRed (fun vs H Q E h => ?_) (fun cdv A outer s H vs Q E hr h => ?_)
  · obtain ⟨p, vv, rfl, _⟩ := h
    rfl
  · obtain ⟨p, vv, rfl, hp, hl, k⟩ := h
    have hp : SqL K H p (nv vv) := hp
    refine ⟨_, (pss_cons (ps_set (i := 1) scRed.nd rfl (Or.inl rfl) (pe_lst pa_nil))
      (pss_cons (ps_for PassesOwn.never rfl (pi_list (pv 0)) (pg_name (i := 2) scRed.nd rfl (Or.inl rfl)) (pss_cons (ps_set (i := 3) scRed.nd rfl (Or.inr rfl) (pe_call G1 hr (by rfl) A1.mg A1.fn.kp A1.bi .nil pass0 (pa_cons (pv 1) (pa_cons (pv 2) pa_nil))))
      (pss_one (ps_if (pt_cmpR op_gt (pv 3) pe_int (nomark _)) (pss_cons (ps_setLc (i := 1) (own := [("row", 4)]) (g := gName 4) (tt := tYes) rfl scRed.nd rfl rfl (sw_true rfl rfl rfl (by decide +kernel)) (pi_list (pv 1)) (blkOk_by (N := ["vectors", "rows", "vector", "rest", "row"]) (sc := defScope sRed) (by decide +kernel)) (fun _ _ _ _ _ => pg_name (i := 4) scRed.nd rfl (Or.inl rfl)) (fun _ _ _ _ _ => pts_nil) (fun _ _ _ _ _ => pe_callB (call_min2 rfl) (by rfl) T.min (by decide +kernel) (pa_cons (pv 4) (pa_cons (pe_op op_xor (pv 4) (pv 3)) pa_nil))))
      (pss_one (ps_expr (pe_bm PySem.F.plainAttrs_list PySem.F.slot_list_append PySem.F.type_list_append mt_append (pv 1) (pa_cons (pv 3) pa_nil))))) pss_nil))))
      (pss_one (ps_ret (pe_callTy call_tuple_of (by rfl) T.tuple (by decide +kernel) (pa_cons (pe_callB cr_sortedI (by rfl) T.sorted (by decide +kernel) (pa_cons (pv 1) pa_nil)) pa_nil)))))), ?_⟩
    refine ⟨Nat.zero_le _, fun l hl0 => ?_⟩
    refine ⟨_, rfl, p, rfl, ⟨_, Same.seq (keep_new (Same.refl H) hl0) hp⟩, ?_⟩
    refine for_list (K := K) (a := p) (xs := nv vv) (fun i σ H' => ∃ (l : Addr) (t2 t3 t4 : Option V), σ = [some (.ref p), some (.ref l), t2, t3, t4] ∧ Same H H' ∧ H l = none ∧ H' l = some (.lst (nv (GF.red0 (vv.take i)))) ∧ (GF.red0 (vv.take i)).length ≤ i)
      ⟨l, none, none, none, rfl, keep_new (Same.refl H) hl0, hl0, upd_same, Nat.le_refl _⟩ (fun i σ H' _ ⟨_, _, _, _, _, sm, _⟩ => Same.seq sm hp) ?_ ?_
    · rintro i y σ H1 hy ⟨l, t2, t3, t4, rfl, sm, nl, hl1, hlen⟩
      obtain ⟨v, ev, rfl, hi⟩ := nv_at hy
      have R := GF.red0_red (vv.take i)
      rw [red_next ev]
      refine ⟨_, rfl, _, rfl, l, _, v, rfl, SqL.of hl1, ?_⟩
      refine ⟨_, rfl, _, _, rfl, rfl, _, rfl, ?_⟩
      refine ite2 (fun hpos => ?_) (fun hpos => ?_)
      · have hpos : 0 < GF.rem (GF.red0 (vv.take i)) v := by
          have := of_decide_eq_true hpos
          omega
        refine ⟨_, rfl, l, rfl, ⟨_, SqL.of hl1⟩, fun D hD => ?_⟩
        have nlD : l ≠ D := ne_of_none hl1 hD
        refine lc_list (K := K) (a := l) (xs := nv (GF.red0 (vv.take i))) (fun j H' => (∀ c u, c ≠ D → H1 c = some u → H' c = some u) ∧ H' D = some (.lst (nv (((GF.red0 (vv.take i)).take j).map fun r => min r (r ^^^ GF.rem (GF.red0 (vv.take i)) v))))) ⟨fun c u n e => by rw [upd_ne n]; exact e, upd_same⟩ (fun j H' _ ⟨s1, _⟩ => SqL.of (s1 l _ nlD hl1)) ?_ ?_
        · rintro j x H2 hx ⟨s1, hd⟩
          obtain ⟨r, er, rfl, hj⟩ := nv_at hx
          refine ⟨rfl, yes (iteT ?_)⟩
          refine ⟨_, rfl, _, rfl, _, rfl, _, _, rfl, rfl, _, _, rfl, _, hd, ?_, ?_, ?_⟩
          · rw [nv_len, List.length_map, List.length_take]
            exact Nat.lt_of_le_of_lt (Nat.le_trans (Nat.min_le_left _ _) (Nat.le_trans (Nat.le_of_lt hj) (Nat.le_trans hlen (Nat.le_trans (Nat.le_of_lt hi) hl)))) (by decide)
          · exact fun c u n e => by rw [upd_ne n]; exact s1 c u n e
          · rw [upd_same, List.take_add_one, er, List.map_append]
            show some (HO.lst (nv _ ++ [V.int (if Builtin.bitXor (r : Int) _ < (r : Int) then _ else _)])) = _
            rw [min_cast]
            unfold nv
            rw [List.map_append]
            rfl
        · rintro H2 ⟨s1, hd⟩
          rw [nv_len, List.take_length] at hd
          have sm2 : Same H H2 := fun c u e => s1 c u (ne_of_none (sm c u e) hD) (sm c u e)
          have nD : H D = none := by
            cases e : H D with
            | none => rfl
            | some u =>
              rw [sm _ _ e] at hD
              cases hD
          refine ⟨_, rfl, .inl ⟨rfl, _, SqL.of hd⟩, _, rfl, D, _, _, rfl, rfl, hd, ?_, ?_⟩
          · rw [nv_len, List.length_map]
            exact Nat.lt_of_le_of_lt (Nat.le_trans hlen (Nat.le_trans (Nat.le_of_lt hi) hl)) (by decide)
          · refine ⟨D, _, _, _, rfl, fun c u e => ?_, nD, ?_, ?_⟩
            · rw [upd_ne (ne_of_none e nD)]
              exact sm2 c u e
            · rw [upd_same]
              unfold GF.step
              rw [if_pos hpos]
              unfold nv
              rw [List.map_append]
              rfl
            · exact Nat.le_trans (step_len _ _) (Nat.succ_le_succ hlen)
      · have hz : ¬ 0 < GF.rem (GF.red0 (vv.take i)) v := fun z => hpos (decide_eq_true (by omega))
        refine ⟨l, _, _, _, rfl, sm, nl, ?_, ?_⟩
        · unfold GF.step
          rw [if_neg hz]
          exact hl1
        · exact Nat.le_trans (step_len _ _) (Nat.succ_le_succ hlen)
    · rintro σ H1 ⟨l, t2, t3, t4, rfl, sm, nl, hl1, hlen⟩
      rw [nv_len, List.take_length] at hl1 hlen
      refine ⟨_, rfl, l, _, rfl, SqL.of (by rw [← nv_ints]; exact hl1), fun L' q pm hs hq => ?_⟩
      obtain ⟨L, eL, pL, sL⟩ := sort_nats pm hs
      obtain ⟨C, RL⟩ := GF.sorted_can pL sL
      refine ⟨q, _, rfl, .inl ⟨SqL.of upd_same, fun t ht => ?_⟩⟩
      have smq := keep_new (o := .lst (L'.map V.int)) sm hq
      have nt : H t = none := by
        cases e : H t with
        | none => rfl
        | some u =>
          rw [smq _ _ e] at ht
          cases ht
      exact k t L _ nt (keep_new smq ht) (by rw [upd_same, eL]) C RL (by rw [pL.length_eq]; exact hlen) fun x => (GF.span_perm pL x).trans (GF.red0_span vv x)
end
end X1
set_option Elab.async false
set_option maxRecDepth 100000
set_option maxHeartbeats 4000000
namespace X1
open PySem L2
open GF (pc par pc_0 pc_eq par_lt InS Can Red Orth mk isFree)
theorem bits_of {n : Nat} (h : n ≠ 0) : Builtin.Int.intBits (n : Int) = n.log2 + 1 := by
  unfold Builtin.Int.intBits
  rw [if_neg (by simpa using h)]
  rfl
theorem pow_cast (k : Nat) : ((2 ^ k : Nat) : Int) = 2 ^ k := by rw [Int.natCast_pow]; rfl
theorem sum_cast : ∀ l : List Nat, (l.map fun n : Nat => (n : Int)).sum = ((l.sum : Nat) : Int)
  | [] => rfl
  | n :: l => by rw [List.map_cons, List.sum_cons, List.sum_cons, sum_cast l, Int.natCast_add]
theorem in_nv (b : Nat) : ∀ l : List Nat, inV (.int (b : Int)) (nv l) = l.any (· == b)
  | [] => rfl
  | n :: l => by
    show (eqV (.int (n : Int)) (.int (b : Int)) || inV (.int (b : Int)) (nv l)) = ((n == b) || l.any (· == b))
    rw [in_nv b l]
    congr 1
    show ((n : Int) == (b : Int)) = (n == b)
    rw [Bool.eq_iff_iff, beq_iff_eq, beq_iff_eq]
    omega
theorem flat_nv : ∀ l : List Nat, (nv l).all flatV = true
  | [] => rfl
  | n :: l => flat_nv l
def fr (L : List Nat) (j : Nat) : Bool := !((L.map fun r => 2 ^ r.log2).any (· == 2 ^ j))
/-- row & bit, as a test -/
def tBitT (K : PySem.W.Frag) (i j : Nat) : TT := fun σ H Q => tOp (rI0 fun i j => .int (Builtin.bitAnd i j)) (tVar i) (tVar j) σ H fun x H' => ∃ k, TruV K x H' k ∧ Q k H'
theorem fr_iff (L : List Nat) (j : Nat) : fr L j = true ↔ isFree L j := by
  unfold fr isFree
  rw [Bool.not_eq_true', List.any_eq_false]
  constructor
  · intro h r hr e
    exact h (2 ^ r.log2) (List.mem_map.mpr ⟨r, hr, rfl⟩) (by rw [e]; exact beq_self_eq_true _)
  · rintro h x hx e
    obtain ⟨r, hr, rfl⟩ := List.mem_map.mp hx
    have e := beq_iff_eq.mp e
    have e2 := congrArg Nat.log2 e
    rw [Nat.log2_two_pow, Nat.log2_two_pow] at e2
    exact h r hr e2
theorem and_ne (r j : Nat) : (((r &&& 2 ^ j : Nat) : Int) != 0) = r.testBit j := by
  rw [GF.and_pow]
  cases h : r.testBit j
  · rfl
  · have := Nat.two_pow_pos j
    rw [if_pos rfl, bne_iff_ne]
    omega
section
variable {P : Program} {w : World} {K : PySem.W.Frag} {mg : Str → Option Value} {base : Heap}
/-! ### highest_bit -/
def spHb : Sp := fun vs H Q _ => ∃ n : Nat, vs = [.int (n : Int)] ∧ n ≠ 0 ∧ n < 2 ^ 1000 ∧ Q (.int ((2 ^ n.log2 : Nat) : Int)) H
theorem scHb : FnScope ["number"] ["number"] (defScope sHb) := ⟨rfl, rfl, rfl, by decide +kernel, rfl, by decide +kernel, by decide +kernel⟩
theorem ok_hb {f : Addr} {fd : FuncData} (A0 : At K mg "highest_bit" sHb ["number"] f fd) : FnOk P w K mg base CX0 1 f fd ["number"] spHb := by
  refine A0.fn.ok scHb (fun vs H Q E h => ?_) (fun cdv A outer s H vs Q E hr h => ?_)
  · obtain ⟨n, rfl, _⟩ := h
    rfl
  · obtain ⟨n, rfl, h0, h1, k⟩ := h
    refine ⟨_, pss_one (ps_ret (pe_op op_shl pe_int (pe_op op_sub (pe_bits (pv 0)) pe_int))), ?_⟩
    have hb := bits_of h0
    have hl : n.log2 < 1000 := (Nat.log2_lt h0).mpr h1
    refine ⟨_, rfl, _, rfl, _, _, rfl, rfl, _, _, rfl, rfl, ⟨?_, ?_, by decide⟩, ?_⟩
    · rw [hb]
      omega
    · rw [hb]
      omega
    · refine qv ?_ k
      show V.int (1 * 2 ^ ((((Builtin.Int.intBits (n : Int)) : Nat) : Int) - 1).toNat) = _
      rw [hb, Int.one_mul, show (((n.log2 + 1 : Nat) : Int) - 1).toNat = n.log2 by omega, pow_cast]
/-! ### powers -/
def spPowers : Sp := fun vs H Q _ => ∃ wd : Nat, vs = [.int (wd : Int)] ∧ wd ≤ 64 ∧ ∀ (D : Addr) (H' : Hp), H D = none → Same H H' → H' D = some (.lst (nv ((List.range wd).map (2 ^ ·)))) → Q (.ref D) H'
theorem scPowers : FnScope ["width", "index"] ["width"] (defScope sPowers) := ⟨rfl, rfl, rfl, by decide +kernel, rfl, by decide +kernel, by decide +kernel⟩
theorem ok_powers {f : Addr} {fd : FuncData} (A0 : At K mg "powers" sPowers ["width"] f fd) (T : Txt K mg) : FnOk P w K mg base CX0 1 f fd ["width"] spPowers := by
  refine A0.fn.ok scPowers (fun vs H Q E h => ?_) (fun cdv A outer s H vs Q E hr h => ?_)
  · obtain ⟨n, rfl, _⟩ := h
    rfl
  · obtain ⟨wd, rfl, h1, k⟩ := h
    refine ⟨_, pss_one (ps_ret (pe_lc (own := [("index", 1)]) (g := gName 1) (tt := tYes) rfl scPowers.nd (pi_range1 (by rfl) T.range (pa_cons (pv 0) pa_nil)) (blkOk_by (N := ["width", "index"]) (sc := defScope sPowers) (by decide +kernel)) (fun _ _ _ _ _ => pg_name (i := 1) scPowers.nd rfl (Or.inl rfl)) (fun _ _ _ _ _ => pts_nil) (fun _ _ _ _ _ => pe_op op_shl pe_int (pv 1)))), ?_⟩
    refine ⟨_, rfl, _, rfl, by omega, by omega, fun D hD => ?_⟩
    refine lc_range (lo := 0) (n := wd) (fun i H' => (∀ c u, c ≠ D → H c = some u → H' c = some u) ∧ H' D = some (.lst (nv ((List.range i).map (2 ^ ·))))) ⟨fun c u n e => by rw [upd_ne n]; exact e, upd_same⟩ ?_ ?_
    · rintro i H1 hi ⟨s1, hd⟩
      refine ⟨rfl, yes (iteT ?_)⟩
      refine ⟨_, rfl, _, _, rfl, rfl, ⟨by omega, by omega, by decide⟩, _, hd, ?_, ?_, ?_⟩
      · rw [nv_len, List.length_map, List.length_range]
        exact Nat.lt_of_lt_of_le hi (Nat.le_trans h1 (by decide))
      · exact fun c u n e => by rw [upd_ne n]; exact s1 c u n e
      · rw [upd_same, List.range_succ, List.map_append]
        show some (HO.lst (nv _ ++ [V.int (1 * 2 ^ ((0 : Int) + (i : Int)).toNat)])) = _
        rw [Int.one_mul, show ((0 : Int) + (i : Int)).toNat = i by omega, ← pow_cast]
        unfold nv
        rw [List.map_append]
        rfl
    · rintro H1 ⟨s1, hd⟩
      exact k D H1 hD (fun c u e => s1 c u (ne_of_none e hD) e) hd
/-! ### orthogonal -/
def spOrth (K : PySem.W.Frag) : Sp := fun vs H Q _ => ∃ (wd : Nat) (p : Addr) (vv : List Nat), vs = [.int (wd : Int), .ref p] ∧ wd ≤ 16 ∧ SqT K H p (nv vv) ∧ vv.length ≤ 64 ∧ (∀ v ∈ vv, v < 2 ^ wd) ∧
  ∀ (q : Addr) (A : List Nat) (H' : Hp), Same H H' → H' q = some (.tup (nv A)) → Can (fun m => m < 2 ^ wd ∧ Orth vv m) A → Red A → (∀ m, InS A m ↔ m < 2 ^ wd ∧ Orth vv m) → A.length ≤ 16 → Q (.ref q) H'
theorem scOrth : FnScope ["width", "vectors", "rows", "leading", "masks", "bit", "row"] ["width", "vectors"] (defScope sOrth) := ⟨rfl, rfl, rfl, by decide +kernel, rfl, by decide +kernel, by decide +kernel⟩
theorem ok_orth {f f1 f2 f3 f4 : Addr} {fd fd1 fd2 fd3 fd4 : FuncData} (A0 : At K mg "orthogonal" sOrth ["width", "vectors"] f fd) (AM : At K mg "remainder" sRem ["rows", "vector"] f1 fd1) (AR : At K mg "reduced" sRed ["vectors"] f2 fd2)
    (AH : At K mg "highest_bit" sHb ["number"] f3 fd3) (AP : At K mg "powers" sPowers ["width"] f4 fd4) (T : Txt K mg) : FnOk P w K mg base CX0 3 f fd ["width", "vectors"] (spOrth K) := by
  have GT : FnOk P w K mg base CX0 2 f2 fd2 ["vectors"] (spRed K true) := ok_redT AR AM T
  have GL : FnOk P w K mg base CX0 2 f2 fd2 ["vectors"] (spRed K false) := ok_redL AR AM T
  have GH : FnOk P w K mg base CX0 1 f3 fd3 ["number"] spHb := ok_hb AH
  have GP : FnOk P w K mg base CX0 1 f4 fd4 ["width"] spPowers := ok_powers AP T
  refine A0.fn.ok scOrth (fun vs H Q E h => ?_) (fun cdv A outer s H vs Q E hr h => ?_)
  · obtain ⟨wd, p, vv, rfl, _⟩ := h
    rfl
  · obtain ⟨wd, p, vv, rfl, h16, hp, hl, hin, k⟩ := h
    have hr1 : Room 1 _ := hr.mono (by decide)
    have hr2 : Room 2 _ := hr
    refine ⟨_, (pss_cons (ps_set (i := 2) scOrth.nd rfl (Or.inl rfl) (pe_call GT hr2 (by rfl) AR.mg AR.fn.kp AR.bi .nil pass0 (pa_cons (pv 1) pa_nil)))
      (pss_cons (ps_setLc (i := 3) (own := [("row", 6)]) (g := gName 6) (tt := tYes) rfl scOrth.nd rfl rfl (sw_true rfl rfl rfl (by decide +kernel)) (pi_tup (pv 2)) (blkOk_by (N := ["width", "vectors", "rows", "leading", "masks", "bit", "row"]) (sc := defScope sOrth) (by decide +kernel)) (fun _ _ _ _ _ => pg_name (i := 6) scOrth.nd rfl (Or.inl rfl)) (fun _ _ _ _ _ => pts_nil) (fun _ _ _ _ _ => (pe_call GH hr1 (by rfl) AH.mg AH.fn.kp AH.bi .nil pass0 (pa_cons (pv 6) pa_nil))))
      (pss_cons (ps_set (i := 4) scOrth.nd rfl (Or.inl rfl) (pe_lst pa_nil))
      (pss_cons (ps_for PassesOwn.never rfl (pi_list (pe_call GP hr1 (by rfl) AP.mg AP.fn.kp AP.bi .nil pass0 (pa_cons (pv 0) pa_nil))) (pg_name (i := 5) scOrth.nd rfl (Or.inr rfl)) (pss_one (ps_if (pt_cmpR op_notIn_seq (pv 5) (pv 3) (by rfl)) (pss_one (ps_expr (pe_bm PySem.F.plainAttrs_list PySem.F.slot_list_append PySem.F.type_list_append mt_append (pv 4) (pa_cons (pe_op op_add (pv 5) (pe_callB (cr_sum rfl) (by rfl) T.sum (by decide +kernel) (pa_cons (pe_lc (own := [("row", 6)]) (g := gName 6) (tt := tBitT K 6 5) rfl scOrth.nd (pi_tup (pv 2)) (blkOk_by (N := ["width", "vectors", "rows", "leading", "masks", "bit", "row"]) (sc := defScope sOrth) (by decide +kernel)) (fun _ _ _ _ _ => pg_name (i := 6) scOrth.nd rfl (Or.inl rfl)) (fun _ _ _ _ _ => by exact pts_one (pt_truth (pe_op op_and (pv 6) (pv 5)) (by intro _; rfl))) (fun _ _ _ _ _ => (pe_call GH hr1 (by rfl) AH.mg AH.fn.kp AH.bi .nil pass0 (pa_cons (pv 6) pa_nil)))) pa_nil))) pa_nil)))) pss_nil)))
      (pss_one (ps_ret (pe_call GL hr2 (by rfl) AR.mg AR.fn.kp AR.bi .nil pass0 (pa_cons (pv 4) pa_nil)))))))), ?_⟩
    refine ⟨_, rfl, p, vv, rfl, hp, by omega, fun q L H1 nq sm1 hq CL RL lL sL => ?_⟩
    have hw : ∀ r ∈ L, r < 2 ^ wd := fun r hr => GF.ins_lt hin ((sL r).mp (GF.ins_mem hr))
    have hbig : ∀ r ∈ L, r < 2 ^ 1000 := fun r hr => Nat.lt_of_lt_of_le (hw r hr) (Nat.pow_le_pow_right (by decide) (by omega))
    -- the leading bits
    refine ⟨_, rfl, q, rfl, ⟨_, SqT.of hq⟩, fun D hD => ?_⟩
    have nqD : q ≠ D := ne_of_none hq hD
    refine lc_tup (K := K) (a := q) (xs := nv L) (fun j H' => (∀ c u, c ≠ D → H1 c = some u → H' c = some u) ∧ H' D = some (.lst (nv ((L.take j).map fun r => 2 ^ r.log2)))) ⟨fun c u n e => by rw [upd_ne n]; exact e, upd_same⟩ (fun j H' _ ⟨s1, _⟩ => SqT.of (s1 q _ nqD hq)) ?_ ?_
    · rintro j x H2 hx ⟨s1, hd⟩
      obtain ⟨r, er, rfl, hj⟩ := nv_at hx
      have hrm := List.mem_of_getElem? er
      refine ⟨rfl, yes (iteT ?_)⟩
      refine ⟨_, rfl, r, rfl, RL.pos r hrm, hbig r hrm, _, hd, ?_, ?_, ?_⟩
      · rw [nv_len, List.length_map, List.length_take]
        exact Nat.lt_of_le_of_lt (Nat.le_trans (Nat.min_le_left _ _) (Nat.le_trans (Nat.le_of_lt hj) (Nat.le_trans lL hl))) (by decide)
      · exact fun c u n e => by rw [upd_ne n]; exact s1 c u n e
      · rw [upd_same, List.take_add_one, er, List.map_append]
        unfold nv
        rw [List.map_append]
        rfl
    · rintro H2 ⟨s1, hd⟩
      rw [nv_len, List.take_length] at hd
      have sm2 : Same H1 H2 := fun c u e => s1 c u (ne_of_none e hD) e
      refine ⟨Nat.zero_le _, fun M hM => ?_⟩
      have sm3 : Same H2 (upd H2 M (.lst [])) := keep_new (Same.refl H2) hM
      refine ⟨_, rfl, wd, rfl, by omega, fun B H3 nB sm4 hB => ?_⟩
      have hM3 : H3 M = some (.lst []) := sm4 _ _ upd_same
      have nM : H M = none := by
        cases e : H M with
        | none => rfl
        | some u =>
          rw [sm2 _ _ (sm1 _ _ e)] at hM
          cases hM
      have nBM : B ≠ M := (ne_of_none (H := upd H2 M (.lst [])) upd_same nB).symm
      have nqM : q ≠ M := ne_of_none (sm2 _ _ hq) hM
      have nDM : D ≠ M := ne_of_none hd hM
      have hq3 := sm4 _ _ (sm3 _ _ (sm2 _ _ hq))
      have hd3 := sm4 _ _ (sm3 _ _ hd)
      refine ⟨B, rfl, ⟨_, SqL.of hB⟩, ?_⟩
      refine for_list (K := K) (a := B) (xs := nv ((List.range wd).map (2 ^ ·))) (fun i σ H' => ∃ t5 t6, σ = [some (.int (wd : Int)), some (.ref p), some (.ref q), some (.ref D), some (.ref M), t5, t6] ∧ (∀ c u, c ≠ M → H3 c = some u → H' c = some u) ∧ H' M = some (.lst (nv (((List.range i).filter (fr L)).map (mk L)))))
        ⟨none, none, rfl, fun c u _ e => e, hM3⟩ (fun i σ H' _ ⟨_, _, _, s5, _⟩ => SqL.of (s5 B _ nBM hB)) ?_ ?_
      · rintro i y σ H4 hy ⟨t5, t6, rfl, s5, hM4⟩
        obtain ⟨n, en, rfl, hi⟩ := nv_at hy
        rw [List.length_map, List.length_range] at hi
        rw [List.getElem?_map, List.getElem?_range hi] at en
        cases en
        have hq4 := s5 q _ nqM hq3
        have hd4 := s5 D _ nDM hd3
        have hfl : (((List.range i).filter (fr L)).map (mk L)).length ≤ 16 := by
          rw [List.length_map]
          refine Nat.le_trans (List.length_filter_le _ _) ?_
          rw [List.length_range]
          omega
        refine ⟨_, rfl, _, rfl, D, _, rfl, .inl (SqL.of hd4), rfl, flat_nv _, _, rfl, ?_⟩
        by_cases hf : fr L i = true
        · refine iteTb ?_ ?_
          · show (!inV (.int ((2 ^ i : Nat) : Int)) (nv (L.map fun r => 2 ^ r.log2))) = true
            rw [in_nv]
            exact hf
          have hfree := (fr_iff L i).mp hf
          refine ⟨_, rfl, .inl ⟨rfl, _, SqL.of hM4⟩, _, rfl, _, rfl, q, rfl, ⟨_, SqT.of hq4⟩, fun E hE => ?_⟩
          have nqE : q ≠ E := ne_of_none hq4 hE
          have nME : M ≠ E := ne_of_none hM4 hE
          refine lc_tup (K := K) (a := q) (xs := nv L) (fun t H' => (∀ c u, c ≠ E → H4 c = some u → H' c = some u) ∧ H' E = some (.lst (nv (((L.take t).filter fun r => r.testBit i).map fun r => 2 ^ r.log2)))) ⟨fun c u n e => by rw [upd_ne n]; exact e, upd_same⟩ (fun t H' _ ⟨s6, _⟩ => SqT.of (s6 q _ nqE hq4)) ?_ ?_
          · rintro t x H5 hx ⟨s6, he⟩
            obtain ⟨r, er, rfl, ht⟩ := nv_at hx
            have hrm := List.mem_of_getElem? er
            refine ⟨rfl, ?_⟩
            refine ⟨_, rfl, _, rfl, _, _, rfl, rfl, r.testBit i, ?_, ?_⟩
            · show r.testBit i = (Builtin.bitAnd (r : Int) ((2 ^ i : Nat) : Int) != 0)
              rw [PyProof.Rows.bitAnd_pp (Int.natCast_nonneg _) (Int.natCast_nonneg _)]
              exact (and_ne r i).symm
            · refine ite2 (fun hb => ?_) (fun hb => ?_)
              · refine ⟨_, rfl, r, rfl, RL.pos r hrm, hbig r hrm, _, he, ?_, ?_, ?_⟩
                · rw [nv_len, List.length_map]
                  refine Nat.lt_of_le_of_lt (List.length_filter_le _ _) ?_
                  rw [List.length_take]
                  exact Nat.lt_of_le_of_lt (Nat.le_trans (Nat.min_le_left _ _) (Nat.le_trans (Nat.le_of_lt ht) (Nat.le_trans lL hl))) (by decide)
                · exact fun c u n e => by rw [upd_ne n]; exact s6 c u n e
                · rw [upd_same, List.take_add_one, er, List.filter_append, List.map_append]
                  unfold nv
                  rw [List.map_append]
                  show some (HO.lst (_ ++ [V.int ((2 ^ r.log2 : Nat) : Int)])) = some (HO.lst (_ ++ List.map _ (List.map _ (List.filter _ [r]))))
                  rw [List.filter_cons, if_pos hb]
                  rfl
              · refine ⟨s6, ?_⟩
                rw [he, List.take_add_one, er, List.filter_append, List.map_append]
                show _ = some (HO.lst (nv (_ ++ List.map _ (List.filter _ [r]))))
                rw [List.filter_cons, if_neg hb]
                show _ = some (HO.lst (nv (_ ++ [])))
                rw [List.append_nil]
          · rintro H5 ⟨s6, he⟩
            rw [nv_len, List.take_length] at he
            refine ⟨E, _, rfl, SqL.of (by rw [← nv_ints]; exact he), _, _, rfl, rfl, M, _, _, rfl, rfl, s6 M _ nME hM4, ?_, ?_⟩
            · rw [nv_len]
              exact Nat.lt_of_le_of_lt hfl (by decide)
            · refine ⟨_, _, rfl, fun c u n e => ?_, ?_⟩
              · rw [upd_ne n]
                exact s6 c u (ne_of_none (s5 c u n e) hE) (s5 c u n e)
              · rw [upd_same, List.range_succ, List.filter_append, List.map_append, sum_cast]
                unfold nv
                rw [List.map_append]
                show some (HO.lst (_ ++ [V.int (((2 ^ i : Nat) : Int) + _)])) = some (HO.lst (_ ++ List.map _ (List.map _ (List.filter _ [i]))))
                rw [List.filter_cons, if_pos hf]
                rfl
        · refine iteFb ?_ ?_
          · show (!inV (.int ((2 ^ i : Nat) : Int)) (nv (L.map fun r => 2 ^ r.log2))) = false
            rw [in_nv]
            exact Bool.eq_false_iff.mpr hf
          refine ⟨_, _, rfl, s5, ?_⟩
          rw [hM4, List.range_succ, List.filter_append, List.map_append]
          show _ = some (HO.lst (nv (_ ++ List.map _ (List.filter _ [i]))))
          rw [List.filter_cons, if_neg hf]
          show _ = some (HO.lst (nv (_ ++ [])))
          rw [List.append_nil]
      · rintro σ H4 ⟨t5, t6, rfl, s5, hM4⟩
        rw [nv_len, List.length_map, List.length_range] at hM4
        have sp := GF.masks_span RL hw (js := (List.range wd).filter (fr L)) fun j => by
          rw [List.mem_filter, List.mem_range, fr_iff]
        have so := GF.orth_span sL
        refine ⟨_, rfl, M, _, rfl, SqL.of hM4, ?_, fun z A H5 _ sm5 hz CA RA lA sA => ?_⟩
        · rw [List.length_map]
          refine Nat.le_trans (List.length_filter_le _ _) ?_
          rw [List.length_range]
          omega
        · have eA : ∀ m, InS A m ↔ m < 2 ^ wd ∧ Orth vv m := fun m => by rw [sA, sp, so]
          refine k z A H5 (fun c u e => ?_) hz ?_ RA eA ?_
          · have e1 := sm4 _ _ (sm3 _ _ (sm2 _ _ (sm1 c u e)))
            exact sm5 c u (s5 c u (ne_of_none (sm2 _ _ (sm1 c u e)) hM) e1)
          · refine ⟨CA.srt, fun x => (CA.iff x).trans ?_⟩
            have eq : ∀ m, InS (((List.range wd).filter (fr L)).map (mk L)) m ↔ m < 2 ^ wd ∧ Orth vv m := fun m => by rw [sp, so]
            constructor
            · exact fun ⟨a, b, c⟩ => ⟨a, (eq x).mp b, fun y q => c y ((eq y).mpr q)⟩
            · exact fun ⟨a, b, c⟩ => ⟨a, (eq x).mpr b, fun y q => c y ((eq y).mp q)⟩
          · refine Nat.le_trans lA ?_
            rw [List.length_map]
            refine Nat.le_trans (List.length_filter_le _ _) ?_
            rw [List.length_range]
            exact h16
theorem inw_nv {wd : Nat} {vv : List Nat} (h : ∀ v ∈ vv, v < 2 ^ wd) : InW (wd : Int) (vv.map fun n : Nat => (n : Int)) := fun x hx => by
  obtain ⟨v, hv, rfl⟩ := List.mem_map.mp hx
  have := h v hv
  rw [Int.toNat_natCast, ← pow_cast]
  omega
/-! ### kernel -/
def spKernel (K : PySem.W.Frag) : Sp := fun vs H Q _ => ∃ (wd : Nat) (p : Addr) (vv : List Nat), vs = [.int (wd : Int), .ref p] ∧ 1 ≤ wd ∧ wd ≤ 16 ∧ H p = some (.tup (nv vv)) ∧ vv.length ≤ 16 ∧ (∀ v ∈ vv, v < 2 ^ wd) ∧
  ∀ (q : Addr) (A : List Nat) (H' : Hp), Same H H' → H' q = some (.tup (nv A)) → Can (fun m => m < 2 ^ wd ∧ Orth vv m) A → Red A → (∀ m, InS A m ↔ m < 2 ^ wd ∧ Orth vv m) → A.length ≤ 16 → Q (.ref q) H'
theorem scKernel : FnScope ["width", "masks"] ["width", "masks"] (defScope sKernel) := ⟨rfl, rfl, rfl, by decide +kernel, rfl, by decide +kernel, by decide +kernel⟩
theorem ok_kernel {f f1 f2 f3 f4 f5 f6 f7 f8 f9 fa fb : Addr} {fd fd1 fd2 fd3 fd4 fd5 fd6 fd7 fd8 fd9 fda fdb : FuncData} (A0 : At K mg "kernel" sKernel ["width", "masks"] f fd) (A1 : At K mg "is_int" sIsInt ["value"] f1 fd1) (A2 : At K mg "is_address" sIsAddr ["width", "value"] f2 fd2)
    (A3 : At K mg "are_addresses" sAreAddrs ["width", "value", "most"] f3 fd3) (AK : At K mg "are_masks" sAreMasks ["width", "value"] fb fdb) (A4 : At K mg "check_width" sCkWidth ["width"] f4 fd4) (A5 : At K mg "check_map" sCkMap ["width", "masks"] f5 fd5)
    (AM : At K mg "remainder" sRem ["rows", "vector"] f6 fd6) (AR : At K mg "reduced" sRed ["vectors"] f7 fd7) (AH : At K mg "highest_bit" sHb ["number"] f8 fd8) (AP : At K mg "powers" sPowers ["width"] f9 fd9) (AO : At K mg "orthogonal" sOrth ["width", "vectors"] fa fda) (T : Txt K mg) :
    FnOk P w K mg base CX0 6 f fd ["width", "masks"] (spKernel K) := by
  have G4 : FnOk P w K mg base CX0 3 f4 fd4 ["width"] spCkWidth := ok_ckWidth A4 A1 T
  have G5 : FnOk P w K mg base CX0 5 f5 fd5 ["width", "masks"] (spCkMap K) := ok_ckMap A5 A1 A2 A3 AK T
  have GO : FnOk P w K mg base CX0 3 fa fda ["width", "vectors"] (spOrth K) := ok_orth AO AM AR AH AP T
  refine A0.fn.ok scKernel (fun vs H Q E h => ?_) (fun cdv A outer s H vs Q E hr h => ?_)
  · obtain ⟨wd, p, vv, rfl, _⟩ := h
    rfl
  · obtain ⟨wd, p, vv, rfl, w1, w2, hp, hl, hin, k⟩ := h
    have hr2 : Room 2 _ := hr.mono (by decide)
    have hr3 : Room 3 _ := hr.mono (by decide)
    refine ⟨_, pss_cons (ps_expr (pe_call G4 (hr.mono (by decide)) (by rfl) A4.mg A4.fn.kp A4.bi .nil pass0 (pa_cons (pv 0) pa_nil)))
      (pss_cons (ps_expr (pe_call G5 hr (by rfl) A5.mg A5.fn.kp A5.bi .nil pass0 (pa_cons (pv 0) (pa_cons (pv 1) pa_nil))))
      (pss_one (ps_ret (pe_call GO hr3 (by rfl) AO.mg AO.fn.kp AO.bi .nil pass0 (pa_cons (pv 0) (pa_cons (pv 1) pa_nil)))))), ?_⟩
    refine ⟨_, rfl, _, rfl, by omega, by omega, ?_⟩
    refine ⟨_, rfl, _, rfl, _, p, _, rfl, by omega, by omega, by rw [← nv_ints]; exact hp, by rw [List.length_map]; exact hl, inw_nv hin, fun H1 sm1 => ?_⟩
    exact ⟨_, rfl, _, rfl, wd, p, vv, rfl, w2, SqT.of (sm1 _ _ hp), by omega, hin, fun q A H2 sm2 hq CA RA sA lA => k q A H2 (sm1.trans sm2) hq CA RA sA lA⟩
/-- kernel(masks, width) by names -/
def byNames : List Value → List Value → List Value
  | [], [m, w] => [w, m]
  | _, _ => []
def byNamesV : List V → List V → List V
  | [], [m, w] => [w, m]
  | _, _ => []
theorem kb_kernel {f : Addr} {fd : FuncData} (A0 : At K mg "kernel" sKernel ["width", "masks"] f fd) : KBinds K fd ["width", "masks"] ["masks", "width"] byNames byNamesV := by
  obtain ⟨oc, od, kV, doc, pm, an, cdv, ct, osl, efd, lk, hcd⟩ := A0.fn.ex
  subst efd
  refine ⟨fun s us ws _ hl => ?_, fun {vs us zs ws} h1 h2 => ?_⟩
  · match us, ws, hl with
    | [], [m, w], _ => exact .of_eq rfl
  · cases h1 with
    | cons _ _ => exact .nil
    | nil =>
      cases h2 with
      | nil => exact .nil
      | cons r1 h2 =>
        cases h2 with
        | nil => exact .nil
        | cons r2 h2 =>
          cases h2 with
          | nil => exact .cons r2 (.cons r1 .nil)
          | cons _ _ => exact .nil
end
end X1
set_option Elab.async false
set_option maxRecDepth 100000
set_option maxHeartbeats 4000000
namespace X1
open PySem L2
open GF (pc par pc_0 pc_eq par_lt InS Can Red Els All Part)
/-! ### dicts of numbers -/
def kd (s : List Nat) : List (Key × V) := s.map fun n : Nat => ((Sum.inl (n : Int) : Key), V.bl true)
theorem kd_len (s : List Nat) : (kd s).length = s.length := List.length_map ..
theorem kd_at {s : List Nat} {i : Nat} {k : Key} {v : V} (h : (kd s)[i]? = some (k, v)) : ∃ n, s[i]? = some n ∧ k = Sum.inl (n : Int) ∧ i < s.length := by
  unfold kd at h
  rw [List.getElem?_map] at h
  cases e : s[i]? with
  | none =>
    rw [e] at h
    cases h
  | some m =>
    rw [e] at h
    cases h
    exact ⟨m, rfl, rfl, (List.getElem?_eq_some_iff.mp e).1⟩
theorem kd_is (x : Nat) : ∀ s : List Nat, (valV (kd s) (Sum.inl (x : Int) : Key)).isSome = decide (x ∈ s)
  | [] => rfl
  | n :: s => by
    show (valV (((Sum.inl (n : Int) : Key), V.bl true) :: kd s) _).isSome = _
    by_cases e : n = x
    · subst e
      rw [valV_pos rfl]
      simp
    · rw [valV_neg (fun z => e (by have := Sum.inl.inj z; omega)), kd_is x s]
      have : x ≠ n := fun z => e z.symm
      simp [this]
theorem kd_none {x : Nat} {s : List Nat} (h : x ∉ s) : valV (kd s) (Sum.inl (x : Int) : Key) = none := by
  have := kd_is x s
  rw [decide_eq_false h] at this
  cases e : valV (kd s) (Sum.inl (x : Int) : Key) with
  | none => rfl
  | some v =>
    rw [e] at this
    cases this
theorem kd_merge : ∀ (t s : List Nat), (s ++ t).Nodup → mergeK (kd s) (kd t) = kd (s ++ t)
  | [], s, _ => by rw [List.append_nil]; rfl
  | n :: t, s, h => by
    have hn : n ∉ s := fun z => (List.nodup_append.mp h).2.2 n z n (List.mem_cons_self ..) rfl
    show mergeK (putK (kd s) (Sum.inl (n : Int)) (V.bl true)) (kd t) = _
    rw [putK_new _ (kd_none hn)]
    have e : kd s ++ [((Sum.inl (n : Int) : Key), V.bl true)] = kd (s ++ [n]) := by
      unfold kd
      rw [List.map_append]
      rfl
    have ea : s ++ n :: t = (s ++ [n]) ++ t := by simp
    rw [e, ea]
    exact kd_merge t (s ++ [n]) (by rw [← ea]; exact h)
theorem kd_keys (s : List Nat) : (kd s).map (·.1) = (s.map fun n : Nat => (n : Int)).map Sum.inl := by
  unfold kd
  rw [List.map_map, List.map_map]
  rfl
theorem paired_snoc {α β : Type} {F : α → β → Prop} : ∀ {as : List α} {bs : List β}, Paired F as bs → ∀ {a : α} {b : β}, F a b → Paired F (as ++ [a]) (bs ++ [b])
  | _, _, .nil, _, _, h => .cons h .nil
  | _, _, .cons h t, _, _, h' => .cons h (paired_snoc t h')
theorem cut_1 (F : List Nat) : cutV (nv (0 :: F)) (some 1) none = nv F := by
  unfold cutV
  rw [HT.sIx_none, show (some (1 : Int)) = some ((1 : Nat) : Int) from rfl, HT.sIx_nat, nv_len]
  rw [show min 1 (0 :: F).length = 1 by rw [List.length_cons]; omega]
  show (nv F).take (F.length + 1 - 1) = nv F
  rw [show F.length + 1 - 1 = (nv F).length by rw [nv_len]; omega, List.take_length]
def ent (x : Nat) : Key × V := (Sum.inl ((x.log2 + 1 : Nat) : Int), .int (x : Int))
theorem ent_none {k : Nat} : ∀ {C : List Nat}, valV (C.map ent) (Sum.inl (k : Int) : Key) = none → ∀ x ∈ C, x.log2 + 1 ≠ k
  | x :: C, h, y, hy => by
    by_cases e : (ent x).1 = Sum.inl (k : Int)
    · rw [List.map_cons, valV_pos e] at h
      cases h
    · rw [List.map_cons, valV_neg e] at h
      rcases List.mem_cons.mp hy with rfl | hy
      · exact fun z => e (by rw [← z]; rfl)
      · exact ent_none h y hy
theorem ent_some {k : Nat} {v : V} : ∀ {C : List Nat}, valV (C.map ent) (Sum.inl (k : Int) : Key) = some v → ∃ x ∈ C, x.log2 + 1 = k
  | [], h => by cases h
  | x :: C, h => by
    by_cases e : (ent x).1 = Sum.inl (k : Int)
    · have e' : ((x.log2 + 1 : Nat) : Int) = (k : Int) := Sum.inl.inj e
      exact ⟨x, List.mem_cons_self .., by omega⟩
    · rw [List.map_cons, valV_neg e] at h
      obtain ⟨y, hy, z⟩ := ent_some h
      exact ⟨y, List.mem_cons_of_mem _ hy, z⟩
theorem ent_at : ∀ {C : List Nat}, C.Pairwise (fun a b => a.log2 < b.log2) → ∀ x ∈ C, valV (C.map ent) (Sum.inl ((x.log2 + 1 : Nat) : Int) : Key) = some (.int (x : Int))
  | y :: C, p, x, hx => by
    obtain ⟨p1, p2⟩ := List.pairwise_cons.mp p
    rcases List.mem_cons.mp hx with rfl | hx
    · rw [List.map_cons]
      exact valV_pos (p := ent x) rfl
    · have e : ¬ (ent y).1 = Sum.inl ((x.log2 + 1 : Nat) : Int) := fun e => by
        have e' : ((y.log2 + 1 : Nat) : Int) = ((x.log2 + 1 : Nat) : Int) := Sum.inl.inj e
        have := p1 x hx
        omega
      rw [List.map_cons, valV_neg e]
      exact ent_at p2 x hx
theorem ent_keys (C : List Nat) : (C.map ent).map (·.1) = (C.map fun x => ((x.log2 + 1 : Nat) : Int)).map Sum.inl := by
  rw [List.map_map, List.map_map]
  rfl
theorem sorted_is {C : List Nat} {ys : List Int} (p : C.Pairwise (fun a b => a.log2 < b.log2)) (h : ys.Perm (C.map fun x => ((x.log2 + 1 : Nat) : Int))) (s : ys.Pairwise (· ≤ ·)) : ys = C.map fun x => ((x.log2 + 1 : Nat) : Int) := by
  refine List.Perm.eq_of_pairwise (le := (· ≤ ·)) (fun a b _ _ h1 h2 => Int.le_antisymm h1 h2) s ?_ h
  rw [List.pairwise_map]
  exact p.imp fun {a b} h => by omega
theorem paired_kd {K : PySem.W.Frag} {H : Hp} : ∀ {ps : List Addr} {t : List Nat}, Paired (fun q (x : Nat) => SqT K H q [V.int (x : Int), V.bl true]) ps t → Paired (fun p (kv : Key × V) => SqT K H p [kV kv.1, kv.2]) ps (kd t)
  | _, _, .nil => .nil
  | _, _, .cons h t => .cons h (paired_kd t)

theorem noneS {H H1 : Hp} {p : Addr} (s : Same H H1) (h : H1 p = none) : H p = none := by
  cases e : H p with
  | none => rfl
  | some u =>
    rw [s _ _ e] at h
    cases h
section
variable {P : Program} {w : World} {K : PySem.W.Frag} {mg : Str → Option Value} {base : Heap}
/-! ### _law_all_of -/
def spAllOf (K : PySem.W.Frag) : Sp := fun vs H Q _ => ∃ (p : Addr) (vv : List Nat), vs = [.ref p] ∧ H p = some (.tup (nv vv)) ∧ vv.length ≤ 11 ∧
  ∀ (q : Addr) (E : List Nat) (H' : Hp), H q = none → Same H H' → H' q = some (.lst (nv E)) → All E vv → E.length ≤ 2048 → Q (.ref q) H'
theorem scAllOf : FnScope ["_law_lot_here", "_law_found", "_law_one", "_law_spot"] ["_law_lot_here"] (defScope sAllOf) := ⟨rfl, rfl, rfl, by decide +kernel, rfl, by decide +kernel, by decide +kernel⟩
theorem ok_allOf {f : Addr} {fd : FuncData} (A0 : At K mg "_law_all_of" sAllOf ["_law_lot_here"] f fd) (T : Txt K mg) : FnOk P w K mg base CX0 1 f fd ["_law_lot_here"] (spAllOf K) := by
  refine A0.fn.ok scAllOf (fun vs H Q E h => ?_) (fun cdv A outer s H vs Q E hr h => ?_)
  · obtain ⟨p, vv, rfl, _⟩ := h
    rfl
  · obtain ⟨p, vv, rfl, hp, hl, k⟩ := h
    have pwr : ∀ j : Nat, j ≤ 11 → 2 ^ j ≤ 2048 := by decide
    refine ⟨_, ((pss_cons (ps_set (i := 1) scAllOf.nd rfl (Or.inl rfl) (pe_disp (pps_cons pe_int pe_bl pps_nil) rfl rfl (by decide) (by decide)))
      (pss_cons (ps_for PassesOwn.never rfl (pi_tup (pv 0)) (pg_name (i := 2) scAllOf.nd rfl (Or.inr rfl)) (pss_one (ps_if (pt_cmp (pc_dnotin (hu_of hr) (pv 2) (pv 1)) (by rfl)) (pss_one (ps_expr (pe_bm PySem.F.plainAttrs_dict PySem.F.slot_dict_update PySem.F.type_dict_update G.mt_dupd (pv 1) (pa_cons (pe_callTy (call_dictP rfl) (by rfl) T.dict (by decide +kernel) (pa_cons (pe_lock (pe_lc (own := [("_law_spot", 3)]) (g := gName 3) (tt := tYes) rfl scAllOf.nd (pi_keys (pv 1)) (blkOk_by (N := ["_law_lot_here", "_law_found", "_law_one", "_law_spot"]) (sc := defScope sAllOf) (by decide +kernel)) (fun _ _ _ _ _ => pg_name (i := 3) scAllOf.nd rfl (Or.inl rfl)) (fun _ _ _ _ _ => pts_nil) (fun _ _ _ _ _ => pe_tup (pa_cons (pe_op op_xor (pv 2) (pv 3)) (pa_cons pe_bl pa_nil))))) pa_nil)) pa_nil)))) pss_nil)))
      (pss_one (ps_ret (pe_callB (G.cr_sortedAny rfl) (by rfl) T.sorted (by decide +kernel) (pa_cons (pv 1) pa_nil))))))), ?_⟩
    intro d hd
    refine ⟨upd_same, [(Sum.inl 0, V.bl true)], rfl, by decide, ?_⟩
    have ndp : p ≠ d := ne_of_none hp hd
    have hmk : mergeK [] [((Sum.inl 0 : Key), V.bl true)] = kd [0] := rfl
    rw [hmk]
    have sm0 : Same H (upd (upd H d (.dK [])) d (.dK (kd [0]))) := fun c u e => by
      have n := ne_of_none e hd
      rw [upd_ne n, upd_ne n]
      exact e
    refine ⟨_, rfl, p, rfl, ⟨_, SqT.of (sm0 _ _ hp)⟩, ?_⟩
    refine for_tup (K := K) (a := p) (xs := nv vv) (fun i σ H' => ∃ (s : List Nat) (t2 t3 : Option V), σ = [some (.ref p), some (.ref d), t2, t3] ∧ Same H H' ∧ H' d = some (.dK (kd s)) ∧ Els s (vv.take i) ∧ s.length ≤ 2 ^ i)
      ⟨[0], none, none, rfl, sm0, upd_same, GF.els_0, Nat.le_refl _⟩ (fun i σ H' _ ⟨_, _, _, _, sm, _⟩ => SqT.of (sm _ _ hp)) ?_ ?_
    · rintro i y σ H1 hy ⟨s, t2, t3, rfl, sm1, hd1, hE, hlen⟩
      obtain ⟨v, ev, rfl, hi⟩ := nv_at hy
      have hs : s.length ≤ 2048 := Nat.le_trans hlen (pwr i (by omega))
      have ea : vv.take (i + 1) = vv.take i ++ [v] := by
        rw [List.take_add_one, ev]
        rfl
      rw [ea]
      refine ⟨_, rfl, _, rfl, d, _, rfl, DGet.k (k := Sum.inl (v : Int)) hd1, _, rfl, ?_⟩
      rw [kd_is]
      by_cases hv : v ∈ s
      · refine iteFb (by rw [decide_eq_true hv]; rfl) ?_
        exact ⟨s, _, _, rfl, sm1, hd1, hE.old ((hE.iff v).mp hv), Nat.le_trans hlen (Nat.pow_le_pow_right (by decide) (Nat.le_succ i))⟩
      · refine iteTb (by rw [decide_eq_false hv]; rfl) ?_
        have e := hE.new fun z => hv ((hE.iff v).mpr z)
        refine ⟨_, rfl, .inr (.inr (.inl ⟨rfl, .inl ⟨_, hd1⟩⟩)), d, _, hd1, trivial, fun od => ?_⟩
        refine ⟨_, rfl, d, od, rfl, .inl ⟨kd s, upd_same, fun D hD => ?_⟩⟩
        have ndD : d ≠ D := fun z => by
          rw [z, upd_same] at hD
          cases hD
        have hD1 : H1 D = none := by
          rw [upd_ne ndD.symm] at hD
          exact hD
        refine lc_it walk_keys (fun j H' => (∀ c u, c ≠ d → c ≠ D → H1 c = some u → H' c = some u) ∧ H' d = some (.frz od (.dK (kd s))) ∧ ∃ ps : List Addr, H' D = some (.lst (ps.map V.ref)) ∧ ps.length = j ∧ Paired (fun q (x : Nat) => H' q = some (.tup [V.int (x : Int), V.bl true])) ps ((s.take j).map fun x => x ^^^ v))
          ⟨fun c u n1 n2 e => by rw [upd_ne n2, upd_ne n1]; exact e, by rw [upd_ne ndD]; exact upd_same, [], upd_same, rfl, .nil⟩ (fun j H' _ ⟨_, s2, _⟩ => s2) ?_ ?_
        · rintro j x H2 H3 hj ⟨s1, s2, ps, s3, s4, s5⟩ ⟨rfl, kk, vx, ek, rfl⟩
          obtain ⟨m, em, rfl, hjl⟩ := kd_at ek
          refine ⟨rfl, yes (iteT ?_)⟩
          refine ⟨_, rfl, _, rfl, _, _, rfl, rfl, (by show 2 ≤ sizeLine; decide), fun tq ht => ?_⟩
          have nDt : D ≠ tq := ne_of_none s3 ht
          have ndt : d ≠ tq := ne_of_none s2 ht
          refine ⟨_, (by rw [upd_ne nDt]; exact s3), ?_, ?_, ?_, ps ++ [tq], ?_, ?_, ?_⟩
          · rw [List.length_map, s4]
            exact Nat.lt_of_lt_of_le hjl (Nat.le_trans hs (by decide))
          · intro c u n1 n2 e
            rw [upd_ne n2, upd_ne (ne_of_none (s1 c u n1 n2 e) ht)]
            exact s1 c u n1 n2 e
          · rw [upd_ne ndD, upd_ne ndt]
            exact s2
          · rw [upd_same, List.map_append]
            rfl
          · rw [List.length_append, s4]
            rfl
          · rw [List.take_add_one, em, List.map_append]
            refine paired_snoc (L2.Paired.mapP s5 fun q x h => ?_) ?_
            · have nq : q ≠ D := fun z => by
                rw [z, s3] at h
                cases h
              rw [upd_ne nq, upd_ne (ne_of_none h ht)]
              exact h
            · rw [upd_ne nDt.symm, upd_same]
              show some (HO.tup [V.int (Builtin.bitXor (v : Int) (m : Int)), V.bl true]) = some (HO.tup [V.int ((m ^^^ v : Nat) : Int), V.bl true])
              rw [Bits.bitXor_pp (Int.natCast_nonneg v) (Int.natCast_nonneg m), Nat.xor_comm m v]
              rfl
        · rintro H2 ⟨s1, s2, ps, s3, s4, s5⟩
          rw [kd_len, List.take_length] at s5
          have smD : ∀ c u, c ≠ d → H1 c = some u → H2 c = some u := fun c u n e => s1 c u n (ne_of_none e hD1) e
          refine ⟨s2, ?_⟩
          have eD : (upd H2 d (.dK (kd s))) D = some (.lst (ps.map V.ref)) := by
            rw [upd_ne ndD.symm]
            exact s3
          have tn : (s.map fun x => x ^^^ v).Nodup := (List.nodup_append.mp e.nd).2.1
          refine ⟨D, ps, kd (s.map fun x => x ^^^ v), rfl, SqL.of eD, ?_, fun dd hdd => ?_⟩
          · exact paired_kd (L2.Paired.mapP s5 fun q x h => by
              have nq : q ≠ d := fun z => by
                rw [z, s2] at h
                cases h
              exact SqT.of (by rw [upd_ne nq]; exact h))
          have mk : mergeK [] (kd (s.map fun x => x ^^^ v)) = kd (s.map fun x => x ^^^ v) := kd_merge _ [] (by rw [List.nil_append]; exact tn)
          rw [mk]
          have hd2 : (upd (upd H2 d (.dK (kd s))) dd (.dK (kd (s.map fun x => x ^^^ v)))) d = some (.dK (kd s)) := new_at upd_same hdd
          refine ⟨d, dd, _, _, rfl, rfl, hd2, upd_same, (fun z => by rw [z] at hd2; rw [z, upd_same] at hdd; cases hdd), ?_, ?_⟩
          · rw [kd_len, kd_len, List.length_map]
            exact Nat.le_trans (Nat.add_le_add hs hs) (by decide)
          · rw [kd_merge _ _ e.nd]
            refine ⟨_, _, _, rfl, fun c u ec => ?_, upd_same, e, ?_⟩
            · have n := ne_of_none ec hd
              have e1 := smD c u n (sm1 c u ec)
              rw [upd_ne n]
              have e2 : (upd H2 d (.dK (kd s))) c = some u := (upd_ne n).trans e1
              exact new_at e2 hdd
            · rw [List.length_append, List.length_map, Nat.pow_succ]
              omega
    · rintro σ H1 ⟨s, t2, t3, rfl, sm1, hd1, hE, hlen⟩
      rw [nv_len, List.take_length] at hE
      rw [nv_len] at hlen
      refine ⟨_, rfl, d, kd s, s.map (fun n : Nat => (n : Int)), rfl, .inl hd1, kd_keys s, fun ys q pm srt hq => ?_⟩
      obtain ⟨F, eF, pF, sF⟩ := sort_nats pm srt
      exact k q F _ (noneS sm1 hq) (keep_new sm1 hq) (by rw [upd_same, eF]) (hE.all pF sF) (by rw [pF.length_eq]; exact Nat.le_trans hlen (pwr _ hl))

/-! ### _law_all_of -/
def spAllOfL (K : PySem.W.Frag) : Sp := fun vs H Q _ => ∃ (p : Addr) (vv : List Nat), vs = [.ref p] ∧ H p = some (.lst (nv vv)) ∧ vv.length ≤ 11 ∧
  ∀ (q : Addr) (E : List Nat) (H' : Hp), H q = none → Same H H' → H' q = some (.lst (nv E)) → All E vv → E.length ≤ 2048 → Q (.ref q) H'
theorem ok_allOfL {f : Addr} {fd : FuncData} (A0 : At K mg "_law_all_of" sAllOf ["_law_lot_here"] f fd) (T : Txt K mg) : FnOk P w K mg base CX0 1 f fd ["_law_lot_here"] (spAllOfL K) := by
  refine A0.fn.ok scAllOf (fun vs H Q E h => ?_) (fun cdv A outer s H vs Q E hr h => ?_)
  · obtain ⟨p, vv, rfl, _⟩ := h
    rfl
  · obtain ⟨p, vv, rfl, hp, hl, k⟩ := h
    have pwr : ∀ j : Nat, j ≤ 11 → 2 ^ j ≤ 2048 := by decide
    refine ⟨_, ((pss_cons (ps_set (i := 1) scAllOf.nd rfl (Or.inl rfl) (pe_disp (pps_cons pe_int pe_bl pps_nil) rfl rfl (by decide) (by decide)))
      (pss_cons (ps_for PassesOwn.never rfl (pi_list (pv 0)) (pg_name (i := 2) scAllOf.nd rfl (Or.inr rfl)) (pss_one (ps_if (pt_cmp (pc_dnotin (hu_of hr) (pv 2) (pv 1)) (by rfl)) (pss_one (ps_expr (pe_bm PySem.F.plainAttrs_dict PySem.F.slot_dict_update PySem.F.type_dict_update G.mt_dupd (pv 1) (pa_cons (pe_callTy (call_dictP rfl) (by rfl) T.dict (by decide +kernel) (pa_cons (pe_lock (pe_lc (own := [("_law_spot", 3)]) (g := gName 3) (tt := tYes) rfl scAllOf.nd (pi_keys (pv 1)) (blkOk_by (N := ["_law_lot_here", "_law_found", "_law_one", "_law_spot"]) (sc := defScope sAllOf) (by decide +kernel)) (fun _ _ _ _ _ => pg_name (i := 3) scAllOf.nd rfl (Or.inl rfl)) (fun _ _ _ _ _ => pts_nil) (fun _ _ _ _ _ => pe_tup (pa_cons (pe_op op_xor (pv 2) (pv 3)) (pa_cons pe_bl pa_nil))))) pa_nil)) pa_nil)))) pss_nil)))
      (pss_one (ps_ret (pe_callB (G.cr_sortedAny rfl) (by rfl) T.sorted (by decide +kernel) (pa_cons (pv 1) pa_nil))))))), ?_⟩
    intro d hd
    refine ⟨upd_same, [(Sum.inl 0, V.bl true)], rfl, by decide, ?_⟩
    have ndp : p ≠ d := ne_of_none hp hd
    have hmk : mergeK [] [((Sum.inl 0 : Key), V.bl true)] = kd [0] := rfl
    rw [hmk]
    have sm0 : Same H (upd (upd H d (.dK [])) d (.dK (kd [0]))) := fun c u e => by
      have n := ne_of_none e hd
      rw [upd_ne n, upd_ne n]
      exact e
    refine ⟨_, rfl, p, rfl, ⟨_, SqL.of (sm0 _ _ hp)⟩, ?_⟩
    refine for_list (K := K) (a := p) (xs := nv vv) (fun i σ H' => ∃ (s : List Nat) (t2 t3 : Option V), σ = [some (.ref p), some (.ref d), t2, t3] ∧ Same H H' ∧ H' d = some (.dK (kd s)) ∧ Els s (vv.take i) ∧ s.length ≤ 2 ^ i)
      ⟨[0], none, none, rfl, sm0, upd_same, GF.els_0, Nat.le_refl _⟩ (fun i σ H' _ ⟨_, _, _, _, sm, _⟩ => SqL.of (sm _ _ hp)) ?_ ?_
    · rintro i y σ H1 hy ⟨s, t2, t3, rfl, sm1, hd1, hE, hlen⟩
      obtain ⟨v, ev, rfl, hi⟩ := nv_at hy
      have hs : s.length ≤ 2048 := Nat.le_trans hlen (pwr i (by omega))
      have ea : vv.take (i + 1) = vv.take i ++ [v] := by
        rw [List.take_add_one, ev]
        rfl
      rw [ea]
      refine ⟨_, rfl, _, rfl, d, _, rfl, DGet.k (k := Sum.inl (v : Int)) hd1, _, rfl, ?_⟩
      rw [kd_is]
      by_cases hv : v ∈ s
      · refine iteFb (by rw [decide_eq_true hv]; rfl) ?_
        exact ⟨s, _, _, rfl, sm1, hd1, hE.old ((hE.iff v).mp hv), Nat.le_trans hlen (Nat.pow_le_pow_right (by decide) (Nat.le_succ i))⟩
      · refine iteTb (by rw [decide_eq_false hv]; rfl) ?_
        have e := hE.new fun z => hv ((hE.iff v).mpr z)
        refine ⟨_, rfl, .inr (.inr (.inl ⟨rfl, .inl ⟨_, hd1⟩⟩)), d, _, hd1, trivial, fun od => ?_⟩
        refine ⟨_, rfl, d, od, rfl, .inl ⟨kd s, upd_same, fun D hD => ?_⟩⟩
        have ndD : d ≠ D := fun z => by
          rw [z, upd_same] at hD
          cases hD
        have hD1 : H1 D = none := by
          rw [upd_ne ndD.symm] at hD
          exact hD
        refine lc_it walk_keys (fun j H' => (∀ c u, c ≠ d → c ≠ D → H1 c = some u → H' c = some u) ∧ H' d = some (.frz od (.dK (kd s))) ∧ ∃ ps : List Addr, H' D = some (.lst (ps.map V.ref)) ∧ ps.length = j ∧ Paired (fun q (x : Nat) => H' q = some (.tup [V.int (x : Int), V.bl true])) ps ((s.take j).map fun x => x ^^^ v))
          ⟨fun c u n1 n2 e => by rw [upd_ne n2, upd_ne n1]; exact e, by rw [upd_ne ndD]; exact upd_same, [], upd_same, rfl, .nil⟩ (fun j H' _ ⟨_, s2, _⟩ => s2) ?_ ?_
        · rintro j x H2 H3 hj ⟨s1, s2, ps, s3, s4, s5⟩ ⟨rfl, kk, vx, ek, rfl⟩
          obtain ⟨m, em, rfl, hjl⟩ := kd_at ek
          refine ⟨rfl, yes (iteT ?_)⟩
          refine ⟨_, rfl, _, rfl, _, _, rfl, rfl, (by show 2 ≤ sizeLine; decide), fun tq ht => ?_⟩
          have nDt : D ≠ tq := ne_of_none s3 ht
          have ndt : d ≠ tq := ne_of_none s2 ht
          refine ⟨_, (by rw [upd_ne nDt]; exact s3), ?_, ?_, ?_, ps ++ [tq], ?_, ?_, ?_⟩
          · rw [List.length_map, s4]
            exact Nat.lt_of_lt_of_le hjl (Nat.le_trans hs (by decide))
          · intro c u n1 n2 e
            rw [upd_ne n2, upd_ne (ne_of_none (s1 c u n1 n2 e) ht)]
            exact s1 c u n1 n2 e
          · rw [upd_ne ndD, upd_ne ndt]
            exact s2
          · rw [upd_same, List.map_append]
            rfl
          · rw [List.length_append, s4]
            rfl
          · rw [List.take_add_one, em, List.map_append]
            refine paired_snoc (L2.Paired.mapP s5 fun q x h => ?_) ?_
            · have nq : q ≠ D := fun z => by
                rw [z, s3] at h
                cases h
              rw [upd_ne nq, upd_ne (ne_of_none h ht)]
              exact h
            · rw [upd_ne nDt.symm, upd_same]
              show some (HO.tup [V.int (Builtin.bitXor (v : Int) (m : Int)), V.bl true]) = some (HO.tup [V.int ((m ^^^ v : Nat) : Int), V.bl true])
              rw [Bits.bitXor_pp (Int.natCast_nonneg v) (Int.natCast_nonneg m), Nat.xor_comm m v]
              rfl
        · rintro H2 ⟨s1, s2, ps, s3, s4, s5⟩
          rw [kd_len, List.take_length] at s5
          have smD : ∀ c u, c ≠ d → H1 c = some u → H2 c = some u := fun c u n e => s1 c u n (ne_of_none e hD1) e
          refine ⟨s2, ?_⟩
          have eD : (upd H2 d (.dK (kd s))) D = some (.lst (ps.map V.ref)) := by
            rw [upd_ne ndD.symm]
            exact s3
          have tn : (s.map fun x => x ^^^ v).Nodup := (List.nodup_append.mp e.nd).2.1
          refine ⟨D, ps, kd (s.map fun x => x ^^^ v), rfl, SqL.of eD, ?_, fun dd hdd => ?_⟩
          · exact paired_kd (L2.Paired.mapP s5 fun q x h => by
              have nq : q ≠ d := fun z => by
                rw [z, s2] at h
                cases h
              exact SqT.of (by rw [upd_ne nq]; exact h))
          have mk : mergeK [] (kd (s.map fun x => x ^^^ v)) = kd (s.map fun x => x ^^^ v) := kd_merge _ [] (by rw [List.nil_append]; exact tn)
          rw [mk]
          have hd2 : (upd (upd H2 d (.dK (kd s))) dd (.dK (kd (s.map fun x => x ^^^ v)))) d = some (.dK (kd s)) := new_at upd_same hdd
          refine ⟨d, dd, _, _, rfl, rfl, hd2, upd_same, (fun z => by rw [z] at hd2; rw [z, upd_same] at hdd; cases hdd), ?_, ?_⟩
          · rw [kd_len, kd_len, List.length_map]
            exact Nat.le_trans (Nat.add_le_add hs hs) (by decide)
          · rw [kd_merge _ _ e.nd]
            refine ⟨_, _, _, rfl, fun c u ec => ?_, upd_same, e, ?_⟩
            · have n := ne_of_none ec hd
              have e1 := smD c u n (sm1 c u ec)
              rw [upd_ne n]
              have e2 : (upd H2 d (.dK (kd s))) c = some u := (upd_ne n).trans e1
              exact new_at e2 hdd
            · rw [List.length_append, List.length_map, Nat.pow_succ]
              omega
    · rintro σ H1 ⟨s, t2, t3, rfl, sm1, hd1, hE, hlen⟩
      rw [nv_len, List.take_length] at hE
      rw [nv_len] at hlen
      refine ⟨_, rfl, d, kd s, s.map (fun n : Nat => (n : Int)), rfl, .inl hd1, kd_keys s, fun ys q pm srt hq => ?_⟩
      obtain ⟨F, eF, pF, sF⟩ := sort_nats pm srt
      exact k q F _ (noneS sm1 hq) (keep_new sm1 hq) (by rw [upd_same, eF]) (hE.all pF sF) (by rw [pF.length_eq]; exact Nat.le_trans hlen (pwr _ hl))

end
end X1
set_option Elab.async false
set_option maxRecDepth 100000
set_option maxHeartbeats 4000000
namespace X1
open PySem L2
open GF (pc par pc_0 pc_eq par_lt)
theorem upd_none {H : Hp} {p q : Addr} {o : HO} (h : upd H q o p = none) : H p = none := by
  by_cases e : p = q
  · rw [e, upd_same] at h
    cases h
  · rwa [upd_ne e] at h
theorem none_of {H H1 : Hp} {p : Addr} (s : Same H H1) (h : H1 p = none) : H p = none := by
  cases e : H p with
  | none => rfl
  | some u =>
    rw [s _ _ e] at h
    cases h
open RZ (ItzT pi_zipA)
/-! ### tuples cut -/
section
variable {X : Cx}
def rSlT (K : PySem.W.Frag) : V → Option Int → Option Int → Hp → VK → Prop := fun x lo hi H Q => ∃ (a : Addr) (xs : List V), x = .ref a ∧ H a = some (.tup xs) ∧ ∀ (r : Addr) (H' : Hp), Same H H' → H' r = some (.tup (cutV xs lo hi)) → Q (.ref r) H'
theorem sl_T : SlR X (rSlT X.K) := fun pins s σ H x v vl vu lo hi sl Q I rx hs pl pu h => sl_tupA pins s σ H x v vl vu lo hi sl Q I rx hs pl pu (by
  obtain ⟨a, xs, rfl, ha, q⟩ := h
  refine ⟨a, xs, rfl, SqT.of ha, fun ⟨e1, e2⟩ => q a H (Same.refl H) ?_, fun _ p hp => q p _ (fun c u e => by rw [upd_ne (ne_of_none e hp)]; exact e) upd_same⟩
  rw [ha]
  unfold cutV
  rw [e1, e2, List.drop_zero, Nat.sub_zero, List.take_length])
end
theorem cutV_from1 (x : V) (xs : List V) : cutV (x :: xs) (some 1) none = xs := by
  unfold cutV
  rw [HT.sIx_none, show (some (1 : Int)) = some ((1 : Nat) : Int) from rfl, HT.sIx_nat]
  have e : min 1 (x :: xs).length = 1 := by rw [List.length_cons]; omega
  rw [e, List.drop_succ_cons, List.drop_zero, List.length_cons, Nat.add_sub_cancel, List.take_length]
theorem cutV_nil (lo hi : Option Int) : cutV [] lo hi = [] := by
  unfold cutV
  rw [List.drop_nil, List.take_nil]
/-- all of them truth values, all true -/
theorem all_reps (j : Nat) : (List.replicate j true).all id = true := by simp
theorem w_zipT {K : PySem.W.Frag} {a b : Addr} {xs ys : List V} {n : Nat} (hn : n = min xs.length ys.length) {H1 : Hp} {Qd : Hp → Prop} {B : V → Hp → (Hp → Prop) → Prop} (Pv : Nat → Hp → Prop) (h0 : Pv 0 H1) (hl : ∀ i H, i ≤ n → Pv i H → SqT K H a xs ∧ SqT K H b ys)
    (hs : ∀ i x y T H, xs[i]? = some x → ys[i]? = some y → Pv i H → H T = none → B (.ref T) (upd H T (.tup [x, y])) (Pv (i + 1))) (hd : ∀ H, Pv n H → Qd H) : G.Walked (ItzT K a b) H1 Qd B := by
  subst hn
  refine ⟨fun i m H => m = min xs.length ys.length - i ∧ i ≤ min xs.length ys.length ∧ Pv i H, ⟨_, rfl, Nat.zero_le _, h0⟩, ?_⟩
  rintro i m H ⟨rfl, hi, p⟩
  obtain ⟨qx, qy⟩ := hl i H hi p
  by_cases hlt : i < min xs.length ys.length
  · have hx : xs[i]? = some (xs[i]'(by omega)) := List.getElem?_eq_getElem (by omega)
    have hy : ys[i]? = some (ys[i]'(by omega)) := List.getElem?_eq_getElem (by omega)
    refine .inr ⟨⟨xs, ys, _, _, qx, qy, hx, hy⟩, Pv (i + 1), fun H' p' => ⟨min xs.length ys.length - (i + 1), by omega, rfl, hlt, p'⟩, fun v H' y => ?_⟩
    obtain ⟨T, x', y', rfl, hT, rfl, f1, f2⟩ := y
    exact hs i x' y' T H (f1 xs qx) (f2 ys qy) p hT
  · refine .inl ⟨⟨xs, ys, qx, qy, by omega⟩, hd H ?_⟩
    have e : i = min xs.length ys.length := by omega
    exact e ▸ p
theorem dp_nvL {K : PySem.W.Frag} {H : Hp} : ∀ l : List Nat, DpAll K H (nv l) (l.map fun n : Nat => PyData.int (n : Int))
  | [] => .nil
  | n :: l => .cons (.int _) (dp_nvL l)
section
variable {P : Program} {w : World} {K : PySem.W.Frag} {mg : Str → Option Value} {base : Heap}
/-! ### are_ascending, of an ascending tuple -/
def spAsc (K : PySem.W.Frag) : Sp := fun vs H Q _ => ∃ (wd : Nat) (m : Int) (p : Addr) (g : List Nat), vs = [.int (wd : Int), .ref p, .int m] ∧ wd ≤ 1000 ∧ H p = some (.tup (nv g)) ∧ (g.length : Int) ≤ m ∧ g.length ≤ 1000 ∧ (∀ x ∈ g, x < 2 ^ wd) ∧ g.Pairwise (· < ·) ∧
  ∀ H', Same H H' → Q (.bl true) H'
theorem scAsc : FnScope ["width", "value", "most", "one", "other"] ["width", "value", "most"] (defScope sAsc) := ⟨rfl, rfl, rfl, by decide +kernel, rfl, by decide +kernel, by decide +kernel⟩
theorem ok_asc {f f1 f2 f3 : Addr} {fd fd1 fd2 fd3 : FuncData} (A0 : At K mg "are_ascending" sAsc ["width", "value", "most"] f fd) (A1 : At K mg "is_int" sIsInt ["value"] f1 fd1)
    (A2 : At K mg "is_address" sIsAddr ["width", "value"] f2 fd2) (A3 : At K mg "are_addresses" sAreAddrs ["width", "value", "most"] f3 fd3) (T : Txt K mg) : FnOk P w K mg base CX0 4 f fd ["width", "value", "most"] (spAsc K) := by
  have G3 : FnOk P w K mg base CX0 3 f3 fd3 ["width", "value", "most"] (spAreAddrs K) := ok_areAddrs A3 A1 A2 T
  refine A0.fn.ok scAsc (fun vs H Q E h => ?_) (fun cdv A outer s H vs Q E hr h => ?_)
  · obtain ⟨wd, m, p, g, rfl, _⟩ := h
    rfl
  · obtain ⟨wd, m, p, g, rfl, w1, hp, hm, hl, hin, asc, k⟩ := h
    refine ⟨_, pss_cons (ps_if (pt_not (pt_val (pe_call G3 hr (by rfl) A3.mg A3.fn.kp A3.bi .nil pass0 (pa_cons (pv 0) (pa_cons (pv 1) (pa_cons (pv 2) pa_nil)))))) (pss_one (ps_ret pe_bl)) pss_nil)
      (pss_one (ps_ret (pe_callB (cr_all rfl) (by rfl) T.all (by decide +kernel) (pa_cons (pe_lc (own := [("one", 3), ("other", 4)]) (g := gTup K 2 (gCons (gName 3) (gCons (gName 4) gNil))) (tt := tYes) rfl scAsc.nd
        (pi_zipA (by rfl) T.zip (pa_cons (pv 1) (pa_cons (pe_slice sl_T (pv 1) (po_some pe_int) po_none) pa_nil))) (blkOk_by (N := ["width", "value", "most", "one", "other"]) (sc := defScope sAsc) (by decide +kernel))
        (fun _ _ _ _ _ => by exact pg_tup rfl (pgs_cons (pg_name (i := 3) scAsc.nd rfl (Or.inl rfl)) (pgs_cons (pg_name (i := 4) scAsc.nd rfl (Or.inl rfl)) pgs_nil))) (fun _ _ _ _ _ => pts_nil)
        (fun _ _ _ _ _ => pe_cmpR op_lt (pv 3) (pv 4) (nomark _))) pa_nil)))), ?_⟩
    refine ⟨_, rfl, _, rfl, _, rfl, _, m, p, g.map (fun n : Nat => (n : Int)), rfl, by omega, by omega, by rw [← nv_ints]; exact hp, by rw [List.length_map]; exact hm, by rw [List.length_map]; exact hl, inw_nv hin, fun H1 sm1 => ⟨_, rfl, iteF ?_⟩⟩
    have hp1 := sm1 _ _ hp
    refine ⟨_, rfl, _, rfl, _, rfl, p, nv g, rfl, hp1, fun r H2 sm2 hr2 => ?_⟩
    have hp2 := sm2 _ _ hp1
    have er : cutV (nv g) (some 1) none = nv g.tail := by
      cases g with
      | nil => exact cutV_nil _ _
      | cons x g => exact cutV_from1 _ _
    rw [er] at hr2
    refine ⟨p, r, _, _, rfl, .inr ⟨SqT.of hp2, SqT.of hr2, fun D hD => ?_⟩⟩
    refine w_zipT (n := g.length - 1) (by rw [nv_len, nv_len, List.length_tail]; omega) (fun i H' => (∀ c u, c ≠ D → H2 c = some u → H' c = some u) ∧ H' D = some (.lst ((List.replicate i true).map V.bl))) ⟨fun c u n e => by rw [upd_ne n]; exact e, upd_same⟩
      (fun i H' _ ⟨s1, _⟩ => ⟨SqT.of (s1 _ _ (ne_of_none hp2 hD) hp2), SqT.of (s1 _ _ (ne_of_none hr2 hD) hr2)⟩) ?_ ?_
    · rintro i x y T' H3 hx hy ⟨s1, hd⟩ hT
      obtain ⟨a, ea, rfl, hi⟩ := nv_at hx
      obtain ⟨b, eb, rfl, hj⟩ := nv_at hy
      have nTD : D ≠ T' := ne_of_none hd hT
      rw [List.length_tail] at hj
      have hlt : a < b := by
        rw [List.getElem?_tail] at eb
        have h1 := (List.getElem?_eq_some_iff.mp ea)
        have h2 := (List.getElem?_eq_some_iff.mp eb)
        obtain ⟨_, h1⟩ := h1
        obtain ⟨_, h2⟩ := h2
        rw [← h1, ← h2]
        exact List.pairwise_iff_getElem.mp asc i (i + 1) _ _ (by omega)
      refine ⟨T', _, rfl, SqT.of upd_same, rfl, _, _, rfl, _, _, rfl, rfl, rfl, yes (iteT ?_)⟩
      refine ⟨_, rfl, _, rfl, _, _, rfl, rfl, _, by rw [upd_ne nTD]; exact hd, ?_, ?_, ?_⟩
      · rw [List.length_map, List.length_replicate]
        exact Nat.lt_trans hi (Nat.lt_of_le_of_lt hl (by decide))
      · intro c u n e
        rw [upd_ne n, upd_ne (ne_of_none (s1 c u n e) hT)]
        exact s1 c u n e
      · rw [upd_same, List.replicate_succ', List.map_append]
        show some (HO.lst (_ ++ [V.bl (decide ((a : Int) < (b : Int)))])) = _
        rw [decide_eq_true (Int.ofNat_lt.mpr hlt)]
        rfl
    · rintro H3 ⟨s1, hd⟩
      refine ⟨D, _, rfl, SqL.of hd, ?_⟩
      rw [all_reps]
      exact k H3 fun c u e => s1 c u (ne_of_none (sm2 _ _ (sm1 c u e)) hD) (sm2 _ _ (sm1 c u e))
/-! ### are_differences_of, check_differences -/
/-- differences of the width -/
structure Dif (wd : Nat) (g : List Nat) : Prop where
  lt : ∀ x ∈ g, x < 2 ^ wd
  asc : g.Pairwise (· < ·)
  pos : ∀ x ∈ g, 0 < x
def spAreDiffs (K : PySem.W.Frag) : Sp := fun vs H Q _ => ∃ (wd : Nat) (p : Addr) (g : List Nat), vs = [.int (wd : Int), .ref p] ∧ 1 ≤ wd ∧ wd ≤ 16 ∧ H p = some (.tup (nv g)) ∧ Dif wd g ∧ g.length ≤ 1000 ∧ g.length ≤ 2 ^ wd ∧ ∀ H', Same H H' → Q (.bl true) H'
theorem scAreDiffs : FnScope ["width", "value"] ["width", "value"] (defScope sAreDiffs) := ⟨rfl, rfl, rfl, by decide +kernel, rfl, by decide +kernel, by decide +kernel⟩
theorem cut_one (g : List Nat) : cutV (nv g) none (some 1) = nv (g.take 1) := by
  unfold cutV
  rw [HT.sIx_none, show (some (1 : Int)) = some ((1 : Nat) : Int) from rfl, HT.sIx_nat, nv_len, List.drop_zero, Nat.sub_zero]
  unfold nv
  rw [← List.map_take]
  cases g with
  | nil => rfl
  | cons a g => rw [show min 1 (a :: g).length = 1 by rw [List.length_cons]; omega]
theorem ok_areDiffs {f f1 f2 f3 f4 : Addr} {fd fd1 fd2 fd3 fd4 : FuncData} (A0 : At K mg "are_differences_of" sAreDiffs ["width", "value"] f fd) (A1 : At K mg "is_int" sIsInt ["value"] f1 fd1) (A2 : At K mg "is_address" sIsAddr ["width", "value"] f2 fd2)
    (A3 : At K mg "are_addresses" sAreAddrs ["width", "value", "most"] f3 fd3) (A4 : At K mg "are_ascending" sAsc ["width", "value", "most"] f4 fd4) (T : Txt K mg) : FnOk P w K mg base CX0 5 f fd ["width", "value"] (spAreDiffs K) := by
  have G4 : FnOk P w K mg base CX0 4 f4 fd4 ["width", "value", "most"] (spAsc K) := ok_asc A4 A1 A2 A3 T
  refine A0.fn.ok scAreDiffs (fun vs H Q E h => ?_) (fun cdv A outer s H vs Q E hr h => ?_)
  · obtain ⟨wd, p, g, rfl, _⟩ := h
    rfl
  · obtain ⟨wd, p, g, rfl, w1, w16, hp, hg, hl, hl2, k⟩ := h
    refine ⟨_, pss_one (ps_ret (pe_and (pe_call G4 hr (by rfl) A4.mg A4.fn.kp A4.bi .nil pass0 (pa_cons (pv 0) (pa_cons (pv 1) (pa_cons (pe_op op_shl pe_int (pv 0)) pa_nil))))
      (pe_one (pe_cmpR (op_neD hr.units) (pe_slice sl_T (pv 1) po_none (po_some pe_int)) (pe_tup (pa_cons pe_int pa_nil)) (nomark _))))), ?_⟩
    have e2 : (1 : Int) * 2 ^ ((wd : Int)).toNat = ((2 ^ wd : Nat) : Int) := by rw [Int.one_mul, Int.toNat_natCast, pow_cast]
    refine ⟨_, rfl, _, rfl, _, rfl, _, _, rfl, rfl, ⟨by omega, by omega, by decide⟩, wd, ((2 ^ wd : Nat) : Int), p, g, (by show [V.int (wd : Int), V.ref p, V.int (1 * 2 ^ ((wd : Int)).toNat)] ++ [] = _; rw [e2]; rfl), by omega, hp, Int.ofNat_le.mpr hl2, hl, hg.lt, hg.asc, fun H1 sm1 => ⟨_, rfl, iteT ?_⟩⟩
    refine ⟨_, rfl, _, rfl, p, nv g, rfl, sm1 _ _ hp, fun r H2 sm2 hr2 => ?_⟩
    rw [cut_one] at hr2
    refine ⟨by show 1 ≤ sizeLine; decide, fun t ht => ?_⟩
    refine ⟨.tuple ((g.take 1).map fun n : Nat => .int (n : Int)), .tuple [.int 0], .tup (SqT.of (new_at hr2 ht)) (dp_nvL _), .tup (SqT.of upd_same) (.cons (.int _) .nil), ?_, rfl, ?_⟩
    · cases g with
      | nil => rfl
      | cons a g => rfl
    refine qv ?_ (k _ (keep_new (sm1.trans sm2) ht))
    cases g with
    | nil => rfl
    | cons a g =>
      have h0 := hg.pos a (List.mem_cons_self ..)
      show V.bl (!(((a : Int) == 0) && true)) = _
      rw [show ((a : Int) == 0) = false from beq_eq_false_iff_ne.mpr (by omega)]
      rfl
def spCkDiffs (K : PySem.W.Frag) : Sp := fun vs H Q _ => ∃ (wd : Nat) (p : Addr) (g : List Nat), vs = [.int (wd : Int), .ref p] ∧ 1 ≤ wd ∧ wd ≤ 16 ∧ H p = some (.tup (nv g)) ∧ Dif wd g ∧ g.length ≤ 1000 ∧ g.length ≤ 2 ^ wd ∧ ∀ H', Same H H' → Q .non H'
theorem scCkDiffs : FnScope ["width", "differences"] ["width", "differences"] (defScope sCkDiffs) := ⟨rfl, rfl, rfl, by decide +kernel, rfl, by decide +kernel, by decide +kernel⟩
theorem ok_ckDiffs {f f1 f2 f3 f4 f5 : Addr} {fd fd1 fd2 fd3 fd4 fd5 : FuncData} (A0 : At K mg "check_differences" sCkDiffs ["width", "differences"] f fd) (A1 : At K mg "is_int" sIsInt ["value"] f1 fd1) (A2 : At K mg "is_address" sIsAddr ["width", "value"] f2 fd2)
    (A3 : At K mg "are_addresses" sAreAddrs ["width", "value", "most"] f3 fd3) (A4 : At K mg "are_ascending" sAsc ["width", "value", "most"] f4 fd4) (A5 : At K mg "are_differences_of" sAreDiffs ["width", "value"] f5 fd5) (T : Txt K mg) : FnOk P w K mg base CX0 6 f fd ["width", "differences"] (spCkDiffs K) := by
  have G5 : FnOk P w K mg base CX0 5 f5 fd5 ["width", "value"] (spAreDiffs K) := ok_areDiffs A5 A1 A2 A3 A4 T
  refine A0.fn.ok scCkDiffs (fun vs H Q E h => ?_) (fun cdv A outer s H vs Q E hr h => ?_)
  · obtain ⟨wd, p, g, rfl, _⟩ := h
    rfl
  · obtain ⟨wd, p, g, rfl, w1, w16, hp, hg, hl, hl2, k⟩ := h
    refine ⟨_, pss_one (ps_if (pt_not (pt_val (pe_call G5 hr (by rfl) A5.mg A5.fn.kp A5.bi .nil pass0 (pa_cons (pv 0) (pa_cons (pv 1) pa_nil))))) (pss_one ps_never) pss_nil), ?_⟩
    exact ⟨_, rfl, _, rfl, wd, p, g, rfl, w1, w16, hp, hg, hl, hl2, fun H' sm => ⟨_, rfl, iteF (k H' sm)⟩⟩
end
end X1
set_option Elab.async false
set_option maxRecDepth 100000
set_option maxHeartbeats 4000000
namespace X1
open PySem L2
open GF (pc par pc_0 pc_eq par_lt InS Can Red Els All Part Orth bk cols)
theorem sum_2 (f g : Nat → Int) (h : ∀ i, g i = 2 * f i) : ∀ l : List Nat, (l.map g).sum = 2 * (l.map f).sum
  | [] => rfl
  | i :: l => by
    rw [List.map_cons, List.map_cons, List.sum_cons, List.sum_cons, sum_2 f g h l, h]
    omega
theorem bank_bk : ∀ (vv : List Nat) (a : Nat), bankOf (vv.map fun n : Nat => (n : Int)) (a : Int) = (bk vv a : Int)
  | [], _ => rfl
  | v :: vv, a => by
    have ih := bank_bk vv a
    unfold bankOf bits at ih ⊢
    rw [List.map_cons, List.length_cons, List.range_succ_eq_map, List.map_cons, List.sum_cons, List.map_map]
    rw [sum_2 (bitOf (vv.map fun n : Nat => (n : Int)) (a : Int)) _ (fun i => ?_), ih]
    · show (par (a &&& v) : Int) * 2 ^ 0 + 2 * (bk vv a : Int) = ((GF.dot a v + 2 * bk vv a : Nat) : Int)
      unfold GF.dot
      rw [Int.pow_zero, Int.mul_one]
      omega
    · show (par (a &&& ((((v : Int) :: vv.map fun n : Nat => (n : Int)).getD (i + 1) 0).toNat)) : Int) * 2 ^ (i + 1) = 2 * ((par (a &&& (((vv.map fun n : Nat => (n : Int)).getD i 0).toNat)) : Int) * 2 ^ i)
      rw [show ((v : Int) :: vv.map fun n : Nat => (n : Int)).getD (i + 1) 0 = (vv.map fun n : Nat => (n : Int)).getD i 0 from rfl, Int.pow_succ]
      rw [← Int.mul_assoc, Int.mul_comm _ 2]
section
variable {P : Program} {w : World} {K : PySem.W.Frag} {mg : Str → Option Value} {base : Heap}
/-! ### bank_of -/
def spBankOf : Sp := fun vs H Q _ => ∃ (p : Addr) (ms : List Int) (a : Int), vs = [.ref p, .int a] ∧ H p = some (.tup (ms.map V.int)) ∧ ms.length ≤ 16 ∧ (∀ m ∈ ms, 0 ≤ m) ∧ 0 ≤ a ∧ a < 65536 ∧ ∀ H', Same H H' → Q (.int (bankOf ms a)) H'
theorem scBankOf : FnScope ["masks", "address", "index", "mask"] ["masks", "address"] (defScope sBankOf) := ⟨rfl, rfl, rfl, by decide +kernel, rfl, by decide +kernel, by decide +kernel⟩
theorem ok_bankOf {f f1 f8 : Addr} {fd fd1 fd8 : FuncData} (A0 : At K mg "bank_of" sBankOf ["masks", "address"] f fd) (A1 : At K mg "is_int" sIsInt ["value"] f1 fd1) (A8 : At K mg "parity" sParity ["number"] f8 fd8) (T : Txt K mg) : FnOk P w K mg base CX0 3 f fd ["masks", "address"] spBankOf := by
  have G8 : FnOk P w K mg base CX0 2 f8 fd8 ["number"] spParity := ok_parity A8 A1 T
  refine A0.fn.ok scBankOf (fun vs H Q E h => ?_) (fun cdv A outer s H vs Q E hr h => ?_)
  · obtain ⟨p, ms, a, rfl, _⟩ := h
    rfl
  · obtain ⟨p, ms, a, rfl, hp, hl, hin, a0, a1, k⟩ := h
    refine ⟨_, (pss_one (ps_ret (pe_callB (cr_sum rfl) (by rfl) T.sum (by decide +kernel) (pa_cons (pe_lc (own := [("index", 2), ("mask", 3)]) (g := gTup K 2 (gCons (gName 2) (gCons (gName 3) gNil))) (tt := tYes) rfl scBankOf.nd (G.pi_enumT (by rfl) T.enum (pa_cons (pv 0) pa_nil)) (blkOk_by (N := ["masks", "address", "index", "mask"]) (sc := defScope sBankOf) (by decide +kernel)) (fun _ _ _ _ _ => by exact pg_tup rfl (pgs_cons (pg_name (i := 2) scBankOf.nd rfl (Or.inl rfl)) (pgs_cons (pg_name (i := 3) scBankOf.nd rfl (Or.inl rfl)) pgs_nil))) (fun _ _ _ _ _ => pts_nil)
      (fun _ _ _ _ _ => pe_op op_shl (pe_call G8 hr (by rfl) A8.mg A8.fn.kp A8.bi .nil pass0 (pa_cons (pe_op op_and (pv 1) (pv 3)) pa_nil)) (pv 2))) pa_nil)))), ?_⟩
    have hbig : a.toNat < 2 ^ 2000 := Nat.lt_of_lt_of_le (show a.toNat < 65536 by omega) (by decide +kernel)
    refine ⟨_, rfl, p, _, rfl, SqT.of hp, fun D hD => ?_⟩
    have npD : p ≠ D := ne_of_none hp hD
    refine lc_it (G.walk_enumT (K := K) (a := p) (xs := ms.map V.int)) (fun i H' => (∀ b o, b ≠ D → H b = some o → H' b = some o) ∧ H' D = some (.lst (((bits ms a).take i).map V.int))) ⟨fun b o n e => by rw [upd_ne n]; exact e, upd_same⟩
      (fun i H' _ ⟨s1, _⟩ => SqT.of (s1 _ _ npD hp)) ?_ ?_
    · rintro i x H2 H3 hi ⟨s1, hd⟩ ⟨Tp, x1, x2, rfl, hT, rfl, e1, e2⟩
      cases e1
      obtain ⟨m, em, rfl, hil, eg⟩ := at_map e2
      have hm := hin m (List.mem_of_getElem? em)
      have nTD : D ≠ Tp := ne_of_none hd hT
      refine ⟨Tp, _, rfl, SqT.of upd_same, rfl, _, _, rfl, _, _, rfl, rfl, rfl, yes (iteT ?_)⟩
      refine ⟨_, rfl, _, rfl, _, _, rfl, rfl, (a.toNat &&& m.toNat), ?_, Nat.lt_of_le_of_lt Nat.and_le_left hbig, _, rfl, _, _, rfl, rfl, ⟨by omega, by omega, ?_⟩, _, by rw [upd_ne nTD]; exact hd, ?_, ?_⟩
      · show [V.int (Builtin.bitAnd a m)] ++ [] = _
        rw [PyProof.Rows.bitAnd_pp a0 hm]
        rfl
      · have := par_lt (a.toNat &&& m.toNat)
        omega
      · rw [List.length_map, List.length_take, bits_length]
        exact Nat.lt_of_le_of_lt (Nat.min_le_left _ _) (Nat.lt_trans hil (Nat.lt_of_le_of_lt hl (by decide)))
      · refine ⟨fun b o n e => ?_, ?_⟩
        · rw [upd_ne n, upd_ne (ne_of_none (s1 b o n e) hT)]
          exact s1 b o n e
        · rw [upd_same, ← bits_next ms a hil, List.map_append]
          unfold bitOf
          rw [eg]
          rfl
    · rintro H' ⟨s1, hd⟩
      rw [List.length_map, List.take_of_length_le (by rw [bits_length]; exact Nat.le_refl _)] at hd
      exact ⟨D, _, rfl, SqL.of hd, k H' fun b o e => s1 b o (ne_of_none e hD) e⟩
/-! ### bank -/
def spBank (K : PySem.W.Frag) : Sp := fun vs H Q _ => ∃ (wd : Nat) (p : Addr) (vv : List Nat) (a : Nat), vs = [.int (wd : Int), .ref p, .int (a : Int)] ∧ 1 ≤ wd ∧ wd ≤ 16 ∧ H p = some (.tup (nv vv)) ∧ vv.length ≤ 16 ∧ (∀ v ∈ vv, v < 2 ^ wd) ∧ a < 2 ^ wd ∧
  ∀ (H' : Hp), Same H H' → Q (.int (bk vv a : Int)) H'
theorem scBank : FnScope ["width", "masks", "address"] ["width", "masks", "address"] (defScope sBank) := ⟨rfl, rfl, rfl, by decide +kernel, rfl, by decide +kernel, by decide +kernel⟩
theorem nn_cast (vv : List Nat) : ∀ m ∈ vv.map (fun n : Nat => (n : Int)), 0 ≤ m := fun m hm => by
  obtain ⟨n, _, rfl⟩ := List.mem_map.mp hm
  exact Int.natCast_nonneg n
theorem p16_le {wd : Nat} (h : wd ≤ 16) : 2 ^ wd ≤ 65536 := by
  have e : ∀ j : Nat, j < 17 → 2 ^ j ≤ 65536 := by decide
  exact e wd (by omega)
theorem ok_bank {f f1 f2 f3 f4 f5 f6 f7 f8 f9 : Addr} {fd fd1 fd2 fd3 fd4 fd5 fd6 fd7 fd8 fd9 : FuncData} (A0 : At K mg "bank" sBank ["width", "masks", "address"] f fd) (A1 : At K mg "is_int" sIsInt ["value"] f1 fd1) (A2 : At K mg "is_address" sIsAddr ["width", "value"] f2 fd2)
    (A3 : At K mg "are_addresses" sAreAddrs ["width", "value", "most"] f3 fd3) (AK : At K mg "are_masks" sAreMasks ["width", "value"] f4 fd4) (AW : At K mg "check_width" sCkWidth ["width"] f5 fd5) (AM : At K mg "check_map" sCkMap ["width", "masks"] f6 fd6) (AC : At K mg "check_address" sCkAddr ["width", "address"] f7 fd7)
    (AP : At K mg "parity" sParity ["number"] f8 fd8) (AB : At K mg "bank_of" sBankOf ["masks", "address"] f9 fd9) (T : Txt K mg) : FnOk P w K mg base CX0 6 f fd ["width", "masks", "address"] (spBank K) := by
  have GW : FnOk P w K mg base CX0 3 f5 fd5 ["width"] spCkWidth := ok_ckWidth AW A1 T
  have GM : FnOk P w K mg base CX0 5 f6 fd6 ["width", "masks"] (spCkMap K) := ok_ckMap AM A1 A2 A3 AK T
  have GC : FnOk P w K mg base CX0 3 f7 fd7 ["width", "address"] spCkAddr := ok_ckAddr AC A1 A2 T
  have GB : FnOk P w K mg base CX0 3 f9 fd9 ["masks", "address"] spBankOf := ok_bankOf AB A1 AP T
  refine A0.fn.ok scBank (fun vs H Q E h => ?_) (fun cdv A outer s H vs Q E hr h => ?_)
  · obtain ⟨wd, p, vv, a, rfl, _⟩ := h
    rfl
  · obtain ⟨wd, p, vv, a, rfl, w1, w2, hp, hl, hin, ha, k⟩ := h
    have hr2 : Room 2 _ := hr.mono (by decide)
    have hr3 : Room 3 _ := hr.mono (by decide)
    refine ⟨_, pss_cons (ps_expr (pe_call GW (hr.mono (by decide)) (by rfl) AW.mg AW.fn.kp AW.bi .nil pass0 (pa_cons (pv 0) pa_nil)))
      (pss_cons (ps_expr (pe_call GM hr (by rfl) AM.mg AM.fn.kp AM.bi .nil pass0 (pa_cons (pv 0) (pa_cons (pv 1) pa_nil))))
      (pss_cons (ps_expr (pe_call GC hr3 (by rfl) AC.mg AC.fn.kp AC.bi .nil pass0 (pa_cons (pv 0) (pa_cons (pv 2) pa_nil))))
      (pss_one (ps_ret (pe_call GB hr3 (by rfl) AB.mg AB.fn.kp AB.bi .nil pass0 (pa_cons (pv 1) (pa_cons (pv 2) pa_nil))))))), ?_⟩
    refine ⟨_, rfl, _, rfl, by omega, by omega, ?_⟩
    refine ⟨_, rfl, _, rfl, _, p, _, rfl, by omega, by omega, by rw [← nv_ints]; exact hp, by rw [List.length_map]; exact hl, inw_nv hin, fun H1 sm1 => ?_⟩
    have e2 : (2 : Int) ^ ((wd : Int)).toNat = ((2 ^ wd : Nat) : Int) := by rw [Int.toNat_natCast, pow_cast]
    have p16 := p16_le w2
    refine ⟨_, rfl, _, rfl, _, _, rfl, by omega, by omega, Int.natCast_nonneg _, by rw [e2]; exact Int.ofNat_lt.mpr ha, ?_⟩
    refine ⟨_, rfl, _, rfl, p, vv.map (fun n : Nat => (n : Int)), (a : Int), rfl, by rw [← nv_ints]; exact sm1 _ _ hp, by rw [List.length_map]; exact hl, nn_cast vv, Int.natCast_nonneg _, by omega, fun H2 sm2 => ?_⟩
    exact qv (by rw [bank_bk]) (k H2 (sm1.trans sm2))
/-! ### hidden -/
def hid (vv : List Nat) (g : List Nat) : List Nat := g.filter fun x => decide (bk vv x = 0)
def spHidden (K : PySem.W.Frag) : Sp := fun vs H Q _ => ∃ (wd : Nat) (p r : Addr) (vv g : List Nat), vs = [.int (wd : Int), .ref p, .ref r] ∧ 1 ≤ wd ∧ wd ≤ 16 ∧ H p = some (.tup (nv vv)) ∧ vv.length ≤ 16 ∧ (∀ v ∈ vv, v < 2 ^ wd) ∧ H r = some (.tup (nv g)) ∧ Dif wd g ∧ g.length ≤ 1000 ∧ g.length ≤ 2 ^ wd ∧
  ∀ (t : Addr) (H' : Hp), Same H H' → H' t = some (.tup (nv (hid vv g))) → Q (.ref t) H'
theorem scHidden : FnScope ["width", "masks", "differences", "difference"] ["width", "masks", "differences"] (defScope sHidden) := ⟨rfl, rfl, rfl, by decide +kernel, rfl, by decide +kernel, by decide +kernel⟩
theorem ok_hidden {f f1 f2 f3 f4 f5 f6 f7 f8 f9 fa fb : Addr} {fd fd1 fd2 fd3 fd4 fd5 fd6 fd7 fd8 fd9 fda fdb : FuncData} (A0 : At K mg "hidden" sHidden ["width", "masks", "differences"] f fd) (A1 : At K mg "is_int" sIsInt ["value"] f1 fd1) (A2 : At K mg "is_address" sIsAddr ["width", "value"] f2 fd2)
    (A3 : At K mg "are_addresses" sAreAddrs ["width", "value", "most"] f3 fd3) (AK : At K mg "are_masks" sAreMasks ["width", "value"] f4 fd4) (AS : At K mg "are_ascending" sAsc ["width", "value", "most"] fa fda) (AD : At K mg "are_differences_of" sAreDiffs ["width", "value"] fb fdb) (AW : At K mg "check_width" sCkWidth ["width"] f5 fd5) (AM : At K mg "check_map" sCkMap ["width", "masks"] f6 fd6) (AC : At K mg "check_differences" sCkDiffs ["width", "differences"] f7 fd7)
    (AP : At K mg "parity" sParity ["number"] f8 fd8) (AB : At K mg "bank_of" sBankOf ["masks", "address"] f9 fd9) (T : Txt K mg) : FnOk P w K mg base CX0 7 f fd ["width", "masks", "differences"] (spHidden K) := by
  have GW : FnOk P w K mg base CX0 3 f5 fd5 ["width"] spCkWidth := ok_ckWidth AW A1 T
  have GM : FnOk P w K mg base CX0 5 f6 fd6 ["width", "masks"] (spCkMap K) := ok_ckMap AM A1 A2 A3 AK T
  have GC : FnOk P w K mg base CX0 6 f7 fd7 ["width", "differences"] (spCkDiffs K) := ok_ckDiffs AC A1 A2 A3 AS AD T
  have GB : FnOk P w K mg base CX0 3 f9 fd9 ["masks", "address"] spBankOf := ok_bankOf AB A1 AP T
  refine A0.fn.ok scHidden (fun vs H Q E h => ?_) (fun cdv A outer s H vs Q E hr h => ?_)
  · obtain ⟨wd, p, r, vv, g, rfl, _⟩ := h
    rfl
  · obtain ⟨wd, p, r, vv, g, rfl, w1, w2, hp, hl, hin, hg, hD, l1, l2, k⟩ := h
    have hr2 : Room 2 _ := hr.mono (by decide)
    have hr3 : Room 3 _ := hr.mono (by decide)
    have hr5 : Room 5 _ := hr.mono (by decide)
    refine ⟨_, pss_cons (ps_expr (pe_call GW (hr.mono (by decide)) (by rfl) AW.mg AW.fn.kp AW.bi .nil pass0 (pa_cons (pv 0) pa_nil)))
      (pss_cons (ps_expr (pe_call GM hr5 (by rfl) AM.mg AM.fn.kp AM.bi .nil pass0 (pa_cons (pv 0) (pa_cons (pv 1) pa_nil))))
      (pss_cons (ps_expr (pe_call GC hr (by rfl) AC.mg AC.fn.kp AC.bi .nil pass0 (pa_cons (pv 0) (pa_cons (pv 2) pa_nil))))
      (pss_one (ps_ret (pe_callTy call_tuple_of (by rfl) T.tuple (by decide +kernel) (pa_cons (pe_lc (own := [("difference", 3)]) (g := gName 3) (tt := tTest (tOp rEq (tCall spBankOf [] E (tCons (tVar 1) (tCons (tVar 3) tNil))) (tC (V.int 0)))) rfl scHidden.nd (pi_tup (pv 2)) (blkOk_by (N := ["width", "masks", "differences", "difference"]) (sc := defScope sHidden) (by decide +kernel)) (fun _ _ _ _ _ => pg_name (i := 3) scHidden.nd rfl (Or.inl rfl))
        (fun _ _ _ _ _ => by exact pts_one (pt_cmpR op_eq (pe_call GB (hr.mono (by decide)) (by rfl) AB.mg AB.fn.kp AB.bi .nil pass0 (pa_cons (pv 1) (pa_cons (pv 3) pa_nil))) pe_int (nomark _))) (fun _ _ _ _ _ => pv 3)) pa_nil)))))), ?_⟩
    have p16 := p16_le w2
    refine ⟨_, rfl, _, rfl, by omega, by omega, ?_⟩
    refine ⟨_, rfl, _, rfl, _, p, _, rfl, by omega, by omega, by rw [← nv_ints]; exact hp, by rw [List.length_map]; exact hl, inw_nv hin, fun H1 sm1 => ?_⟩
    refine ⟨_, rfl, _, rfl, wd, r, g, rfl, w1, w2, sm1 _ _ hg, hD, l1, l2, fun H2 sm2 => ?_⟩
    have sm : Same H H2 := sm1.trans sm2
    refine ⟨_, rfl, r, rfl, ⟨_, SqT.of (sm _ _ hg)⟩, fun D hD0 => ?_⟩
    have nrD := ne_of_none (sm _ _ hg) hD0
    have npD := ne_of_none (sm _ _ hp) hD0
    refine G.w_tup (xs := nv g) (fun i H' => (∀ c u, c ≠ D → H2 c = some u → H' c = some u) ∧ H' D = some (.lst (nv (hid vv (g.take i))))) ⟨fun c u n e => by rw [upd_ne n]; exact e, upd_same⟩ (fun i H' _ ⟨s1, _⟩ => SqT.of (s1 _ _ nrD (sm _ _ hg))) ?_ ?_
    · rintro i x H3 hx ⟨s1, hd⟩
      obtain ⟨a, ea, rfl, hi⟩ := nv_at hx
      have ha := hD.lt a (List.mem_of_getElem? ea)
      have tk : g.take (i + 1) = g.take i ++ [a] := by rw [List.take_add_one, ea]; rfl
      refine ⟨rfl, ?_⟩
      refine ⟨_, rfl, _, rfl, p, vv.map (fun n : Nat => (n : Int)), (a : Int), rfl, by rw [← nv_ints]; exact s1 _ _ npD (sm _ _ hp), by rw [List.length_map]; exact hl, nn_cast vv, Int.natCast_nonneg _, by omega, fun H4 sm4 => ?_⟩
      rw [bank_bk]
      have s4 : ∀ c u, c ≠ D → H2 c = some u → H4 c = some u := fun c u n e => sm4 _ _ (s1 c u n e)
      have hd4 := sm4 _ _ hd
      refine ⟨rfl, _, rfl, ?_⟩
      by_cases hb : bk vv a = 0
      · refine iteTb ?_ ?_
        · rw [hb]
          exact decide_eq_true rfl
        · refine ⟨_, rfl, _, hd4, ?_, fun c u n e => by rw [upd_ne n]; exact s4 c u n e, ?_⟩
          · rw [nv_len]
            refine Nat.lt_of_le_of_lt (List.length_filter_le _ _) ?_
            rw [List.length_take, sizeLine_eq]
            omega
          · rw [upd_same, tk]
            unfold hid
            rw [List.filter_append, List.filter_cons_of_pos (by exact decide_eq_true hb), List.filter_nil]
            unfold nv
            rw [List.map_append]
            rfl
      · refine iteFb ?_ ?_
        · refine decide_eq_false fun z => hb ?_
          have := V.int.inj z
          omega
        · refine ⟨s4, ?_⟩
          rw [hd4, tk]
          unfold hid
          rw [List.filter_append, List.filter_cons_of_neg (by rw [decide_eq_false hb]; decide), List.filter_nil, List.append_nil]
    · rintro H3 ⟨s1, hd⟩
      rw [nv_len, List.take_length] at hd
      refine ⟨D, _, rfl, .inl ⟨SqL.of hd, fun t ht => ?_⟩⟩
      have s3 : Same H2 H3 := fun c u e => s1 c u (ne_of_none e hD0) e
      exact k t _ (keep_new (sm.trans s3) ht) upd_same
end
end X1
set_option Elab.async false
set_option maxRecDepth 100000
set_option maxHeartbeats 4000000
namespace X1
open PySem L2
open GF (pc par pc_0 pc_eq par_lt InS Can Red Indep comb lift InvM bk)
/-! ### tuples of numbers, put together -/
theorem nv_app (a b : List Nat) : nv (a ++ b) = nv a ++ nv b := by unfold nv; rw [List.map_append]
theorem nv_nil {l : List Nat} (h : nv l = []) : l = [] := by
  unfold nv at h
  exact List.map_eq_nil_iff.mp h
section
variable {X : Cx}
def rCatN (K : PySem.W.Frag) : R2 := fun x y H Q => ∃ (a b : Addr) (xs ys : List Nat), x = .ref a ∧ y = .ref b ∧ H a = some (.tup (nv xs)) ∧ H b = some (.tup (nv ys)) ∧ xs.length + ys.length ≤ 1000 ∧ ∀ (r : Addr) (H' : Hp), Same H H' → H' r = some (.tup (nv (xs ++ ys))) → Q (.ref r) H'
theorem op_catN : OpR X (binaryOp .Add) (rCatN X.K) := fun pins s σ H x y v u Q I rx ry h => op_catA pins s σ H x y v u Q I rx ry (by
  obtain ⟨a, b, xs, ys, rfl, rfl, ha, hb, hl, k⟩ := h
  refine ⟨a, b, nv xs, nv ys, rfl, rfl, SqT.of ha, SqT.of hb, by rw [nv_len, nv_len]; exact Nat.le_trans hl (by decide), fun e => ?_, fun _ e => ?_, fun _ _ p hp => ?_⟩
  · have e := nv_nil e
    subst e
    exact k b H (Same.refl H) hb
  · have e := nv_nil e
    subst e
    exact k a H (Same.refl H) (by rw [List.append_nil]; exact ha)
  · exact k p _ (keep_new (Same.refl H) hp) (by rw [upd_same, nv_app]))
end
section
variable {P : Program} {w : World} {K : PySem.W.Frag} {mg : Str → Option Value} {base : Heap}
/-! ### recoded -/
def Made (vv os R : List Nat) : Prop := R.length = os.length ∧ ∀ (j r o : Nat), R[j]? = some r → os[j]? = some o → r < 2 ^ vv.length ∧ comb vv r = o
def spRec (K : PySem.W.Frag) : Sp := fun vs H Q _ => ∃ (p q : Addr) (vv os : List Nat), vs = [.ref p, .ref q] ∧ H p = some (.tup (nv vv)) ∧ H q = some (.tup (nv os)) ∧ vv.length ≤ 16 ∧ os.length ≤ 16 ∧ (∀ v ∈ vv, v < 65536) ∧ (∀ v ∈ os, v < 65536) ∧
  ((∀ o ∈ os, InS vv o) → ∀ (R : List Nat) (t : Addr) (H' : Hp), Made vv os R → Same H H' → H' t = some (.tup (nv R)) → Q (.ref t) H') ∧ ((¬ ∀ o ∈ os, InS vv o) → ∀ H', Same H H' → Q .non H')
theorem scRec : FnScope ["masks", "others", "size", "rows", "made", "index", "mask", "other", "choice"] ["masks", "others"] (defScope sRec) := ⟨rfl, rfl, rfl, by decide +kernel, rfl, by decide +kernel, by decide +kernel⟩
theorem lift_next {vv : List Nat} {n i v : Nat} (h : vv[i]? = some v) : (lift vv n).take i ++ [v * 2 ^ n ^^^ 2 ^ i] = (lift vv n).take (i + 1) := by
  have e := GF.liftA_at n 0 vv i
  rw [h, Nat.zero_add] at e
  rw [List.take_add_one]
  unfold lift
  rw [e]
  rfl
theorem lift_cast {v n i : Nat} (h : i < n) : Builtin.bitOr ((v : Int) * 2 ^ n) ((1 : Int) * 2 ^ i) = ((v * 2 ^ n ^^^ 2 ^ i : Nat) : Int) := by
  have e2 : (1 : Int) * 2 ^ i = ((2 ^ i : Nat) : Int) := by rw [Int.one_mul, pow_cast]
  have z : (v * 2 ^ n).testBit i = false := by
    rw [Nat.mul_comm, Nat.testBit_two_pow_mul, decide_eq_false (by omega)]
    rfl
  rw [e2, or_low (Int.natCast_nonneg v) (Int.natCast_nonneg _) (by rw [← pow_cast]; exact Int.ofNat_lt.mpr (Nat.pow_lt_pow_right (by decide) h)), ← GF.add_pow z, Int.natCast_add, Int.natCast_mul, pow_cast, pow_cast]
theorem ok_rec {f f1 f2 : Addr} {fd fd1 fd2 : FuncData} (A0 : At K mg "recoded" sRec ["masks", "others"] f fd) (AR : At K mg "reduced" sRed ["vectors"] f1 fd1) (AM : At K mg "remainder" sRem ["rows", "vector"] f2 fd2) (T : Txt K mg) :
    FnOk P w K mg base CX0 3 f fd ["masks", "others"] (spRec K) := by
  have GR : FnOk P w K mg base CX0 2 f1 fd1 ["vectors"] (spRed K false) := ok_redL AR AM T
  have GM : FnOk P w K mg base CX0 1 f2 fd2 ["rows", "vector"] (spRemT K) := ok_remT AM T
  refine A0.fn.ok scRec (fun vs H Q E h => ?_) (fun cdv A outer s H vs Q E hr h => ?_)
  · obtain ⟨p, q, vv, os, rfl, _⟩ := h
    rfl
  · obtain ⟨p, q, vv, os, rfl, hp, hq, l1, l2, b1, b2, k, kn⟩ := h
    have hr1 : Room 1 _ := hr.mono (by decide)
    have hr2 : Room 2 _ := hr.mono (by decide)
    refine ⟨_, (pss_cons (ps_set (i := 2) scRec.nd rfl (Or.inr rfl) (pe_callB call_len_seq (by rfl) T.len PySem.boot_len (pa_cons (pv 0) pa_nil)))
      (pss_cons (ps_set (i := 3) scRec.nd rfl (Or.inr rfl) (pe_call GR hr2 (by rfl) AR.mg AR.fn.kp AR.bi .nil pass0 (pa_cons (pe_lc (own := [("index", 5), ("mask", 6)]) (g := gTup K 2 (gCons (gName 5) (gCons (gName 6) (gNil)))) (tt := tYes) rfl scRec.nd (G.pi_enumT (by rfl) T.enum (pa_cons (pv 0) pa_nil)) (blkOk_by (N := ["masks", "others", "size", "rows", "made", "index", "mask", "other", "choice"]) (sc := defScope sRec) (by decide +kernel)) (fun _ _ _ _ _ => by exact pg_tup rfl (pgs_cons (pg_name (i := 5) scRec.nd rfl (Or.inl rfl)) (pgs_cons (pg_name (i := 6) scRec.nd rfl (Or.inl rfl)) pgs_nil))) (fun _ _ _ _ _ => pts_nil) (fun _ _ _ _ _ => (pe_op op_or (pe_op op_shl (pv 6) (pv 2)) (pe_op op_shl pe_int (pv 5))))) pa_nil)))
      (pss_cons (ps_setLc (i := 4) (own := [("other", 7)]) (g := gName 7) (tt := tYes) rfl scRec.nd rfl rfl (sw_true rfl rfl rfl (by decide +kernel)) (pi_tup (pv 1)) (blkOk_by (N := ["masks", "others", "size", "rows", "made", "index", "mask", "other", "choice"]) (sc := defScope sRec) (by decide +kernel)) (fun _ _ _ _ _ => pg_name (i := 7) scRec.nd rfl (Or.inl rfl)) (fun _ _ _ _ _ => pts_nil) (fun _ _ _ _ _ => (pe_call GM hr1 (by rfl) AM.mg AM.fn.kp AM.bi .nil pass0 (pa_cons (pv 3) (pa_cons (pe_op op_shl (pv 7) (pv 2)) pa_nil)))))
      (pss_cons (ps_if (pt_val (pe_callB (G.cr_anyI rfl) (by rfl) T.any (by decide +kernel) (pa_cons (pe_lc (own := [("choice", 8)]) (g := gName 8) (tt := tYes) rfl scRec.nd (pi_list (pv 4)) (blkOk_by (N := ["masks", "others", "size", "rows", "made", "index", "mask", "other", "choice"]) (sc := defScope sRec) (by decide +kernel)) (fun _ _ _ _ _ => pg_name (i := 8) scRec.nd rfl (Or.inl rfl)) (fun _ _ _ _ _ => pts_nil) (fun _ _ _ _ _ => (pe_op op_shr (pv 8) (pv 2)))) pa_nil))) (pss_one (ps_ret pe_non)) pss_nil)
      (pss_one (ps_ret (pe_callTy call_tuple_of (by rfl) T.tuple (by decide +kernel) (pa_cons (pv 4) pa_nil)))))))), ?_⟩
    refine ⟨_, rfl, p, _, rfl, .inr (SqT.of hp), ?_⟩
    rw [nv_len]
    generalize hn : vv.length = n at l1
    refine ⟨_, rfl, p, _, rfl, SqT.of hp, fun D hD => ?_⟩
    have npD : p ≠ D := ne_of_none hp hD
    refine lc_it (G.walk_enumT (K := K) (a := p) (xs := nv vv)) (fun i H' => (∀ b o, b ≠ D → H b = some o → H' b = some o) ∧ H' D = some (.lst (nv ((lift vv n).take i)))) ⟨fun b o n e => by rw [upd_ne n]; exact e, upd_same⟩
      (fun i H' _ ⟨s1, _⟩ => SqT.of (s1 _ _ npD hp)) ?_ ?_
    · rintro i x H1 H2 hi ⟨s1, hd⟩ ⟨Tp, x1, x2, rfl, hT, rfl, e1, e2⟩
      cases e1
      obtain ⟨m, em, rfl, hil⟩ := nv_at e2
      have hm := b1 m (List.mem_of_getElem? em)
      have nTD : D ≠ Tp := ne_of_none hd hT
      refine ⟨Tp, _, rfl, SqT.of upd_same, rfl, _, _, rfl, _, _, rfl, rfl, rfl, yes (iteT ?_)⟩
      refine ⟨_, rfl, _, rfl, _, _, rfl, rfl, ⟨by omega, by omega, by omega⟩, _, rfl, _, _, rfl, rfl, ⟨by omega, by omega, by decide⟩, _, _, rfl, rfl, _, by rw [upd_ne nTD]; exact hd, ?_, ?_, ?_⟩
      · rw [nv_len, List.length_take]
        exact Nat.lt_of_le_of_lt (Nat.min_le_left _ _) (Nat.lt_trans hil (Nat.lt_of_le_of_lt (hn ▸ l1) (by decide)))
      · intro b o n e
        rw [upd_ne n, upd_ne (ne_of_none (s1 b o n e) hT)]
        exact s1 b o n e
      · rw [upd_same, ← lift_next em]
        unfold nv
        rw [List.map_append]
        show some (HO.lst (_ ++ [V.int (Builtin.bitOr ((m : Int) * 2 ^ ((n : Int)).toNat) ((1 : Int) * 2 ^ ((i : Int)).toNat))])) = _
        rw [Int.toNat_natCast, Int.toNat_natCast, lift_cast (by omega)]
        rfl
    rintro H1 ⟨s1, hd1⟩
    have sm1 : Same H H1 := fun c u e => s1 c u (ne_of_none e hD) e
    have ll : (lift vv n).length = n := (GF.liftA_len n 0 vv).trans hn
    rw [nv_len, hn, List.take_of_length_le (by rw [ll]; exact Nat.le_refl _)] at hd1
    refine ⟨D, _, rfl, SqL.of hd1, by omega, fun rA L H2 _ sm2 hr2' _ RL _ hL => ⟨_, rfl, ?_⟩⟩
    have sm12 := sm1.trans sm2
    have hq2 := sm12 _ _ hq
    refine ⟨q, rfl, ⟨_, SqT.of hq2⟩, fun D2 hD2 => ?_⟩
    have nqD : q ≠ D2 := ne_of_none hq2 hD2
    have nrD : rA ≠ D2 := ne_of_none hr2' hD2
    let g : Nat → Nat := fun o => GF.rem L (o * 2 ^ n)
    refine lc_tup (K := K) (a := q) (xs := nv os) (fun i H' => (∀ b o, b ≠ D2 → H2 b = some o → H' b = some o) ∧ H' D2 = some (.lst (nv ((os.take i).map g)))) ⟨fun b o n e => by rw [upd_ne n]; exact e, upd_same⟩
      (fun i H' _ ⟨s2, _⟩ => SqT.of (s2 _ _ nqD hq2)) ?_ ?_
    · rintro i x H3 hx ⟨s2, hd⟩
      obtain ⟨o, eo, rfl, hi⟩ := nv_at hx
      have ho := b2 o (List.mem_of_getElem? eo)
      refine ⟨rfl, yes (iteT ?_)⟩
      refine ⟨_, rfl, _, rfl, _, rfl, _, _, rfl, rfl, ⟨by omega, by omega, by omega⟩, rA, L, o * 2 ^ n, ?_, SqT.of (s2 _ _ nrD hr2'), _, hd, ?_, ?_, ?_⟩
      · rw [Int.natCast_mul, pow_cast]
        rfl
      · rw [nv_len, List.length_map, List.length_take]
        exact Nat.lt_of_le_of_lt (Nat.min_le_right _ _) (Nat.lt_of_le_of_lt l2 (by decide))
      · exact fun b o n e => by rw [upd_ne n]; exact s2 b o n e
      · rw [upd_same, List.take_add_one, eo, List.map_append, nv_app]
        rfl
    rintro H3 ⟨s2, hd3⟩
    rw [nv_len, List.take_of_length_le (Nat.le_refl _)] at hd3
    have sm3 : Same H H3 := sm12.trans fun c u e => s2 c u (ne_of_none e hD2) e
    have key : ∀ o ∈ os, (g o < 2 ^ n ↔ InS vv o) ∧ (g o < 2 ^ n → comb vv (g o) = o ∧ g o < 2 ^ vv.length) := fun o _ => GF.rem_lift (by omega) RL hL
    refine ⟨_, rfl, ?_⟩
    refine ⟨D2, rfl, ⟨_, SqL.of hd3⟩, fun D4 hD4 => ?_⟩
    have nDD : D2 ≠ D4 := ne_of_none hd3 hD4
    refine lc_list (K := K) (a := D2) (xs := nv (os.map g)) (fun i H' => (∀ b o, b ≠ D4 → H3 b = some o → H' b = some o) ∧ H' D4 = some (.lst ((((os.map g).take i).map fun x : Nat => ((x : Int) / 2 ^ n)).map V.int))) ⟨fun b o n e => by rw [upd_ne n]; exact e, upd_same⟩
      (fun i H' _ ⟨s3, _⟩ => SqL.of (s3 _ _ nDD hd3)) ?_ ?_
    · rintro i x H4 hx ⟨s3, hd⟩
      obtain ⟨o, eo, rfl, hi⟩ := nv_at hx
      refine ⟨rfl, yes (iteT ?_)⟩
      refine ⟨_, rfl, _, rfl, _, _, rfl, rfl, by omega, _, hd, ?_, ?_, ?_⟩
      · rw [List.length_map, List.length_map, List.length_take]
        exact Nat.lt_of_le_of_lt (Nat.min_le_left _ _) (Nat.lt_trans hi (Nat.lt_of_le_of_lt (by rw [List.length_map]; exact l2) (by decide)))
      · exact fun b o n e => by rw [upd_ne n]; exact s3 b o n e
      · rw [upd_same, List.take_add_one, eo, List.map_append, List.map_append]
        rfl
    rintro H4 ⟨s3, hd4⟩
    rw [nv_len, List.take_of_length_le (Nat.le_refl _)] at hd4
    have sm4 : Same H H4 := sm3.trans fun c u e => s3 c u (ne_of_none e hD4) e
    refine ⟨D4, _, rfl, SqL.of hd4, _, rfl, ?_⟩
    have h3 := s3 _ _ nDD hd3
    by_cases c : ∀ o ∈ os, InS vv o
    · refine iteFb ?_ ?_
      · rw [List.any_eq_false]
        intro x hx
        obtain ⟨y, hy, rfl⟩ := List.mem_map.mp hx
        obtain ⟨o, ho, rfl⟩ := List.mem_map.mp hy
        have h := ((key o ho).1).mpr (c o ho)
        have e : ((g o : Nat) : Int) / 2 ^ n = 0 := by
          rw [← pow_cast, ← Int.natCast_ediv, Nat.div_eq_of_lt h]
          rfl
        rw [e]
        decide
      · refine ⟨_, rfl, D2, _, rfl, .inl ⟨SqL.of h3, fun t ht => ?_⟩⟩
        refine k c (os.map g) t _ ⟨List.length_map .., fun j r o hj ho => ?_⟩ (keep_new sm4 ht) upd_same
        rw [List.getElem?_map, ho] at hj
        cases hj
        have hm := List.mem_of_getElem? ho
        obtain ⟨h1, h2⟩ := key o hm
        obtain ⟨h3, h4⟩ := h2 (h1.mpr (c o hm))
        exact ⟨h4, h3⟩
    · refine iteTb ?_ (kn c H4 sm4)
      rw [List.any_eq_true]
      refine Classical.byContradiction fun z => c fun o ho => ((key o ho).1).mp ?_
      refine Nat.lt_of_not_le fun ge => z ⟨((g o : Nat) : Int) / 2 ^ n, List.mem_map.mpr ⟨g o, List.mem_map.mpr ⟨o, ho, rfl⟩, rfl⟩, ?_⟩
      rw [← pow_cast, ← Int.natCast_ediv]
      have : 1 ≤ g o / 2 ^ n := (Nat.le_div_iff_mul_le (Nat.two_pow_pos n)).mpr (by rw [Nat.one_mul]; exact ge)
      simp only [bne_iff_ne, ne_eq]
      omega
theorem p16 {wd v : Nat} (h : wd ≤ 16) (hv : v < 2 ^ wd) : v < 65536 := Nat.lt_of_lt_of_le hv (by
  have e : ∀ j : Nat, j < 17 → 2 ^ j ≤ 65536 := by decide
  exact e wd (by omega))
/-! ### recoding -/
def spRecg (K : PySem.W.Frag) : Sp := fun vs H Q _ => ∃ (wd : Nat) (p q : Addr) (vv os : List Nat), vs = [.int (wd : Int), .ref p, .ref q] ∧ 1 ≤ wd ∧ wd ≤ 16 ∧ H p = some (.tup (nv vv)) ∧ H q = some (.tup (nv os)) ∧ 1 ≤ vv.length ∧ vv.length ≤ 16 ∧ os.length ≤ 16 ∧ (∀ v ∈ vv, v < 2 ^ wd) ∧ (∀ v ∈ os, v < 2 ^ wd) ∧
  ((∀ o ∈ os, InS vv o) → ∀ (R : List Nat) (t : Addr) (H' : Hp), Made vv os R → Same H H' → H' t = some (.tup (nv R)) → Q (.ref t) H') ∧ ((¬ ∀ o ∈ os, InS vv o) → ∀ H', Same H H' → Q .non H')
theorem scRecg : FnScope ["width", "masks", "others"] ["width", "masks", "others"] (defScope sRecg) := ⟨rfl, rfl, rfl, by decide +kernel, rfl, by decide +kernel, by decide +kernel⟩
theorem ok_recg {f f1 f2 f3 fk f4 f5 f6 f7 f10 : Addr} {fd fd1 fd2 fd3 fdk fd4 fd5 fd6 fd7 fd10 : FuncData} (A0 : At K mg "recoding" sRecg ["width", "masks", "others"] f fd) (A1 : At K mg "is_int" sIsInt ["value"] f1 fd1) (A2 : At K mg "is_address" sIsAddr ["width", "value"] f2 fd2)
    (A3 : At K mg "are_addresses" sAreAddrs ["width", "value", "most"] f3 fd3) (AK : At K mg "are_masks" sAreMasks ["width", "value"] fk fdk) (A4 : At K mg "check_width" sCkWidth ["width"] f4 fd4) (A5 : At K mg "check_map" sCkMap ["width", "masks"] f5 fd5)
    (AM : At K mg "remainder" sRem ["rows", "vector"] f6 fd6) (AR : At K mg "reduced" sRed ["vectors"] f7 fd7) (AC : At K mg "recoded" sRec ["masks", "others"] f10 fd10) (T : Txt K mg) :
    FnOk P w K mg base CX0 6 f fd ["width", "masks", "others"] (spRecg K) := by
  have G4 : FnOk P w K mg base CX0 3 f4 fd4 ["width"] spCkWidth := ok_ckWidth A4 A1 T
  have G5 : FnOk P w K mg base CX0 5 f5 fd5 ["width", "masks"] (spCkMap K) := ok_ckMap A5 A1 A2 A3 AK T
  have GC : FnOk P w K mg base CX0 3 f10 fd10 ["masks", "others"] (spRec K) := ok_rec AC AR AM T
  refine A0.fn.ok scRecg (fun vs H Q E h => ?_) (fun cdv A outer s H vs Q E hr h => ?_)
  · obtain ⟨wd, p, q, vv, os, rfl, _⟩ := h
    rfl
  · obtain ⟨wd, p, q, vv, os, rfl, w1, w2, hp, hq, l0, l1, l2, b1, b2, k, kn⟩ := h
    have hr2 : Room 2 _ := hr.mono (by decide)
    have hr3 : Room 3 _ := hr.mono (by decide)
    have hr5 : Room 5 _ := hr.mono (by decide)
    refine ⟨_, (pss_cons (ps_expr (pe_call G4 (hr.mono (by decide)) (by rfl) A4.mg A4.fn.kp A4.bi .nil pass0 (pa_cons (pv 0) pa_nil)))
      (pss_cons (ps_expr (pe_call G5 hr5 (by rfl) A5.mg A5.fn.kp A5.bi .nil pass0 (pa_cons (pv 0) (pa_cons (pv 1) pa_nil))))
      (pss_cons (ps_expr (pe_call G5 hr5 (by rfl) A5.mg A5.fn.kp A5.bi .nil pass0 (pa_cons (pv 0) (pa_cons (pv 2) pa_nil))))
      (pss_cons (ps_if (pt_cmpR op_eq (pe_callB call_len_seq (by rfl) T.len PySem.boot_len (pa_cons (pv 1) pa_nil)) pe_int (nomark _)) (pss_one ps_never) pss_nil)
      (pss_one (ps_ret (pe_call GC hr3 (by rfl) AC.mg AC.fn.kp AC.bi .nil pass0 (pa_cons (pv 1) (pa_cons (pv 2) pa_nil))))))))), ?_⟩
    refine ⟨_, rfl, _, rfl, by omega, by omega, ?_⟩
    refine ⟨_, rfl, _, rfl, _, p, _, rfl, by omega, by omega, by rw [← nv_ints]; exact hp, by rw [List.length_map]; exact l1, inw_nv b1, fun H1 sm1 => ?_⟩
    refine ⟨_, rfl, _, rfl, _, q, _, rfl, by omega, by omega, by rw [← nv_ints]; exact sm1 _ _ hq, by rw [List.length_map]; exact l2, inw_nv b2, fun H2 sm2 => ?_⟩
    have sm12 := sm1.trans sm2
    have hp2 := sm12 _ _ hp
    refine ⟨_, rfl, p, _, rfl, .inr (SqT.of hp2), rfl, _, rfl, iteFb (decide_eq_false fun z => ?_) ?_⟩
    · have := V.int.inj z
      rw [nv_len] at this
      omega
    refine ⟨_, rfl, _, rfl, p, q, vv, os, rfl, hp2, sm12 _ _ hq, l1, l2, fun v hv => p16 w2 (b1 v hv), fun v hv => p16 w2 (b2 v hv), fun h R t H3 mR s3 ht => k h R t H3 mR (sm12.trans s3) ht, fun h H3 s3 => kn h H3 (sm12.trans s3)⟩
end
section
variable {P : Program} {w : World} {K : PySem.W.Frag} {mg : Str → Option Value} {base : Heap}
/-! ### are_independent -/
def spInd (K : PySem.W.Frag) : Sp := fun vs H Q _ => ∃ (p : Addr) (vv : List Nat), vs = [.ref p] ∧ H p = some (.tup (nv vv)) ∧ vv.length ≤ 1000 ∧ ∀ H', Same H H' → Q (.bl (decide ((GF.red0 vv).length = vv.length))) H'
theorem scInd : FnScope ["masks"] ["masks"] (defScope sInd) := ⟨rfl, rfl, rfl, by decide +kernel, rfl, by decide +kernel, by decide +kernel⟩
theorem ok_ind {f f1 f2 : Addr} {fd fd1 fd2 : FuncData} (A0 : At K mg "are_independent" sInd ["masks"] f fd) (AR : At K mg "reduced" sRed ["vectors"] f1 fd1) (AM : At K mg "remainder" sRem ["rows", "vector"] f2 fd2) (T : Txt K mg) :
    FnOk P w K mg base CX0 3 f fd ["masks"] (spInd K) := by
  have GR : FnOk P w K mg base CX0 2 f1 fd1 ["vectors"] (spRed K true) := ok_redT AR AM T
  refine A0.fn.ok scInd (fun vs H Q E h => ?_) (fun cdv A outer s H vs Q E hr h => ?_)
  · obtain ⟨p, vv, rfl, _⟩ := h
    rfl
  · obtain ⟨p, vv, rfl, hp, hl, k⟩ := h
    refine ⟨_, pss_one (ps_ret (pe_cmpR op_eq (pe_callB call_len_seq (by rfl) T.len PySem.boot_len (pa_cons (pe_call GR hr (by rfl) AR.mg AR.fn.kp AR.bi .nil pass0 (pa_cons (pv 0) pa_nil)) pa_nil)) (pe_callB call_len_seq (by rfl) T.len PySem.boot_len (pa_cons (pv 0) pa_nil)) (nomark _))), ?_⟩
    refine ⟨_, rfl, p, vv, rfl, (by show (if true = true then SqT K H p (nv vv) else SqL K H p (nv vv)); exact SqT.of hp), hl, fun q L H1 _ sm hq _ RL _ sL => ?_⟩
    refine ⟨q, _, rfl, .inr (SqT.of hq), _, rfl, p, _, rfl, .inr (SqT.of (sm _ _ hp)), rfl, ?_⟩
    have e : L.length = (GF.red0 vv).length := GF.indep_len (GF.red_indep RL) (GF.red_indep (GF.red0_red vv)) fun x => (sL x).trans (GF.red0_span vv x).symm
    refine qv ?_ (k H1 sm)
    rw [nv_len, nv_len, e]
    congr 1
    rw [Bool.eq_iff_iff, decide_eq_true_iff, decide_eq_true_iff]
    exact ⟨fun z => Int.ofNat_inj.mp (V.int.inj z), fun z => by rw [z]⟩
end
theorem nv_cat (a b : List Nat) : nv a ++ nv b = nv (a ++ b) := (List.map_append ..).symm
end X1
set_option Elab.async false
set_option maxRecDepth 100000
set_option maxHeartbeats 4000000
namespace GF
theorem new_iff (C : List Nat) (v : Nat) : rem (red0 C) v = 0 ↔ InS C v := (rem_zero (red0_red C) v).trans (red0_span C v)
/-- those of the vectors that are new, one behind the other -/
def pick (C : List Nat) : List Nat → List Nat
  | [] => []
  | v :: vs => if rem (red0 C) v = 0 then pick C vs else v :: pick (C ++ [v]) vs
theorem pick_snoc (v : Nat) : ∀ (a C : List Nat), pick C (a ++ [v]) = pick C a ++ (if rem (red0 (C ++ pick C a)) v = 0 then [] else [v])
  | [], C => by
    show (if rem (red0 C) v = 0 then [] else [v]) = (if rem (red0 (C ++ [])) v = 0 then [] else [v])
    rw [List.append_nil]
  | u :: a, C => by
    show pick C (u :: (a ++ [v])) = _
    unfold pick
    by_cases h : rem (red0 C) u = 0
    · rw [if_pos h, if_pos h, pick_snoc v a C]
    · rw [if_neg h, if_neg h, pick_snoc v a (C ++ [u]), List.append_assoc]
      rfl
theorem pick_len : ∀ (vs C : List Nat), (pick C vs).length ≤ vs.length
  | [], C => Nat.le_refl _
  | v :: vs, C => by
    unfold pick
    split
    · exact Nat.le_succ_of_le (pick_len vs C)
    · exact Nat.succ_le_succ (pick_len vs _)
theorem comp_pick {vv : List Nat} (h : Indep vv) : ∀ n, comp vv n = vv ++ pick vv ((List.range n).map (2 ^ ·))
  | 0 => by rw [comp_0]; exact (List.append_nil vv).symm
  | n + 1 => by
    have ih := comp_pick h n
    rw [comp_next, List.range_succ, List.map_append]
    show compS (comp vv n) n = vv ++ pick vv ((List.range n).map (2 ^ ·) ++ [2 ^ n])
    rw [pick_snoc, ← List.append_assoc, ← ih]
    unfold compS
    have hi : Indep (comp vv n) := (comp_is h n).ind
    have key : (red0 (comp vv n ++ [2 ^ n])).length = (comp vv n ++ [2 ^ n]).length ↔ ¬ rem (red0 (comp vv n)) (2 ^ n) = 0 := by
      rw [indep_iff, indep_snoc hi, new_iff]
    by_cases c : rem (red0 (comp vv n)) (2 ^ n) = 0
    · rw [if_neg (fun z => key.mp z c), if_pos c, List.append_nil]
    · rw [if_pos (key.mpr c), if_neg c]
end GF
namespace X1
open PySem L2
open GF (pc par pc_0 pc_eq par_lt InS Can Red Indep comp comb InvM)
theorem red_le {L : List Nat} {w : Nat} (R : Red L) (hw : ∀ r ∈ L, r < 2 ^ w) : L.length ≤ w := by
  have dec : ∀ j, Decidable (GF.isFree L j) := fun j => Classical.propDecidable _
  have := GF.free_count R hw (js := (List.range w).filter fun j => @decide (GF.isFree L j) (dec j)) (List.nodup_range.sublist List.filter_sublist) fun j => by rw [List.mem_filter, List.mem_range, decide_eq_true_iff]
  omega
section
variable {P : Program} {w : World} {K : PySem.W.Frag} {mg : Str → Option Value} {base : Heap}
/-! ### independent -/
def spIndepN (K : PySem.W.Frag) : Sp := fun vs H Q _ => ∃ (p q : Addr) (kk vv : List Nat), vs = [.ref p, .ref q] ∧ H p = some (.tup (nv kk)) ∧ H q = some (.lst (nv vv)) ∧ kk.length + vv.length ≤ 900 ∧
  ∀ (z : Addr) (H' : Hp), Same H H' → H' z = some (.tup (nv (GF.pick kk vv))) → Q (.ref z) H'
theorem scIndepN : FnScope ["known", "vectors", "chosen", "rows", "vector"] ["known", "vectors"] (defScope sIndepN) := ⟨rfl, rfl, rfl, by decide +kernel, rfl, by decide +kernel, by decide +kernel⟩
theorem ok_indepN {f f1 f2 : Addr} {fd fd1 fd2 : FuncData} (A0 : At K mg "independent" sIndepN ["known", "vectors"] f fd) (AM : At K mg "remainder" sRem ["rows", "vector"] f1 fd1) (AR : At K mg "reduced" sRed ["vectors"] f2 fd2) (T : Txt K mg) :
    FnOk P w K mg base CX0 3 f fd ["known", "vectors"] (spIndepN K) := by
  have GT : FnOk P w K mg base CX0 2 f2 fd2 ["vectors"] (spRed K true) := ok_redT AR AM T
  have GM : FnOk P w K mg base CX0 1 f1 fd1 ["rows", "vector"] (spRemT K) := ok_remT AM T
  refine A0.fn.ok scIndepN (fun vs H Q E h => ?_) (fun cdv A outer s H vs Q E hr h => ?_)
  · obtain ⟨p, q, kk, vv, rfl, _⟩ := h
    rfl
  · obtain ⟨p, q, kk, vv, rfl, hp, hq, hl, k⟩ := h
    have hr1 : Room 1 _ := hr.mono (by decide)
    have hr2 : Room 2 _ := hr
    refine ⟨_, (pss_cons (ps_set (i := 2) scIndepN.nd rfl (Or.inl rfl) (pe_lst pa_nil))
      (pss_cons (ps_set (i := 3) scIndepN.nd rfl (Or.inl rfl) (pe_call GT hr2 (by rfl) AR.mg AR.fn.kp AR.bi .nil pass0 (pa_cons (pv 0) pa_nil)))
      (pss_cons (ps_for PassesOwn.never rfl (pi_list (pv 1)) (pg_name (i := 4) scIndepN.nd rfl (Or.inl rfl)) (pss_one (ps_if (pt_cmpR op_gt (pe_call GM hr1 (by rfl) AM.mg AM.fn.kp AM.bi .nil pass0 (pa_cons (pv 3) (pa_cons (pv 4) pa_nil))) pe_int (nomark _))
        (pss_cons (ps_expr (pe_bm PySem.F.plainAttrs_list PySem.F.slot_list_append PySem.F.type_list_append mt_append (pv 2) (pa_cons (pv 4) pa_nil)))
        (pss_one (ps_set (i := 3) scIndepN.nd rfl (Or.inl rfl) (pe_call GT hr2 (by rfl) AR.mg AR.fn.kp AR.bi .nil pass0 (pa_cons (pe_op op_catN (pv 3) (pe_tup (pa_cons (pv 4) pa_nil))) pa_nil))))) pss_nil)))
      (pss_one (ps_ret (pe_callTy call_tuple_of (by rfl) T.tuple (by decide +kernel) (pa_cons (pv 2) pa_nil))))))), ?_⟩
    refine ⟨by show 0 ≤ sizeLine; decide, fun c hc => ?_⟩
    have npc : p ≠ c := ne_of_none hp hc
    have nqc : q ≠ c := ne_of_none hq hc
    refine ⟨_, rfl, p, kk, rfl, SqT.of ((upd_ne npc).trans hp), by omega, fun r0 R0 H1 _ sm1 hr0 cR rR lR sR => ?_⟩
    have s0 : ∀ x u, x ≠ c → H x = some u → H1 x = some u := fun x u n e => sm1 _ _ ((upd_ne n).trans e)
    refine ⟨_, rfl, q, rfl, ⟨_, SqL.of (s0 _ _ nqc hq)⟩, ?_⟩
    refine for_list (K := K) (a := q) (xs := nv vv) (fun i σ H' => ∃ (r : Addr) (R : List Nat) (t4 : Option V), σ = [some (.ref p), some (.ref q), some (.ref c), some (.ref r), t4] ∧ (∀ x u, x ≠ c → H x = some u → H' x = some u) ∧ H' c = some (.lst (nv (GF.pick kk (vv.take i)))) ∧ H' r = some (.tup (nv R)) ∧
        Red R ∧ R.length ≤ kk.length + i ∧ ∀ x, InS R x ↔ InS (kk ++ GF.pick kk (vv.take i)) x)
      ⟨r0, R0, none, rfl, s0, sm1 _ _ upd_same, hr0, rR, by omega, fun x => by rw [sR, List.take_zero, show GF.pick kk [] = [] from rfl, List.append_nil]⟩ (fun i σ H' _ ⟨_, _, _, _, s, _⟩ => SqL.of (s _ _ nqc hq)) ?_ ?_
    · rintro i y σ H2 hy ⟨r, R, t4, rfl, s2, hc2, hr2', rR, lR, sR⟩
      obtain ⟨v, ev, rfl, hi⟩ := nv_at hy
      have et : vv.take (i + 1) = vv.take i ++ [v] := by rw [List.take_add_one, ev]; rfl
      have pl : (GF.pick kk (vv.take i)).length ≤ i := Nat.le_trans (GF.pick_len _ _) (by rw [List.length_take]; exact Nat.min_le_left _ _)
      have hrm : GF.rem R v = 0 ↔ GF.rem (GF.red0 (kk ++ GF.pick kk (vv.take i))) v = 0 := by rw [GF.rem_zero rR, GF.new_iff, sR]
      refine ⟨_, rfl, _, rfl, r, R, v, rfl, SqT.of hr2', _, _, rfl, rfl, _, rfl, ?_⟩
      by_cases h0 : GF.rem R v = 0
      · refine iteFb (decide_eq_false (by rw [h0]; decide)) ?_
        refine ⟨r, R, _, rfl, s2, ?_, hr2', rR, by omega, fun x => ?_⟩
        · rw [et, GF.pick_snoc, if_pos (hrm.mp h0), List.append_nil]; exact hc2
        · rw [et, GF.pick_snoc, if_pos (hrm.mp h0), List.append_nil]; exact sR x
      · refine iteTb (decide_eq_true (by omega)) ?_
        have hn : ¬ GF.rem (GF.red0 (kk ++ GF.pick kk (vv.take i))) v = 0 := fun z => h0 (hrm.mpr z)
        have nrc : r ≠ c := fun z => by rw [z, hc2] at hr2'; cases hr2'
        refine ⟨_, rfl, .inl ⟨rfl, _, SqL.of hc2⟩, _, rfl, c, _, _, rfl, rfl, hc2, by rw [nv_len]; exact Nat.lt_of_le_of_lt (Nat.le_trans pl (by omega : i ≤ 900)) (by decide), ?_⟩
        have hr3 : (upd H2 c (.lst (nv (GF.pick kk (vv.take i)) ++ [.int (v : Int)]))) r = some (.tup (nv R)) := (upd_ne nrc).trans hr2'
        refine ⟨_, rfl, _, rfl, (by show 1 ≤ sizeLine; decide), fun t ht => ?_⟩
        have hr4 := (fun h => new_at (p := r) (u := .tup (nv [v])) h ht) hr3
        refine ⟨r, t, R, [v], rfl, rfl, hr4, upd_same, by rw [List.length_singleton]; omega, fun z H5 sm5 hz => ?_⟩
        have ek : (upd (upd H2 c (.lst (nv (GF.pick kk (vv.take i)) ++ [.int (v : Int)]))) t (.tup (nv [v]))) c = some (.lst (nv (GF.pick kk (vv.take i)) ++ [.int (v : Int)])) := new_at upd_same ht
        refine ⟨z, R ++ [v], rfl, SqT.of hz, by rw [List.length_append, List.length_singleton]; omega, fun r' R' H6 _ sm6 hr6 cR' rR' lR' sR' => ?_⟩
        refine ⟨r', R', _, rfl, fun x u n e => sm6 _ _ (sm5 _ _ (new_at ((upd_ne n).trans (s2 x u n e)) ht)), ?_, hr6, rR', ?_, fun x => ?_⟩
        · rw [et, GF.pick_snoc, if_neg hn]
          have := sm6 _ _ (sm5 _ _ ek)
          rw [this]
          unfold nv
          rw [List.map_append]
          rfl
        · have e : (R ++ [v]).length = R.length + 1 := List.length_append
          omega
        · rw [et, GF.pick_snoc, if_neg hn, sR', ← List.append_assoc, GF.ins_snoc, GF.ins_snoc, sR, sR]
    · rintro σ H2 ⟨r, R, t4, rfl, s2, hc2, hr2', rR, lR, sR⟩
      rw [nv_len, List.take_length] at hc2
      refine ⟨_, rfl, c, _, rfl, .inl ⟨SqL.of hc2, fun l hl' => ?_⟩⟩
      exact k l _ (fun x u e => (new_at (s2 x u (ne_of_none e hc) e) hl')) upd_same
/-! ### completed -/
def spComp (K : PySem.W.Frag) : Sp := fun vs H Q _ => ∃ (wd : Nat) (p : Addr) (vv : List Nat), vs = [.int (wd : Int), .ref p] ∧ 1 ≤ wd ∧ wd ≤ 16 ∧ H p = some (.tup (nv vv)) ∧ vv.length ≤ 16 ∧ (∀ v ∈ vv, v < 2 ^ wd) ∧
  Indep vv ∧ ∀ (q : Addr) (H' : Hp), Same H H' → H' q = some (.tup (nv (comp vv wd))) → Q (.ref q) H'
theorem scComp : FnScope ["width", "masks"] ["width", "masks"] (defScope sComp) := ⟨rfl, rfl, rfl, by decide +kernel, rfl, by decide +kernel, by decide +kernel⟩
theorem ok_comp {f f1 f2 f3 fk f4 f5 f6 f7 f8 f9 : Addr} {fd fd1 fd2 fd3 fdk fd4 fd5 fd6 fd7 fd8 fd9 : FuncData} (A0 : At K mg "completed" sComp ["width", "masks"] f fd) (A1 : At K mg "is_int" sIsInt ["value"] f1 fd1) (A2 : At K mg "is_address" sIsAddr ["width", "value"] f2 fd2)
    (A3 : At K mg "are_addresses" sAreAddrs ["width", "value", "most"] f3 fd3) (AK : At K mg "are_masks" sAreMasks ["width", "value"] fk fdk) (A4 : At K mg "check_width" sCkWidth ["width"] f4 fd4) (A5 : At K mg "check_map" sCkMap ["width", "masks"] f5 fd5)
    (AM : At K mg "remainder" sRem ["rows", "vector"] f6 fd6) (AR : At K mg "reduced" sRed ["vectors"] f7 fd7) (AP : At K mg "powers" sPowers ["width"] f8 fd8) (AI : At K mg "are_independent" sInd ["masks"] f9 fd9) (T : Txt K mg) :
    FnOk P w K mg base CX0 6 f fd ["width", "masks"] (spComp K) := by
  have G4 : FnOk P w K mg base CX0 3 f4 fd4 ["width"] spCkWidth := ok_ckWidth A4 A1 T
  have G5 : FnOk P w K mg base CX0 5 f5 fd5 ["width", "masks"] (spCkMap K) := ok_ckMap A5 A1 A2 A3 AK T
  have GP : FnOk P w K mg base CX0 1 f8 fd8 ["width"] spPowers := ok_powers AP T
  obtain ⟨fN, fdN, AN⟩ := T.isIndep
  have GN : FnOk P w K mg base CX0 3 fN fdN ["known", "vectors"] (spIndepN K) := ok_indepN AN AM AR T
  have GI : FnOk P w K mg base CX0 3 f9 fd9 ["masks"] (spInd K) := ok_ind AI AR AM T
  refine A0.fn.ok scComp (fun vs H Q E h => ?_) (fun cdv A outer s H vs Q E hr h => ?_)
  · obtain ⟨wd, p, vv, rfl, _⟩ := h
    rfl
  · obtain ⟨wd, p, vv, rfl, w1, w2, hp, hl, hin, hI, k⟩ := h
    have hr1 : Room 1 _ := hr.mono (by decide)
    have hr2 : Room 2 _ := hr.mono (by decide)
    have hr3 : Room 3 _ := hr.mono (by decide)
    have hr5 : Room 5 _ := hr.mono (by decide)
    refine ⟨_, (pss_cons (ps_expr (pe_call G4 (hr.mono (by decide)) (by rfl) A4.mg A4.fn.kp A4.bi .nil pass0 (pa_cons (pv 0) pa_nil)))
      (pss_cons (ps_expr (pe_call G5 hr5 (by rfl) A5.mg A5.fn.kp A5.bi .nil pass0 (pa_cons (pv 0) (pa_cons (pv 1) pa_nil))))
      (pss_cons (ps_if (pt_not (pt_val (pe_call GI hr3 (by rfl) AI.mg AI.fn.kp AI.bi .nil pass0 (pa_cons (pv 1) pa_nil)))) (pss_one ps_never) pss_nil)
      (pss_one (ps_ret (pe_op op_catN (pv 1) (pe_call GN hr3 (by rfl) AN.mg AN.fn.kp AN.bi .nil pass0 (pa_cons (pv 1) (pa_cons (pe_call GP hr1 (by rfl) AP.mg AP.fn.kp AP.bi .nil pass0 (pa_cons (pv 0) pa_nil)) pa_nil))))))))), ?_⟩
    refine ⟨_, rfl, _, rfl, by omega, by omega, ?_⟩
    refine ⟨_, rfl, _, rfl, _, p, _, rfl, by omega, by omega, by rw [← nv_ints]; exact hp, by rw [List.length_map]; exact hl, inw_nv hin, fun H1 sm1 => ?_⟩
    refine ⟨_, rfl, p, vv, rfl, sm1 _ _ hp, by omega, fun H2 sm2 => ⟨_, rfl, ?_⟩⟩
    have sm12 := sm1.trans sm2
    refine iteFb (by rw [decide_eq_true ((GF.indep_iff vv).mpr hI)]; rfl) ?_
    refine ⟨_, rfl, _, rfl, _, rfl, wd, rfl, by omega, fun D H3 hD sm3 hd => ?_⟩
    have lp : ((List.range wd).map (2 ^ ·)).length = wd := by rw [List.length_map, List.length_range]
    refine ⟨p, D, vv, _, rfl, sm3 _ _ (sm12 _ _ hp), hd, by rw [lp]; omega, fun z H4 sm4 hz => ?_⟩
    have hpl := GF.pick_len ((List.range wd).map (2 ^ ·)) vv
    rw [lp] at hpl
    refine ⟨p, z, vv, _, rfl, rfl, sm4 _ _ (sm3 _ _ (sm12 _ _ hp)), hz, by omega, fun q' H5 sm5 hq' => ?_⟩
    rw [← GF.comp_pick hI] at hq'
    exact k q' H5 (((sm12.trans sm3).trans sm4).trans sm5) hq'

end
namespace VN
open GF (lift bk)
section
variable {P : Program} {w : World} {K : PySem.W.Frag} {mg : Str → Option Value} {base : Heap}
/-! ### recoded -/
def Made (vv os R : List Nat) : Prop := R.length = os.length ∧ ∀ (j r o : Nat), R[j]? = some r → os[j]? = some o → r < 2 ^ vv.length ∧ comb vv r = o
def spRec (K : PySem.W.Frag) : Sp := fun vs H Q _ => ∃ (p q : Addr) (vv os : List Nat), vs = [.ref p, .ref q] ∧ H p = some (.tup (nv vv)) ∧ H q = some (.lst (nv os)) ∧ vv.length ≤ 16 ∧ os.length ≤ 16 ∧ (∀ v ∈ vv, v < 65536) ∧ (∀ v ∈ os, v < 65536) ∧
  ((∀ o ∈ os, InS vv o) → ∀ (R : List Nat) (t : Addr) (H' : Hp), Made vv os R → Same H H' → H' t = some (.tup (nv R)) → Q (.ref t) H') ∧ ((¬ ∀ o ∈ os, InS vv o) → ∀ H', Same H H' → Q .non H')
theorem scRec : FnScope ["masks", "others", "size", "rows", "made", "index", "mask", "other", "choice"] ["masks", "others"] (defScope sRec) := ⟨rfl, rfl, rfl, by decide +kernel, rfl, by decide +kernel, by decide +kernel⟩
theorem lift_next {vv : List Nat} {n i v : Nat} (h : vv[i]? = some v) : (lift vv n).take i ++ [v * 2 ^ n ^^^ 2 ^ i] = (lift vv n).take (i + 1) := by
  have e := GF.liftA_at n 0 vv i
  rw [h, Nat.zero_add] at e
  rw [List.take_add_one]
  unfold lift
  rw [e]
  rfl
theorem lift_cast {v n i : Nat} (h : i < n) : Builtin.bitOr ((v : Int) * 2 ^ n) ((1 : Int) * 2 ^ i) = ((v * 2 ^ n ^^^ 2 ^ i : Nat) : Int) := by
  have e2 : (1 : Int) * 2 ^ i = ((2 ^ i : Nat) : Int) := by rw [Int.one_mul, pow_cast]
  have z : (v * 2 ^ n).testBit i = false := by
    rw [Nat.mul_comm, Nat.testBit_two_pow_mul, decide_eq_false (by omega)]
    rfl
  rw [e2, or_low (Int.natCast_nonneg v) (Int.natCast_nonneg _) (by rw [← pow_cast]; exact Int.ofNat_lt.mpr (Nat.pow_lt_pow_right (by decide) h)), ← GF.add_pow z, Int.natCast_add, Int.natCast_mul, pow_cast, pow_cast]
theorem ok_rec {f f1 f2 : Addr} {fd fd1 fd2 : FuncData} (A0 : At K mg "recoded" sRec ["masks", "others"] f fd) (AR : At K mg "reduced" sRed ["vectors"] f1 fd1) (AM : At K mg "remainder" sRem ["rows", "vector"] f2 fd2) (T : Txt K mg) :
    FnOk P w K mg base CX0 3 f fd ["masks", "others"] (spRec K) := by
  have GR : FnOk P w K mg base CX0 2 f1 fd1 ["vectors"] (spRed K false) := ok_redL AR AM T
  have GM : FnOk P w K mg base CX0 1 f2 fd2 ["rows", "vector"] (spRemT K) := ok_remT AM T
  refine A0.fn.ok scRec (fun vs H Q E h => ?_) (fun cdv A outer s H vs Q E hr h => ?_)
  · obtain ⟨p, q, vv, os, rfl, _⟩ := h
    rfl
  · obtain ⟨p, q, vv, os, rfl, hp, hq, l1, l2, b1, b2, k, kn⟩ := h
    have hr1 : Room 1 _ := hr.mono (by decide)
    have hr2 : Room 2 _ := hr.mono (by decide)
    refine ⟨_, (pss_cons (ps_set (i := 2) scRec.nd rfl (Or.inr rfl) (pe_callB call_len_seq (by rfl) T.len PySem.boot_len (pa_cons (pv 0) pa_nil)))
      (pss_cons (ps_set (i := 3) scRec.nd rfl (Or.inr rfl) (pe_call GR hr2 (by rfl) AR.mg AR.fn.kp AR.bi .nil pass0 (pa_cons (pe_lc (own := [("index", 5), ("mask", 6)]) (g := gTup K 2 (gCons (gName 5) (gCons (gName 6) (gNil)))) (tt := tYes) rfl scRec.nd (G.pi_enumT (by rfl) T.enum (pa_cons (pv 0) pa_nil)) (blkOk_by (N := ["masks", "others", "size", "rows", "made", "index", "mask", "other", "choice"]) (sc := defScope sRec) (by decide +kernel)) (fun _ _ _ _ _ => by exact pg_tup rfl (pgs_cons (pg_name (i := 5) scRec.nd rfl (Or.inl rfl)) (pgs_cons (pg_name (i := 6) scRec.nd rfl (Or.inl rfl)) pgs_nil))) (fun _ _ _ _ _ => pts_nil) (fun _ _ _ _ _ => (pe_op op_or (pe_op op_shl (pv 6) (pv 2)) (pe_op op_shl pe_int (pv 5))))) pa_nil)))
      (pss_cons (ps_setLc (i := 4) (own := [("other", 7)]) (g := gName 7) (tt := tYes) rfl scRec.nd rfl rfl (sw_true rfl rfl rfl (by decide +kernel)) (pi_list (pv 1)) (blkOk_by (N := ["masks", "others", "size", "rows", "made", "index", "mask", "other", "choice"]) (sc := defScope sRec) (by decide +kernel)) (fun _ _ _ _ _ => pg_name (i := 7) scRec.nd rfl (Or.inl rfl)) (fun _ _ _ _ _ => pts_nil) (fun _ _ _ _ _ => (pe_call GM hr1 (by rfl) AM.mg AM.fn.kp AM.bi .nil pass0 (pa_cons (pv 3) (pa_cons (pe_op op_shl (pv 7) (pv 2)) pa_nil)))))
      (pss_cons (ps_if (pt_val (pe_callB (G.cr_anyI rfl) (by rfl) T.any (by decide +kernel) (pa_cons (pe_lc (own := [("choice", 8)]) (g := gName 8) (tt := tYes) rfl scRec.nd (pi_list (pv 4)) (blkOk_by (N := ["masks", "others", "size", "rows", "made", "index", "mask", "other", "choice"]) (sc := defScope sRec) (by decide +kernel)) (fun _ _ _ _ _ => pg_name (i := 8) scRec.nd rfl (Or.inl rfl)) (fun _ _ _ _ _ => pts_nil) (fun _ _ _ _ _ => (pe_op op_shr (pv 8) (pv 2)))) pa_nil))) (pss_one (ps_ret pe_non)) pss_nil)
      (pss_one (ps_ret (pe_callTy call_tuple_of (by rfl) T.tuple (by decide +kernel) (pa_cons (pv 4) pa_nil)))))))), ?_⟩
    refine ⟨_, rfl, p, _, rfl, .inr (SqT.of hp), ?_⟩
    rw [nv_len]
    generalize hn : vv.length = n at l1
    refine ⟨_, rfl, p, _, rfl, SqT.of hp, fun D hD => ?_⟩
    have npD : p ≠ D := ne_of_none hp hD
    refine lc_it (G.walk_enumT (K := K) (a := p) (xs := nv vv)) (fun i H' => (∀ b o, b ≠ D → H b = some o → H' b = some o) ∧ H' D = some (.lst (nv ((lift vv n).take i)))) ⟨fun b o n e => by rw [upd_ne n]; exact e, upd_same⟩
      (fun i H' _ ⟨s1, _⟩ => SqT.of (s1 _ _ npD hp)) ?_ ?_
    · rintro i x H1 H2 hi ⟨s1, hd⟩ ⟨Tp, x1, x2, rfl, hT, rfl, e1, e2⟩
      cases e1
      obtain ⟨m, em, rfl, hil⟩ := nv_at e2
      have hm := b1 m (List.mem_of_getElem? em)
      have nTD : D ≠ Tp := ne_of_none hd hT
      refine ⟨Tp, _, rfl, SqT.of upd_same, rfl, _, _, rfl, _, _, rfl, rfl, rfl, yes (iteT ?_)⟩
      refine ⟨_, rfl, _, rfl, _, _, rfl, rfl, ⟨by omega, by omega, by omega⟩, _, rfl, _, _, rfl, rfl, ⟨by omega, by omega, by decide⟩, _, _, rfl, rfl, _, by rw [upd_ne nTD]; exact hd, ?_, ?_, ?_⟩
      · rw [nv_len, List.length_take]
        exact Nat.lt_of_le_of_lt (Nat.min_le_left _ _) (Nat.lt_trans hil (Nat.lt_of_le_of_lt (hn ▸ l1) (by decide)))
      · intro b o n e
        rw [upd_ne n, upd_ne (ne_of_none (s1 b o n e) hT)]
        exact s1 b o n e
      · rw [upd_same, ← lift_next em]
        unfold nv
        rw [List.map_append]
        show some (HO.lst (_ ++ [V.int (Builtin.bitOr ((m : Int) * 2 ^ ((n : Int)).toNat) ((1 : Int) * 2 ^ ((i : Int)).toNat))])) = _
        rw [Int.toNat_natCast, Int.toNat_natCast, lift_cast (by omega)]
        rfl
    rintro H1 ⟨s1, hd1⟩
    have sm1 : Same H H1 := fun c u e => s1 c u (ne_of_none e hD) e
    have ll : (lift vv n).length = n := (GF.liftA_len n 0 vv).trans hn
    rw [nv_len, hn, List.take_of_length_le (by rw [ll]; exact Nat.le_refl _)] at hd1
    refine ⟨D, _, rfl, SqL.of hd1, by omega, fun rA L H2 _ sm2 hr2' _ RL _ hL => ⟨_, rfl, ?_⟩⟩
    have sm12 := sm1.trans sm2
    have hq2 := sm12 _ _ hq
    refine ⟨q, rfl, ⟨_, SqL.of hq2⟩, fun D2 hD2 => ?_⟩
    have nqD : q ≠ D2 := ne_of_none hq2 hD2
    have nrD : rA ≠ D2 := ne_of_none hr2' hD2
    let g : Nat → Nat := fun o => GF.rem L (o * 2 ^ n)
    refine lc_list (K := K) (a := q) (xs := nv os) (fun i H' => (∀ b o, b ≠ D2 → H2 b = some o → H' b = some o) ∧ H' D2 = some (.lst (nv ((os.take i).map g)))) ⟨fun b o n e => by rw [upd_ne n]; exact e, upd_same⟩
      (fun i H' _ ⟨s2, _⟩ => SqL.of (s2 _ _ nqD hq2)) ?_ ?_
    · rintro i x H3 hx ⟨s2, hd⟩
      obtain ⟨o, eo, rfl, hi⟩ := nv_at hx
      have ho := b2 o (List.mem_of_getElem? eo)
      refine ⟨rfl, yes (iteT ?_)⟩
      refine ⟨_, rfl, _, rfl, _, rfl, _, _, rfl, rfl, ⟨by omega, by omega, by omega⟩, rA, L, o * 2 ^ n, ?_, SqT.of (s2 _ _ nrD hr2'), _, hd, ?_, ?_, ?_⟩
      · rw [Int.natCast_mul, pow_cast]
        rfl
      · rw [nv_len, List.length_map, List.length_take]
        exact Nat.lt_of_le_of_lt (Nat.min_le_right _ _) (Nat.lt_of_le_of_lt l2 (by decide))
      · exact fun b o n e => by rw [upd_ne n]; exact s2 b o n e
      · rw [upd_same, List.take_add_one, eo, List.map_append, nv_app]
        rfl
    rintro H3 ⟨s2, hd3⟩
    rw [nv_len, List.take_of_length_le (Nat.le_refl _)] at hd3
    have sm3 : Same H H3 := sm12.trans fun c u e => s2 c u (ne_of_none e hD2) e
    have key : ∀ o ∈ os, (g o < 2 ^ n ↔ InS vv o) ∧ (g o < 2 ^ n → comb vv (g o) = o ∧ g o < 2 ^ vv.length) := fun o _ => GF.rem_lift (by omega) RL hL
    refine ⟨_, rfl, ?_⟩
    refine ⟨D2, rfl, ⟨_, SqL.of hd3⟩, fun D4 hD4 => ?_⟩
    have nDD : D2 ≠ D4 := ne_of_none hd3 hD4
    refine lc_list (K := K) (a := D2) (xs := nv (os.map g)) (fun i H' => (∀ b o, b ≠ D4 → H3 b = some o → H' b = some o) ∧ H' D4 = some (.lst ((((os.map g).take i).map fun x : Nat => ((x : Int) / 2 ^ n)).map V.int))) ⟨fun b o n e => by rw [upd_ne n]; exact e, upd_same⟩
      (fun i H' _ ⟨s3, _⟩ => SqL.of (s3 _ _ nDD hd3)) ?_ ?_
    · rintro i x H4 hx ⟨s3, hd⟩
      obtain ⟨o, eo, rfl, hi⟩ := nv_at hx
      refine ⟨rfl, yes (iteT ?_)⟩
      refine ⟨_, rfl, _, rfl, _, _, rfl, rfl, by omega, _, hd, ?_, ?_, ?_⟩
      · rw [List.length_map, List.length_map, List.length_take]
        exact Nat.lt_of_le_of_lt (Nat.min_le_left _ _) (Nat.lt_trans hi (Nat.lt_of_le_of_lt (by rw [List.length_map]; exact l2) (by decide)))
      · exact fun b o n e => by rw [upd_ne n]; exact s3 b o n e
      · rw [upd_same, List.take_add_one, eo, List.map_append, List.map_append]
        rfl
    rintro H4 ⟨s3, hd4⟩
    rw [nv_len, List.take_of_length_le (Nat.le_refl _)] at hd4
    have sm4 : Same H H4 := sm3.trans fun c u e => s3 c u (ne_of_none e hD4) e
    refine ⟨D4, _, rfl, SqL.of hd4, _, rfl, ?_⟩
    have h3 := s3 _ _ nDD hd3
    by_cases c : ∀ o ∈ os, InS vv o
    · refine iteFb ?_ ?_
      · rw [List.any_eq_false]
        intro x hx
        obtain ⟨y, hy, rfl⟩ := List.mem_map.mp hx
        obtain ⟨o, ho, rfl⟩ := List.mem_map.mp hy
        have h := ((key o ho).1).mpr (c o ho)
        have e : ((g o : Nat) : Int) / 2 ^ n = 0 := by
          rw [← pow_cast, ← Int.natCast_ediv, Nat.div_eq_of_lt h]
          rfl
        rw [e]
        decide
      · refine ⟨_, rfl, D2, _, rfl, .inl ⟨SqL.of h3, fun t ht => ?_⟩⟩
        refine k c (os.map g) t _ ⟨List.length_map .., fun j r o hj ho => ?_⟩ (keep_new sm4 ht) upd_same
        rw [List.getElem?_map, ho] at hj
        cases hj
        have hm := List.mem_of_getElem? ho
        obtain ⟨h1, h2⟩ := key o hm
        obtain ⟨h3, h4⟩ := h2 (h1.mpr (c o hm))
        exact ⟨h4, h3⟩
    · refine iteTb ?_ (kn c H4 sm4)
      rw [List.any_eq_true]
      refine Classical.byContradiction fun z => c fun o ho => ((key o ho).1).mp ?_
      refine Nat.lt_of_not_le fun ge => z ⟨((g o : Nat) : Int) / 2 ^ n, List.mem_map.mpr ⟨g o, List.mem_map.mpr ⟨o, ho, rfl⟩, rfl⟩, ?_⟩
      rw [← pow_cast, ← Int.natCast_ediv]
      have : 1 ≤ g o / 2 ^ n := (Nat.le_div_iff_mul_le (Nat.two_pow_pos n)).mpr (by rw [Nat.one_mul]; exact ge)
      simp only [bne_iff_ne, ne_eq]
      omega
/-! ### inverse -/
def Good (wd : Nat) (vv : List Nat) : Prop := vv.length = wd ∧ Indep vv
def spInv (K : PySem.W.Frag) : Sp := fun vs H Q _ => ∃ (wd : Nat) (p : Addr) (vv : List Nat), vs = [.int (wd : Int), .ref p] ∧ 1 ≤ wd ∧ wd ≤ 16 ∧ H p = some (.tup (nv vv)) ∧ vv.length ≤ 16 ∧ (∀ v ∈ vv, v < 2 ^ wd) ∧
  Good wd vv ∧ ∀ (R : List Nat) (q : Addr) (H' : Hp), InvM vv R wd → Same H H' → H' q = some (.tup (nv R)) → Q (.ref q) H'
theorem scInv : FnScope ["width", "masks"] ["width", "masks"] (defScope sInv) := ⟨rfl, rfl, rfl, by decide +kernel, rfl, by decide +kernel, by decide +kernel⟩
theorem ok_inv {f f1 f2 f3 fk f4 f5 f6 f7 f8 f9 f10 : Addr} {fd fd1 fd2 fd3 fdk fd4 fd5 fd6 fd7 fd8 fd9 fd10 : FuncData} (A0 : At K mg "inverse" sInv ["width", "masks"] f fd) (A1 : At K mg "is_int" sIsInt ["value"] f1 fd1) (A2 : At K mg "is_address" sIsAddr ["width", "value"] f2 fd2)
    (A3 : At K mg "are_addresses" sAreAddrs ["width", "value", "most"] f3 fd3) (AK : At K mg "are_masks" sAreMasks ["width", "value"] fk fdk) (A4 : At K mg "check_width" sCkWidth ["width"] f4 fd4) (A5 : At K mg "check_map" sCkMap ["width", "masks"] f5 fd5)
    (AM : At K mg "remainder" sRem ["rows", "vector"] f6 fd6) (AR : At K mg "reduced" sRed ["vectors"] f7 fd7) (AP : At K mg "powers" sPowers ["width"] f8 fd8) (AI : At K mg "are_independent" sInd ["masks"] f9 fd9) (AC : At K mg "recoded" sRec ["masks", "others"] f10 fd10) (T : Txt K mg) :
    FnOk P w K mg base CX0 6 f fd ["width", "masks"] (spInv K) := by
  have G4 : FnOk P w K mg base CX0 3 f4 fd4 ["width"] spCkWidth := ok_ckWidth A4 A1 T
  have G5 : FnOk P w K mg base CX0 5 f5 fd5 ["width", "masks"] (spCkMap K) := ok_ckMap A5 A1 A2 A3 AK T
  have GP : FnOk P w K mg base CX0 1 f8 fd8 ["width"] spPowers := ok_powers AP T
  have GI : FnOk P w K mg base CX0 3 f9 fd9 ["masks"] (spInd K) := ok_ind AI AR AM T
  have GC : FnOk P w K mg base CX0 3 f10 fd10 ["masks", "others"] (spRec K) := ok_rec AC AR AM T
  refine A0.fn.ok scInv (fun vs H Q E h => ?_) (fun cdv A outer s H vs Q E hr h => ?_)
  · obtain ⟨wd, p, vv, rfl, _⟩ := h
    rfl
  · obtain ⟨wd, p, vv, rfl, w1, w2, hp, hl, hin, ⟨cl, hI⟩, k⟩ := h
    have hr1 : Room 1 _ := hr.mono (by decide)
    have hr2 : Room 2 _ := hr.mono (by decide)
    have hr3 : Room 3 _ := hr.mono (by decide)
    have hr5 : Room 5 _ := hr.mono (by decide)
    refine ⟨_, (pss_cons (ps_expr (pe_call G4 (hr.mono (by decide)) (by rfl) A4.mg A4.fn.kp A4.bi .nil pass0 (pa_cons (pv 0) pa_nil)))
      (pss_cons (ps_expr (pe_call G5 hr5 (by rfl) A5.mg A5.fn.kp A5.bi .nil pass0 (pa_cons (pv 0) (pa_cons (pv 1) pa_nil))))
      (pss_cons (ps_if (PW.pt (pw_or (pt_cmpR op_ne (pe_callB call_len_seq (by rfl) T.len PySem.boot_len (pa_cons (pv 1) pa_nil)) (pv 0) (nomark _)) (pw_or1 (pt_not (pt_val (pe_call GI hr3 (by rfl) AI.mg AI.fn.kp AI.bi .nil pass0 (pa_cons (pv 1) pa_nil))))))) (pss_one ps_never) pss_nil)
      (pss_one (ps_ret (pe_call GC hr3 (by rfl) AC.mg AC.fn.kp AC.bi .nil pass0 (pa_cons (pv 1) (pa_cons (pe_call GP hr1 (by rfl) AP.mg AP.fn.kp AP.bi .nil pass0 (pa_cons (pv 0) pa_nil)) pa_nil)))))))), ?_⟩
    refine ⟨_, rfl, _, rfl, by omega, by omega, ?_⟩
    refine ⟨_, rfl, _, rfl, _, p, _, rfl, by omega, by omega, by rw [← nv_ints]; exact hp, by rw [List.length_map]; exact hl, inw_nv hin, fun H1 sm1 => ?_⟩
    refine ⟨_, rfl, p, _, rfl, .inr (SqT.of (sm1 _ _ hp)), _, rfl, ?_⟩
    rw [nv_len]
    refine ⟨rfl, _, rfl, ?_⟩
    refine iteFb (by rw [decide_eq_true (by rw [cl])]; rfl) ?_
    refine ⟨_, rfl, p, vv, rfl, sm1 _ _ hp, by omega, fun H2 sm2 => ⟨_, rfl, ?_⟩⟩
    have sm12 := sm1.trans sm2
    refine iteFb (by rw [decide_eq_true ((GF.indep_iff vv).mpr hI)]; rfl) ?_
    refine ⟨_, rfl, _, rfl, wd, rfl, by omega, fun D H3 hD sm3 hd => ?_⟩
    refine ⟨p, D, vv, _, rfl, sm3 _ _ (sm12 _ _ hp), hd, hl, by rw [List.length_map, List.length_range]; exact w2, fun v hv => p16 w2 (hin v hv), fun v hv => ?_, fun hin' R t H4 mR sm4 ht => ?_, fun hno => ?_⟩
    · obtain ⟨j, hj, rfl⟩ := List.mem_map.mp hv
      exact p16 w2 (Nat.pow_lt_pow_right (by decide) (List.mem_range.mp hj))
    · refine k R t H4 ⟨by rw [mR.1, List.length_map, List.length_range], fun j r hj => ?_⟩ ((sm12.trans sm3).trans sm4) ht
      have hjl : j < wd := by
        have := (List.getElem?_eq_some_iff.mp hj).1
        rw [mR.1, List.length_map, List.length_range] at this
        exact this
      have := mR.2 j r (2 ^ j) hj (by rw [List.getElem?_map, List.getElem?_range hjl]; rfl)
      rw [cl] at this
      exact this
    · refine absurd (fun o ho => ?_) hno
      obtain ⟨j, hj, rfl⟩ := List.mem_map.mp ho
      exact (GF.full_span hI cl hin _).mpr (Nat.pow_lt_pow_right (by decide) (List.mem_range.mp hj))

end
end VN
end X1
set_option Elab.async false
set_option maxRecDepth 100000
set_option maxHeartbeats 4000000
namespace X1
open PySem L2
open GF (pc par pc_0 pc_eq par_lt InS Can Red Els All Part Orth bk cols)
theorem red0_le (vv : List Nat) : (GF.red0 vv).length ≤ vv.length := by
  have key : ∀ (vv rows : List Nat), (vv.foldl GF.step rows).length ≤ vv.length + rows.length := by
    intro vv
    induction vv with
    | nil => intro rows; rw [List.length_nil, Nat.zero_add]; exact Nat.le_refl _
    | cons v vv ih =>
      intro rows
      have h1 := ih (GF.step rows v)
      have h2 := step_len rows v
      rw [List.length_cons]
      show (vv.foldl GF.step (GF.step rows v)).length ≤ _
      omega
  exact key vv []
/-- an ascending list of ints that are no less than 0 -/
theorem nat_list {L : List Int} (hs : L.Pairwise (· < ·)) (h0 : ∀ x ∈ L, 0 ≤ x) : ∃ PL : List Nat, L = PL.map (fun n : Nat => (n : Int)) ∧ PL.Pairwise (· < ·) := by
  refine ⟨L.map Int.toNat, ?_, ?_⟩
  · rw [List.map_map]
    have e : ∀ x ∈ L, ((fun n : Nat => (n : Int)) ∘ Int.toNat) x = id x := fun x hx => Int.toNat_of_nonneg (h0 x hx)
    rw [List.map_congr_left e, List.map_id]
  · rw [List.pairwise_map]
    refine List.Pairwise.imp_of_mem (fun {a b} ha hb h => ?_) hs
    have := h0 a ha
    omega
theorem mem_cast {PL : List Nat} {x : Nat} : (x : Int) ∈ PL.map (fun n : Nat => (n : Int)) ↔ x ∈ PL := by
  rw [List.mem_map]
  exact ⟨fun ⟨y, hy, e⟩ => (Int.ofNat_inj.mp e) ▸ hy, fun h => ⟨x, h, rfl⟩⟩
theorem dpi {K : PySem.W.Frag} {H : Hp} {i j : Int} (h : i = j) : Dp K H (.int i) (.int j) := by
  subst h
  exact .int _
section
variable {X : Cx}
def rSet2 (K : PySem.W.Frag) (w : World) : List V → Hp → VK → Prop := fun xs H Q => ∃ (p : Addr) (ns : List Int), xs = [.ref p] ∧ SqL K H p (ns.map V.int) ∧ ns.length ≤ 4000 ∧
  ∀ (a : Addr) (O : HO), H a = none → (∃ n, O = SetO w a (fun j => decide (j ∈ ns)) n) → Q (.ref a) (upd H a O)
theorem cr_set2 (hc : X.calm = true) : CallR X (.type "set") (rSet2 X.K X.w) := fun pins s σ H xs us Q I r h => G.cr_setL hc pins s σ H xs us Q I r (by
  obtain ⟨p, ns, e, hs, hl, k⟩ := h
  exact ⟨p, ns, e, hs, hl, fun a n ha _ => k a _ ha ⟨n, rfl⟩⟩)
def rSort2 (w : World) : List V → Hp → VK → Prop := fun vs H Q => ∃ (a : Addr) (S : Int → Bool) (O : HO), vs = [V.ref a] ∧ H a = some O ∧ (∃ n, O = SetO w a S n) ∧
  ∀ (ns : List Int) (p : Addr), ns.Pairwise (· < ·) → (∀ k : Int, k ∈ ns ↔ S k = true) → H p = none → Q (.ref p) (upd H p (.lst (ns.map V.int)))
theorem cr_sort2 (hc : X.calm = true) : CallR X (.builtin "sorted") (rSort2 X.w) := fun pins s σ H xs us Q I r h => G.cr_sortSet hc pins s σ H xs us Q I r (by
  obtain ⟨a, S, O, e, ha, ⟨n, rfl⟩, k⟩ := h
  exact ⟨a, S, n, e, ha, k⟩)
end
theorem seqTail {a c rest : TS} {D : _} {σ : St} {H : Hp} (P : St → Hp → Prop) (ht : ∀ σ1 H1, P σ1 H1 → rest D σ1 H1) (h : (∀ σ1 H1, P σ1 H1 → rest D σ1 H1) → tSeq a (tSeq c rest) D σ H) : tSeq a (tSeq c rest) D σ H := h ht
theorem seqTail1 {a rest : TS} {D : _} {σ : St} {H : Hp} (P : St → Hp → Prop) (ht : ∀ σ1 H1, P σ1 H1 → rest D σ1 H1) (h : (∀ σ1 H1, P σ1 H1 → rest D σ1 H1) → tSeq a rest D σ H) : tSeq a rest D σ H := h ht
theorem n_of {sz : Int} (h1 : 1 ≤ sz) : ∃ wd : Nat, sz = (wd : Int) ∧ sz.toNat = wd := ⟨sz.toNat, by omega, rfl⟩
/-- what is cut from an ascending list of numbers -/
theorem cut_front (L : List Nat) (m : Int) (h0 : 0 ≤ m) : cutV (nv L) none (some m) = nv (L.take m.toNat) := by
  obtain ⟨k, rfl⟩ := Int.eq_ofNat_of_zero_le h0
  unfold cutV
  rw [HT.sIx_none, HT.sIx_nat, nv_len, List.drop_zero, Nat.sub_zero, Int.toNat_natCast]
  unfold nv
  rw [← List.map_take]
  by_cases h : k ≤ L.length
  · rw [show min k L.length = k by omega]
  · rw [show min k L.length = L.length by omega, List.take_length, List.take_of_length_le (by omega)]
theorem mod_in {x sz : Int} (h1 : 1 ≤ sz) (h2 : sz ≤ 16) : 0 ≤ x % (1 * 2 ^ sz.toNat) ∧ x % (1 * 2 ^ sz.toNat) < 2 ^ sz.toNat := by
  obtain ⟨a, b⟩ := pw_le h1 h2
  rw [Int.one_mul]
  exact ⟨Int.emod_nonneg _ (by omega), Int.emod_lt_of_pos _ (by omega)⟩
/-- an ascending list of numbers below N is no longer than N -/
theorem asc_len {N : Nat} : ∀ {g : List Nat} {a : Nat}, g.Pairwise (· < ·) → (∀ x ∈ g, a ≤ x ∧ x < N) → g = [] ∨ g.length + a ≤ N
  | [], _, _, _ => .inl rfl
  | x :: g, a, h, hx => by
    obtain ⟨h1, h2⟩ := List.pairwise_cons.mp h
    obtain ⟨a1, a2⟩ := hx x (List.mem_cons_self ..)
    refine .inr ?_
    rcases asc_len (a := x + 1) h2 (fun y hy => ⟨h1 y hy, (hx y (List.mem_cons_of_mem _ hy)).2⟩) with e | e
    · rw [e, List.length_cons, List.length_nil]
      omega
    · rw [List.length_cons]
      omega
theorem asc_le {N : Nat} {g : List Nat} (h : g.Pairwise (· < ·)) (hx : ∀ x ∈ g, x < N) : g.length ≤ N := by
  rcases asc_len (a := 0) h (fun y hy => ⟨Nat.zero_le _, hx y hy⟩) with e | e
  · rw [e]
    exact Nat.zero_le _
  · omega
section
variable {P : Program} {w : World} {K : PySem.W.Frag} {mg : Str → Option Value} {base : Heap}
/-! ### _law_gaps -/
def spGaps : Sp := fun vs H Q _ => ∃ (b : Addr) (n sz m : Int) (o : HO), vs = [.ref b, .int sz, .int m] ∧ H b = some o ∧ BoxO n o ∧ n ≤ 700000 ∧ 1 ≤ sz ∧ sz ≤ 9 ∧ 0 ≤ m ∧ m ≤ 20 ∧
  ∀ (p : Addr) (g : List Nat) (H' : Hp) (o' : HO), H p = none → Sam b H H' → H' b = some o' → BoxO (n + 1000) o' → H' p = some (.tup (nv g)) → Dif sz.toNat g → g.length ≤ 20 → Q (.ref p) H'
theorem scGaps : FnScope ["_law_box_here", "_law_size", "_law_most", "_law_way", "_law_found", "_law_turn", "_law_at", "_law_one"] ["_law_box_here", "_law_size", "_law_most"] (defScope sGaps) := ⟨rfl, rfl, rfl, by decide +kernel, rfl, by decide +kernel, by decide +kernel⟩
theorem ok_gaps {f f1 f2 f3 f4 : Addr} {fd fd1 fd2 fd3 fd4 : FuncData} (A0 : At K mg "_law_gaps" sGaps ["_law_box_here", "_law_size", "_law_most"] f fd) (A1 : At K mg "_law_take" sTake ["_law_box_here", "_law_many"] f1 fd1) (A2 : At K mg "_law_of" sOf ["_law_box_here", "_law_some"] f2 fd2)
    (AL : At K mg "_law_lot" sLot ["_law_box_here", "_law_size", "_law_most"] f3 fd3) (AA : At K mg "_law_all_of" sAllOf ["_law_lot_here"] f4 fd4) (T : Txt K mg) : FnOk P w K mg base CX0 4 f fd ["_law_box_here", "_law_size", "_law_most"] spGaps := by
  have G1 : FnOk P w K mg base CX0 1 f1 fd1 ["_law_box_here", "_law_many"] spTake := ok_take A1
  have GL : FnOk P w K mg base CX0 3 f3 fd3 ["_law_box_here", "_law_size", "_law_most"] spLot := ok_lot AL A1 A2 T
  have GA : FnOk P w K mg base CX0 1 f4 fd4 ["_law_lot_here"] (spAllOf K) := ok_allOf AA T
  have GAL : FnOk P w K mg base CX0 1 f4 fd4 ["_law_lot_here"] (spAllOfL K) := ok_allOfL AA T
  refine A0.fn.ok scGaps (fun vs H Q E h => ?_) (fun cdv A outer s H vs Q E hr h => ?_)
  · obtain ⟨b, n, sz, m, o, rfl, _⟩ := h
    rfl
  · obtain ⟨b, n, sz, m, o, rfl, hb, B, hn, s1, s2, m1, m2, k⟩ := h
    refine ⟨_, (pss_cons (ps_par (i := 3) (j := 4) (by rfl) scGaps.nd rfl rfl (by decide) rfl rfl (pa_cons (pe_call G1 (hr.mono (by decide)) (by rfl) A1.mg A1.fn.kp A1.bi .nil pass0 (pa_cons (pv 0) (pa_cons pe_int pa_nil))) (pa_cons (pe_lst pa_nil) pa_nil)) (by rfl))
      (pss_cons (ps_if (pt_cmpR op_lt (pv 3) pe_int (nomark _)) (pss_one (ps_set (i := 4) scGaps.nd rfl (Or.inl rfl) (pe_callTy call_list_of (by rfl) T.list (by decide +kernel) (pa_cons (pe_call GL hr (by rfl) AL.mg AL.fn.kp AL.bi .nil pass0 (pa_cons (pv 0) (pa_cons (pv 1) (pa_cons (pv 2) pa_nil)))) pa_nil)))) pss_nil)
      (pss_cons (ps_if (pt_cmpR op_in_seq (pv 3) (pe_tup (pa_cons pe_int (pa_cons pe_int pa_nil))) (by rfl)) (pss_one (ps_for PassesOwn.never rfl (pi_range1 (by rfl) T.range (pa_cons (pe_op op_add pe_int (pe_call G1 (hr.mono (by decide)) (by rfl) A1.mg A1.fn.kp A1.bi .nil pass0 (pa_cons (pv 0) (pa_cons pe_int pa_nil)))) pa_nil)) (pg_name (i := 5) scGaps.nd rfl (Or.inl rfl)) (pss_one (ps_set (i := 4) scGaps.nd rfl (Or.inl rfl) (pe_op op_cat (pv 4) (pe_call GA (hr.mono (by decide)) (by rfl) AA.mg AA.fn.kp AA.bi .nil pass0 (pa_cons (pe_call GL hr (by rfl) AL.mg AL.fn.kp AL.bi .nil pass0 (pa_cons (pv 0) (pa_cons (pv 1) (pa_cons pe_int pa_nil)))) pa_nil))))))) pss_nil)
      (pss_cons (ps_if (pt_cmpR op_eq (pv 3) pe_int (nomark _)) (pss_one (ps_set (i := 4) scGaps.nd rfl (Or.inl rfl) (pe_call GAL (hr.mono (by decide)) (by rfl) AA.mg AA.fn.kp AA.bi .nil pass0 (pa_cons (pe_lc (own := [("_law_at", 6)]) (g := gName 6) (tt := (tTest (tOp (rI0 fun i j => .bl (decide (j < i))) (tCall spTake [] E (tCons (tVar 0) (tCons (tC (V.int 3)) tNil))) (tC (V.int 0))))) rfl scGaps.nd (pi_range1 (by rfl) T.range (pa_cons (pv 1) pa_nil)) (blkOk_by (N := ["_law_box_here", "_law_size", "_law_most", "_law_way", "_law_found", "_law_turn", "_law_at", "_law_one"]) (sc := defScope sGaps) (by decide +kernel)) (fun _ _ _ _ _ => pg_name (i := 6) scGaps.nd rfl (Or.inl rfl)) (fun _ _ _ _ _ => by exact pts_one (pt_cmpR op_gt (pe_call G1 (hr.mono (by decide)) (by rfl) A1.mg A1.fn.kp A1.bi .nil pass0 (pa_cons (pv 0) (pa_cons pe_int pa_nil))) pe_int (nomark _))) (fun _ _ _ _ _ => (pe_op op_shl pe_int (pv 6)))) pa_nil)))) pss_nil)
      (pss_cons (ps_if (pt_cmpR op_eq (pv 3) pe_int (nomark _)) (pss_one (ps_setLc (i := 4) (own := [("_law_one", 7)]) (g := gName 7) (tt := (tTest (tOp rEq (tCall spTake [] E (tCons (tVar 0) (tCons (tC (V.int 3)) tNil))) (tC (V.int 0))))) rfl scGaps.nd rfl rfl (sw_true rfl rfl rfl (by decide +kernel)) (pi_range1 (by rfl) T.range (pa_cons (pe_op op_shl pe_int (pv 1)) pa_nil)) (blkOk_by (N := ["_law_box_here", "_law_size", "_law_most", "_law_way", "_law_found", "_law_turn", "_law_at", "_law_one"]) (sc := defScope sGaps) (by decide +kernel)) (fun _ _ _ _ _ => pg_name (i := 7) scGaps.nd rfl (Or.inl rfl)) (fun _ _ _ _ _ => by exact pts_one (pt_cmpR op_eq (pe_call G1 (hr.mono (by decide)) (by rfl) A1.mg A1.fn.kp A1.bi .nil pass0 (pa_cons (pv 0) (pa_cons pe_int pa_nil))) pe_int (nomark _))) (fun _ _ _ _ _ => (pv 7)))) pss_nil)
      (pss_one (ps_ret (pe_callTy call_tuple_of (by rfl) T.tuple (by decide +kernel) (pa_cons (pe_slice sl_list (pe_callB (cr_sort2 rfl) (by rfl) T.sorted (by decide +kernel) (pa_cons (pe_callTy (cr_set2 rfl) (by rfl) T.set (by decide +kernel) (pa_cons (pe_lc (own := [("_law_one", 7)]) (g := gName 7) (tt := (tTest (tOp (rI0 fun i j => .bl (decide (j < i))) (tVar 7) (tC (V.int 0))))) rfl scGaps.nd (pi_list (pv 4)) (blkOk_by (N := ["_law_box_here", "_law_size", "_law_most", "_law_way", "_law_found", "_law_turn", "_law_at", "_law_one"]) (sc := defScope sGaps) (by decide +kernel)) (fun _ _ _ _ _ => pg_name (i := 7) scGaps.nd rfl (Or.inl rfl)) (fun _ _ _ _ _ => by exact pts_one (pt_cmpR op_gt (pv 7) pe_int (nomark _))) (fun _ _ _ _ _ => (pv 7))) pa_nil)) pa_nil)) po_none (po_some (pv 2))) pa_nil))))))))), ?_⟩
    obtain ⟨p2a, p2b⟩ := pw_le s1 (by omega)
    have big : ∀ {x : Int}, x ≤ 70000 → x < 2 ^ 1000 := fun h => Int.lt_of_le_of_lt h (by decide +kernel)
    have e1 : (1 : Int) * 2 ^ sz.toNat = 2 ^ sz.toNat := Int.one_mul _
    have p9 : (2 : Int) ^ sz.toNat ≤ 512 := by
      have e : ∀ j : Nat, j < 10 → (2 : Int) ^ j ≤ 512 := by decide
      exact e _ (by omega)
    refine ⟨_, rfl, b, n, 6, o, rfl, hb, B, by omega, by decide, big (by decide), fun way o1 _ _ B1 => ?_⟩
    refine ⟨Nat.zero_le _, fun q0 hq0 => ?_⟩
    refine ⟨_, _, rfl, ?_⟩
    have sm0 : Sam b H _ := (Sam.upd (o := o1)).new (o := .lst []) hq0
    have hb0 := at_new (p := b) (u := .lst []) (upd_same (o := o1)) hq0
    have nq0 : q0 ≠ b := (ne_of_none (a := b) (H := upd H b o1) upd_same hq0).symm
    -- few
    refine seqTail (fun σ' H' => ∃ (q : Addr) (ns : List Int) (t5 t6 t7 : Option V) (o' : HO), σ' = [some (.ref b), some (.int sz), some (.int m), some (.int way), some (.ref q), t5, t6, t7] ∧ Sam b H H' ∧ H' b = some o' ∧ BoxO (n + 100) o' ∧ q ≠ b ∧ H' q = some (.lst (ns.map V.int)) ∧ InW sz ns ∧ ns.length ≤ 20) ?tl1 fun tail => ?mn1
    case mn1 =>
      refine ⟨_, rfl, _, _, rfl, rfl, _, rfl, ?_⟩
      by_cases hw : decide (way < 2) = true
      · refine iteTb hw ?_
        refine ⟨_, rfl, _, rfl, _, rfl, b, _, sz, m, _, rfl, hb0, B1, by omega, s1, by omega, m1, by omega, fun p ns H1 o2 hp sm1 hb1 B2 hp1 hin hl => ?_⟩
        refine ⟨p, _, rfl, .inr (SqT.of hp1), fun l hl1 => ?_⟩
        have nlb : l ≠ b := (ne_of_none hb1 hl1).symm
        exact tail _ _ ⟨l, ns, _, _, _, o2, rfl, (sm0.trans sm1).new hl1, at_new hb1 hl1, B2.mono (by omega), nlb, upd_same, hin, by omega⟩
      · refine iteFb (Bool.eq_false_iff.mpr hw) ?_
        exact tail _ _ ⟨q0, [], _, _, _, _, rfl, sm0, hb0, B1.mono (by omega), nq0, upd_same, fun x hx => (by cases hx), by decide⟩
    case tl1 =>
    clear hb0 B1 nq0 sm0
    rintro σ' H1 ⟨q, ns, t5, t6, t7, o', rfl, sm, hb1, Bq, nqb, hq, hin, hlen⟩
    -- spaces
    refine seqTail1 (fun σ' H' => ∃ (q : Addr) (ns : List Int) (t5 t6 t7 : Option V) (o' : HO), σ' = [some (.ref b), some (.int sz), some (.int m), some (.int way), some (.ref q), t5, t6, t7] ∧ Sam b H H' ∧ H' b = some o' ∧ BoxO (n + 200) o' ∧ q ≠ b ∧ H' q = some (.lst (ns.map V.int)) ∧ InW sz ns ∧ ns.length ≤ 50) ?tl2 fun tail => ?mn2
    case mn2 =>
      refine ⟨_, rfl, ?_⟩
      refine ⟨by show 2 ≤ sizeLine; decide, fun tq htq => ?_⟩
      refine ⟨tq, _, rfl, .inr (SqT.of upd_same), rfl, rfl, _, rfl, ?_⟩
      have smt : Sam b H (upd H1 tq (.tup [.int 2, .int 3])) := sm.new htq
      have hbt := at_new (u := .tup [.int 2, .int 3]) hb1 htq
      have hqt := at_new (u := .tup [.int 2, .int 3]) hq htq
      by_cases hw : inV (.int way) [.int 2, .int 3] = true
      · refine iteTb hw ?_
        refine ⟨_, rfl, b, _, 3, _, rfl, hbt, Bq, by omega, by decide, big (by decide), fun v o2 v0 v1 B2 => ?_⟩
        refine ⟨_, _, rfl, rfl, ?_⟩
        refine ⟨_, rfl, by omega, by omega, ?_⟩
        refine for_range (lo := 0) (fun i σ H' => ∃ (q : Addr) (ns : List Int) (t5 t6 t7 : Option V) (o' : HO), σ = [some (.ref b), some (.int sz), some (.int m), some (.int way), some (.ref q), t5, t6, t7] ∧ Sam b H H' ∧ H' b = some o' ∧ BoxO (n + 101 + 20 * (i : Int)) o' ∧ q ≠ b ∧ H' q = some (.lst (ns.map V.int)) ∧ InW sz ns ∧ ns.length ≤ 20 + 8 * i)
          ⟨q, ns, _, _, _, o2, rfl, smt.trans (Sam.upd (o := o2)), upd_same, B2.mono (by omega), nqb, (upd_ne nqb).trans hqt, hin, by omega⟩ ?_ ?_
        · rintro i σ H2 hi ⟨q, ns, t5, t6, t7, o3, rfl, sm2, hb2, B3, nqb, hq2, hin, hlen⟩
          have hi3 : i < 3 := by
            have : i < ((1 : Int) + v).toNat := hi
            omega
          refine ⟨_, rfl, _, rfl, _, rfl, b, _, sz, 3, _, rfl, hb2, B3, by omega, s1, by omega, by decide, by decide, fun p ls H3 o4 hp sm3 hb3 B4 hp3 inl lenl => ?_⟩
          obtain ⟨vv, evv, lvv, hvv⟩ := nv_of inl
          rw [evv] at hp3
          refine ⟨p, vv, rfl, hp3, by omega, fun l L H4 _ sm4 hl4 hA lE => ?_⟩
          have lL : L.length ≤ 8 := by
            rw [GF.all_len hA]
            have h1 := red0_le vv
            have e : ∀ j : Nat, j ≤ 3 → 2 ^ j ≤ 8 := by decide
            exact e _ (by omega)
          have hq4 := sm4 _ _ (sm3 _ _ nqb hq2)
          refine ⟨q, l, _, _, rfl, rfl, hq4, hl4, by rw [List.length_map, nv_len, sizeLine_eq]; omega, fun r hr' => ?_⟩
          have hb4 := sm4 _ _ hb3
          refine ⟨r, ns ++ L.map (fun n : Nat => (n : Int)), _, _, _, o4, rfl, ((sm2.trans sm3).trans (fun c u _ e => sm4 c u e)).new hr', at_new hb4 hr', B4.mono (by omega), (ne_of_none hb4 hr').symm, by rw [upd_same, List.map_append, nv_ints], ?_, ?_⟩
          · intro x hx
            rcases List.mem_append.mp hx with z | z
            · exact hin x z
            · obtain ⟨y, hy, rfl⟩ := List.mem_map.mp z
              have h1 := GF.ins_lt hvv ((hA.iff y).mp hy)
              refine ⟨Int.natCast_nonneg _, ?_⟩
              rw [← pow_cast]
              exact Int.ofNat_lt.mpr h1
          · rw [List.length_append, List.length_map]
            omega
        · rintro σ H2 ⟨q, ns, t5, t6, t7, o3, rfl, sm2, hb2, B3, nqb, hq2, hin, hlen⟩
          exact tail _ _ ⟨q, ns, _, _, _, o3, rfl, sm2, hb2, B3.mono (by omega), nqb, hq2, hin, by omega⟩
      · refine iteFb (Bool.eq_false_iff.mpr hw) ?_
        exact tail _ _ ⟨q, ns, _, _, _, o', rfl, smt, hbt, Bq.mono (by omega), nqb, hqt, hin, by omega⟩
    case tl2 =>
    clear hq hb1 sm Bq nqb hin hlen
    rintro σ' H2 ⟨q, ns, t5, t6, t7, o', rfl, sm, hb1, Bq, nqb, hq, hin, hlen⟩
    -- single bits
    refine seqTail1 (fun σ' H' => ∃ (q : Addr) (ns : List Int) (t5 t6 t7 : Option V) (o' : HO), σ' = [some (.ref b), some (.int sz), some (.int m), some (.int way), some (.ref q), t5, t6, t7] ∧ Sam b H H' ∧ H' b = some o' ∧ BoxO (n + 300) o' ∧ H' q = some (.lst (ns.map V.int)) ∧ InW sz ns ∧ ns.length ≤ 2048) ?tl3 fun tail => ?mn3
    case mn3 =>
      refine ⟨_, rfl, rfl, _, rfl, ?_⟩
      by_cases hw : decide (V.int way = V.int 4) = true
      · refine iteTb hw ?_
        refine ⟨_, rfl, _, rfl, by omega, by omega, fun D hD => ?_⟩
        have nDb : D ≠ b := (ne_of_none hb1 hD).symm
        refine G.w_range (fun i H' => ∃ (o' : HO) (vv : List Nat), Sam b H H' ∧ H' b = some o' ∧ BoxO (n + 200 + (i : Int)) o' ∧ H' D = some (.lst (nv vv)) ∧ vv.length ≤ i ∧ ∀ v ∈ vv, v < 2 ^ sz.toNat)
          ⟨o', [], sm.new hD, at_new hb1 hD, Bq.mono (by omega), upd_same, Nat.zero_le _, fun x hx => by cases hx⟩ ?_ ?_
        · rintro i H3 hi ⟨o3, vv, sm3, hb3, B3, hd, hl, hv⟩
          have hi9 : i < sz.toNat := by
            have : i < (sz - 0).toNat := by simpa using hi
            omega
          refine ⟨rfl, ?_⟩
          refine ⟨_, rfl, b, _, 3, _, rfl, hb3, B3, by omega, by decide, big (by decide), fun u o4 u0 u1 B4 => ?_⟩
          have smu : Sam b H (upd H3 b o4) := sm3.trans (Sam.upd (o := o4))
          have hdu := (upd_ne (H := H3) (o := o4) nDb).trans hd
          refine ⟨_, _, rfl, rfl, _, rfl, ?_⟩
          by_cases hc : decide ((0 : Int) < u) = true
          · refine iteTb hc ?_
            refine ⟨_, rfl, _, _, rfl, rfl, ⟨by omega, by omega, by decide⟩, ?_⟩
            refine ⟨_, hdu, by rw [nv_len, sizeLine_eq]; omega, o4, vv ++ [2 ^ i], ?_, ?_, B4.mono (by omega), ?_, ?_, ?_⟩
            · intro c w' nc e
              have h1 := smu c w' nc e
              have ncD : c ≠ D := fun z => by
                rw [z] at e
                have h2 := sm D w' nDb e
                rw [h2] at hD
                cases hD
              rw [upd_ne ncD]
              exact h1
            · rw [upd_ne nDb.symm]
              exact upd_same
            · rw [upd_same, ← nv_cat]
              show some (HO.lst (nv vv ++ [V.int (1 * 2 ^ (0 + (i : Int)).toNat)])) = _
              rw [Int.zero_add, Int.one_mul, Int.toNat_natCast, ← pow_cast]
              rfl
            · rw [List.length_append]
              show vv.length + 1 ≤ i + 1
              omega
            · intro v hv'
              rcases List.mem_append.mp hv' with z | z
              · exact hv v z
              · rw [List.mem_singleton.mp z]
                exact Nat.pow_lt_pow_right (by decide) hi9
          · refine iteFb (Bool.eq_false_iff.mpr hc) ?_
            exact ⟨o4, vv, smu, upd_same, B4.mono (by omega), hdu, Nat.le_succ_of_le hl, hv⟩
        · rintro H3 ⟨o3, vv, sm3, hb3, B3, hd, hl, hv⟩
          have hl9 : vv.length ≤ 9 := by
            have : vv.length ≤ (sz - 0).toNat := by simpa using hl
            omega
          have hl9' : (((sz - 0).toNat : Nat) : Int) ≤ 9 := by omega
          refine ⟨D, vv, rfl, hd, by omega, fun l L H4 _ sm4 hl4 hA lE => ?_⟩
          have hb4 := sm4 _ _ hb3
          refine tail _ _ ⟨l, L.map (fun n : Nat => (n : Int)), _, _, _, o3, rfl, sm3.trans (fun c u _ e => sm4 c u e), hb4, B3.mono (by omega), by rw [← nv_ints]; exact hl4, fun x hx => ?_, by rw [List.length_map]; exact lE⟩
          obtain ⟨y, hy, rfl⟩ := List.mem_map.mp hx
          have h1 := GF.ins_lt hv ((hA.iff y).mp hy)
          refine ⟨Int.natCast_nonneg _, ?_⟩
          rw [← pow_cast]
          exact Int.ofNat_lt.mpr h1
      · refine iteFb (Bool.eq_false_iff.mpr hw) ?_
        exact tail _ _ ⟨q, ns, _, _, _, o', rfl, sm, hb1, Bq.mono (by omega), hq, hin, by omega⟩
    case tl3 =>
    clear hq hb1 sm Bq nqb hin hlen
    rintro σ' H3 ⟨q, ns, t5, t6, t7, o', rfl, sm, hb1, Bq, hq, hin, hlen⟩
    -- a third of all
    refine seqTail1 (fun σ' H' => ∃ (q : Addr) (ns : List Int) (t5 t6 t7 : Option V) (o' : HO), σ' = [some (.ref b), some (.int sz), some (.int m), some (.int way), some (.ref q), t5, t6, t7] ∧ Sam b H H' ∧ H' b = some o' ∧ BoxO (n + 900) o' ∧ H' q = some (.lst (ns.map V.int)) ∧ InW sz ns ∧ ns.length ≤ 2048) ?tl4 fun tail => ?mn4
    case mn4 =>
      refine ⟨_, rfl, rfl, _, rfl, ?_⟩
      by_cases hw : decide (V.int way = V.int 5) = true
      · refine iteTb hw ?_
        refine ⟨_, rfl, _, _, rfl, rfl, ⟨by omega, by omega, by decide⟩, _, rfl, ?_, ?_, fun D hD => ?_⟩
        · show -(2 ^ 62) ≤ (1 : Int) * 2 ^ sz.toNat
          rw [e1]
          exact Int.le_trans (show (-(2 ^ 62) : Int) ≤ 2 by decide) p2a
        · show (1 : Int) * 2 ^ sz.toNat < 2 ^ 62
          rw [e1]
          exact Int.lt_of_le_of_lt p9 (by decide)
        have nDb : D ≠ b := (ne_of_none hb1 hD).symm
        refine G.w_range (fun i H' => ∃ (o' : HO) (ds : List Int), Sam b H H' ∧ H' b = some o' ∧ BoxO (n + 300 + (i : Int)) o' ∧ H' D = some (.lst (ds.map V.int)) ∧ ds.length ≤ i ∧ InW sz ds)
          ⟨o', [], sm.new hD, at_new hb1 hD, Bq.mono (by omega), upd_same, Nat.zero_le _, fun x hx => by cases hx⟩ ?_ ?_
        · rintro i H4 hi ⟨o3, ds, sm3, hb3, B3, hd, hl, hv⟩
          have hi9 : (i : Int) < 2 ^ sz.toNat := by
            have h9 : i < ((1 * 2 ^ sz.toNat : Int) - 0).toNat := by simpa using hi
            omega
          refine ⟨rfl, ?_⟩
          refine ⟨_, rfl, b, _, 3, _, rfl, hb3, B3, by omega, by decide, big (by decide), fun u o4 u0 u1 B4 => ?_⟩
          have smu : Sam b H (upd H4 b o4) := sm3.trans (Sam.upd (o := o4))
          have hdu := (upd_ne (H := H4) (o := o4) nDb).trans hd
          refine ⟨rfl, _, rfl, ?_⟩
          by_cases hc : decide (V.int u = V.int 0) = true
          · refine iteTb hc ?_
            refine ⟨_, rfl, _, hdu, by rw [List.length_map, sizeLine_eq]; omega, o4, ds ++ [0 + (i : Int)], ?_, ?_, B4.mono (by omega), ?_, ?_, ?_⟩
            · intro c w' nc e
              have h1 := smu c w' nc e
              have ncD : c ≠ D := fun z => by
                rw [z] at e
                have h2 := sm D w' nDb e
                rw [h2] at hD
                cases hD
              rw [upd_ne ncD]
              exact h1
            · rw [upd_ne nDb.symm]
              exact upd_same
            · rw [upd_same, List.map_append]
              rfl
            · rw [List.length_append]
              show ds.length + 1 ≤ i + 1
              omega
            · exact hv.snoc ⟨by omega, by omega⟩
          · refine iteFb (Bool.eq_false_iff.mpr hc) ?_
            exact ⟨o4, ds, smu, upd_same, B4.mono (by omega), hdu, Nat.le_succ_of_le hl, hv⟩
        · rintro H4 ⟨o3, ds, sm3, hb3, B3, hd, hl, hv⟩
          have hl9 : ds.length ≤ ((1 * 2 ^ sz.toNat : Int) - 0).toNat := by simpa using hl
          have hi9 : ((((1 * 2 ^ sz.toNat : Int) - 0).toNat : Nat) : Int) ≤ 512 := by omega
          refine tail _ _ ⟨D, ds, _, _, _, o3, rfl, sm3, hb3, B3.mono (by omega), hd, hv, by omega⟩
      · refine iteFb (Bool.eq_false_iff.mpr hw) ?_
        exact tail _ _ ⟨q, ns, _, _, _, o', rfl, sm, hb1, Bq.mono (by omega), hq, hin, by omega⟩
    case tl4 =>
    clear hq hb1 sm Bq hin hlen
    rintro σ' H4 ⟨q, ns, t5, t6, t7, o', rfl, sm, hb1, Bq, hq, hin, hlen⟩
    refine ⟨_, rfl, q, rfl, ⟨_, SqL.of hq⟩, fun D hD => ?_⟩
    have nqD := ne_of_none hq hD
    refine G.w_list (xs := ns.map V.int) (fun i H' => (∀ c u, c ≠ D → H4 c = some u → H' c = some u) ∧ H' D = some (.lst (((ns.take i).filter fun x => decide (0 < x)).map V.int))) ⟨fun c u n e => by rw [upd_ne n]; exact e, upd_same⟩ (fun i H' _ ⟨s1', _⟩ => SqL.of (s1' q _ nqD hq)) ?_ ?_
    · rintro i x H5 hx ⟨s2', hd⟩
      obtain ⟨z, ez, rfl, hi, _⟩ := at_map hx
      have tk : ns.take (i + 1) = ns.take i ++ [z] := by rw [List.take_add_one, ez]; rfl
      refine ⟨rfl, ?_⟩
      refine ⟨_, rfl, _, _, rfl, rfl, _, rfl, ?_⟩
      by_cases hc : decide ((0 : Int) < z) = true
      · refine iteTb hc ?_
        refine ⟨_, rfl, _, hd, ?_, fun c u nc e => by rw [upd_ne nc]; exact s2' c u nc e, ?_⟩
        · rw [List.length_map]
          refine Nat.lt_of_le_of_lt (List.length_filter_le _ _) ?_
          rw [List.length_take, sizeLine_eq]
          omega
        · rw [upd_same, tk, List.filter_append, List.filter_cons_of_pos (p := fun x : Int => decide (0 < x)) hc, List.filter_nil, List.map_append]
          rfl
      · refine iteFb (Bool.eq_false_iff.mpr hc) ?_
        refine ⟨s2', ?_⟩
        rw [hd, tk, List.filter_append, List.filter_cons_of_neg (p := fun x : Int => decide (0 < x)) hc, List.filter_nil, List.append_nil]
    rintro H5 ⟨s2', hd⟩
    rw [List.length_map, List.take_length] at hd
    have sm5 : Sam b H H5 := fun c u nc e => s2' c u (ne_of_none (sm c u nc e) hD) (sm c u nc e)
    have hb5 := s2' b _ (ne_of_none hb1 hD) hb1
    have hfm : ∀ x ∈ ns.filter (fun x => decide (0 < x)), 0 < x ∧ x < 2 ^ sz.toNat := fun x hx => by
      obtain ⟨h1, h2⟩ := List.mem_filter.mp hx
      exact ⟨of_decide_eq_true h2, (hin x h1).2⟩
    have hfl := List.length_filter_le (fun x : Int => decide (0 < x)) ns
    generalize ns.filter (fun x => decide (0 < x)) = fs at hd hfm hfl
    refine ⟨D, fs, rfl, SqL.of hd, by omega, fun a O ha hO => ?_⟩
    refine ⟨a, _, O, rfl, upd_same, hO, fun L q3 hs hmL hq3 => ?_⟩
    have h0L : ∀ x ∈ L, 0 < x ∧ x < 2 ^ sz.toNat := fun x hx => hfm x (of_decide_eq_true ((hmL x).mp hx))
    obtain ⟨g, rfl, gasc⟩ := nat_list hs fun x hx => by
      have := (h0L x hx).1
      omega
    refine ⟨_, rfl, _, rfl, q3, _, rfl, SqL.of upd_same, fun c hc => ?_⟩
    refine ⟨c, _, rfl, .inl ⟨SqL.of upd_same, fun p hp => ?_⟩⟩
    have ec : cutV ((g.map fun n : Nat => (n : Int)).map V.int) none (some m) = nv (g.take m.toNat) := by
      rw [← nv_ints]
      exact cut_front g m (by omega)
    have smE : Sam b H _ := (((sm5.new (o := O) ha).new (o := .lst ((g.map fun n : Nat => (n : Int)).map V.int)) hq3).new (o := .lst (cutV ((g.map fun n : Nat => (n : Int)).map V.int) none (some m))) hc).new (o := .tup (cutV ((g.map fun n : Nat => (n : Int)).map V.int) none (some m))) hp
    have hbE := at_new (u := .tup (cutV ((g.map fun n : Nat => (n : Int)).map V.int) none (some m))) (at_new (u := .lst (cutV ((g.map fun n : Nat => (n : Int)).map V.int) none (some m))) (at_new (u := .lst ((g.map fun n : Nat => (n : Int)).map V.int)) (at_new (u := O) hb5 ha) hq3) hc) hp
    have npb : p ≠ b := (ne_of_none (at_new (u := .lst (cutV ((g.map fun n : Nat => (n : Int)).map V.int) none (some m))) (at_new (u := .lst ((g.map fun n : Nat => (n : Int)).map V.int)) (at_new (u := O) hb5 ha) hq3) hc) hp).symm
    have hp0 : H p = none := by
      cases e : H p with
      | none => rfl
      | some u =>
        have h9 := (((sm5.new (o := O) ha).new (o := .lst ((g.map fun n : Nat => (n : Int)).map V.int)) hq3).new (o := .lst (cutV ((g.map fun n : Nat => (n : Int)).map V.int) none (some m))) hc) p u npb e
        rw [h9] at hp
        cases hp
    have hmem : ∀ x ∈ g, 0 < x ∧ x < 2 ^ sz.toNat := fun x hx => by
      have h9 := h0L (x : Int) (List.mem_map.mpr ⟨x, hx, rfl⟩)
      rw [← pow_cast] at h9
      exact ⟨Int.ofNat_lt.mp h9.1, Int.ofNat_lt.mp h9.2⟩
    refine k p (g.take m.toNat) _ o' hp0 smE hbE (Bq.mono (by omega)) (by rw [upd_same, ec]) ⟨fun x hx => (hmem x (List.mem_of_mem_take hx)).2, gasc.sublist (List.take_sublist _ _), fun x hx => (hmem x (List.mem_of_mem_take hx)).1⟩ ?_
    rw [List.length_take]
    omega
end
end X1
set_option Elab.async false
set_option maxRecDepth 100000
set_option maxHeartbeats 4000000
namespace X1
open PySem L2
open GF (pc par pc_0 pc_eq par_lt InS Can Red Els All Part Orth bk comb InvM Zer)
theorem comb_map (vv : List Nat) : ∀ (R : List Nat) (t : Nat), comb vv (comb R t) = comb (R.map (comb vv)) t
  | [], t => GF.comb_0 vv
  | r :: R, t => by
    show comb vv ((if t % 2 = 1 then r else 0) ^^^ comb R (t / 2)) = (if t % 2 = 1 then comb vv r else 0) ^^^ comb (R.map (comb vv)) (t / 2)
    rw [GF.comb_xor, comb_map vv R (t / 2)]
    by_cases h : t % 2 = 1
    · rw [if_pos h, if_pos h]
    · rw [if_neg h, if_neg h, GF.comb_0]
theorem made_map {vv os R : List Nat} (m : Made vv os R) : R.map (comb vv) = os := by
  refine List.ext_getElem? fun j => ?_
  rw [List.getElem?_map]
  by_cases hj : j < os.length
  · have hj' : j < R.length := by rw [m.1]; exact hj
    have er := List.getElem?_eq_getElem hj'
    have eo := List.getElem?_eq_getElem hj
    rw [er, eo]
    exact congrArg some (m.2 j _ _ er eo).2
  · rw [List.getElem?_eq_none (by rw [m.1]; omega), List.getElem?_eq_none (by omega)]
    rfl
theorem made_lt {vv os R : List Nat} (m : Made vv os R) : ∀ r ∈ R, r < 2 ^ vv.length := fun r hr => by
  obtain ⟨j, hj⟩ := List.getElem?_of_mem hr
  have hl := (List.getElem?_eq_some_iff.mp hj).1
  have eo := List.getElem?_eq_getElem (show j < os.length by rw [← m.1]; exact hl)
  exact (m.2 j _ _ hj eo).1
theorem made_both {vv os us R T : List Nat} (m : Made vv os R) (t : Made os us T) : Made vv us (T.map (comb R)) := by
  refine ⟨by rw [List.length_map, t.1], fun j r o hj ho => ?_⟩
  rw [List.getElem?_map] at hj
  cases e : T[j]? with
  | none =>
    rw [e] at hj
    cases hj
  | some c =>
    rw [e] at hj
    cases hj
    refine ⟨GF.ins_lt (made_lt m) (GF.comb_in R c), ?_⟩
    rw [comb_map, made_map m]
    exact (t.2 j c o e ho).2
theorem made_bk {vv os R : List Nat} (m : Made vv os R) (a : Nat) : bk R (bk vv a) = bk os a := by
  refine Nat.eq_of_testBit_eq fun j => ?_
  rw [GF.bk_bit, GF.bk_bit]
  by_cases hj : j < os.length
  · have hj' : j < R.length := by rw [m.1]; exact hj
    have er := List.getElem?_eq_getElem hj'
    have eo := List.getElem?_eq_getElem hj
    have := (m.2 j _ _ er eo).2
    rw [List.getD_eq_getElem?_getD, er, List.getD_eq_getElem?_getD, eo, Option.getD_some, Option.getD_some, GF.dot_comm _ R[j], GF.dot_comb, this, GF.dot_comm]
  · have e1 : R[j]? = none := List.getElem?_eq_none (by rw [m.1]; omega)
    have e2 : os[j]? = none := List.getElem?_eq_none (by omega)
    rw [List.getD_eq_getElem?_getD, e1, List.getD_eq_getElem?_getD, e2, Option.getD_none, GF.dot_0, GF.dot_0]
theorem made_inv {vv R : List Nat} {w : Nat} (hl : vv.length = w) (m : Made vv ((List.range w).map (2 ^ ·)) R) : InvM vv R w := by
  refine ⟨by rw [m.1, List.length_map, List.length_range], fun j r hj => ?_⟩
  have hjl : j < w := by
    have := (List.getElem?_eq_some_iff.mp hj).1
    rw [m.1, List.length_map, List.length_range] at this
    exact this
  have := m.2 j r (2 ^ j) hj (by rw [List.getElem?_map, List.getElem?_range hjl]; rfl)
  rw [hl] at this
  exact this
theorem inv_map {vv R : List Nat} {w : Nat} (I : InvM vv R w) : R.map (comb vv) = (List.range w).map (2 ^ ·) := by
  refine List.ext_getElem? fun j => ?_
  rw [List.getElem?_map, List.getElem?_map]
  by_cases hj : j < w
  · have hj' : j < R.length := by rw [I.len]; exact hj
    have er := List.getElem?_eq_getElem hj'
    rw [er, List.getElem?_range hj]
    exact congrArg some (I.at_ j _ er).2
  · rw [List.getElem?_eq_none (by rw [I.len]; omega), List.getElem?_eq_none (by rw [List.length_range]; omega)]
    rfl
/-- a combination, mask by mask -/
theorem comb_next : ∀ (vv : List Nat) (i r v : Nat), vv[i]? = some v → comb (vv.take (i + 1)) r = comb (vv.take i) r ^^^ v * (r / 2 ^ i % 2)
  | [], _, _, _, h => (by simp at h)
  | u :: us, 0, r, v, h => by
    have h : u = v := by simpa using h
    subst h
    show (if r % 2 = 1 then u else 0) ^^^ comb (us.take 0) (r / 2) = 0 ^^^ u * (r / 2 ^ 0 % 2)
    rw [List.take_zero, Nat.pow_zero, Nat.div_one, Nat.zero_xor]
    show (if r % 2 = 1 then u else 0) ^^^ 0 = _
    rw [Nat.xor_zero]
    rcases Nat.mod_two_eq_zero_or_one r with z | z
    · rw [z, if_neg (by decide), Nat.mul_zero]
    · rw [z, if_pos rfl, Nat.mul_one]
  | u :: us, i + 1, r, v, h => by
    have ih := comb_next us i (r / 2) v (by simpa using h)
    show (if r % 2 = 1 then u else 0) ^^^ comb (us.take (i + 1)) (r / 2) = ((if r % 2 = 1 then u else 0) ^^^ comb (us.take i) (r / 2)) ^^^ v * (r / 2 ^ (i + 1) % 2)
    rw [ih, Nat.xor_assoc, Nat.div_div_eq_div_mul, Nat.pow_succ, Nat.mul_comm 2]
theorem comb_lt {vv : List Nat} {w : Nat} (h : ∀ v ∈ vv, v < 2 ^ w) (c : Nat) : comb vv c < 2 ^ w := GF.ins_lt h (GF.comb_in vv c)
/-- recoding and kernels -/
theorem span_zer {vv os A Z Y : List Nat} {w : Nat} (hv : ∀ v ∈ vv, v < 2 ^ w) (ho : ∀ v ∈ os, v < 2 ^ w) (hA : ∀ m, InS A m ↔ m < 2 ^ w ∧ Orth vv m) (z : Zer w vv Z) (y : Zer w os Y) : (∀ o ∈ os, InS vv o) ↔ ∀ x ∈ Z, x ∈ Y := by
  constructor
  · intro h x hx
    obtain ⟨h1, h2⟩ := (z.iff x).mp hx
    have ov := (GF.bk_0 vv x).mp h2
    exact (y.iff x).mpr ⟨h1, (GF.bk_0 os x).mpr fun o hm => GF.ins_dot ov (h o hm)⟩
  · intro h o hm
    have hL : ∀ r ∈ GF.red0 vv, r < 2 ^ w := fun r hr => GF.ins_lt hv ((GF.red0_span vv r).mp (GF.ins_mem hr))
    refine (GF.red0_span vv o).mp ((GF.orth_orth (GF.red0_red vv) hL (A := A) (fun m => by rw [hA, GF.orth_span (GF.red0_span vv)]) (ho o hm)).mp fun a ha => ?_)
    obtain ⟨a1, a2⟩ := (hA a).mp (GF.ins_mem ha)
    have hy := (y.iff a).mp (h a ((z.iff a).mpr ⟨a1, (GF.bk_0 vv a).mpr a2⟩))
    rw [GF.dot_comm]
    exact (GF.bk_0 os a).mp hy.2 o hm
theorem zer_same {vv os Z Y : List Nat} {w : Nat} (z : Zer w vv Z) (y : Zer w os Y) : ((∀ x ∈ Z, x ∈ Y) ∧ ∀ x ∈ Y, x ∈ Z) ↔ Z = Y :=
  ⟨fun ⟨h1, h2⟩ => GF.sorted_ext z.srt y.srt fun x => ⟨h1 x, h2 x⟩, fun e => by subst e; exact ⟨fun _ h => h, fun _ h => h⟩⟩
theorem eqvAll_dec : ∀ a b : List Int, PyData.eqvAll (a.map PyData.int) (b.map PyData.int) = decide (a = b)
  | [], [] => rfl
  | [], _ :: _ => rfl
  | _ :: _, [] => rfl
  | x :: a, y :: b => by
    show ((x == y) && PyData.eqvAll (a.map PyData.int) (b.map PyData.int)) = _
    rw [eqvAll_dec a b]
    by_cases h : x = y
    · subst h
      simp
    · simp [h]
theorem eqv_dec (a b : List Nat) : PyData.eqv (.list ((a.map fun n : Nat => (n : Int)).map PyData.int)) (.list ((b.map fun n : Nat => (n : Int)).map PyData.int)) = decide (a = b) := by
  show PyData.eqvAll _ _ = _
  rw [eqvAll_dec, decide_eq_decide]
  exact ⟨fun h => List.map_inj_right (fun _ _ e => Int.ofNat_inj.mp e) |>.mp h, fun h => by rw [h]⟩
section
variable {P : Program} {w : World} {K : PySem.W.Frag} {mg : Str → Option Value} {base : Heap}
/-! ### _law_led -/
def spLed : Sp := fun vs H Q _ => ∃ (sz : Int) (t p : Addr) (R vv : List Nat), vs = [.int sz, .ref t, .ref p] ∧ H t = some (.tup (nv R)) ∧ H p = some (.tup (nv vv)) ∧ R.length ≤ 16 ∧ vv.length ≤ 16 ∧ (∀ v ∈ vv, v < 65536) ∧ (∀ r ∈ R, r < 65536) ∧
  ∀ (q : Addr) (H' : Hp), Same H H' → H' q = some (.tup (nv (R.map (comb vv)))) → Q (.ref q) H'
theorem scLed : FnScope ["_law_size", "_law_recoded", "_law_plan_here", "_law_found", "_law_row", "_law_mask", "_law_at", "_law_part"] ["_law_size", "_law_recoded", "_law_plan_here"] (defScope sLed) := ⟨rfl, rfl, rfl, by decide +kernel, rfl, by decide +kernel, by decide +kernel⟩
theorem ok_led {f : Addr} {fd : FuncData} (A0 : At K mg "_law_led" sLed ["_law_size", "_law_recoded", "_law_plan_here"] f fd) (T : Txt K mg) : FnOk P w K mg base CX0 1 f fd ["_law_size", "_law_recoded", "_law_plan_here"] spLed := by
  refine A0.fn.ok scLed (fun vs H Q E h => ?_) (fun cdv A outer s H vs Q E hr h => ?_)
  · obtain ⟨sz, t, p, R, vv, rfl, _⟩ := h
    rfl
  · obtain ⟨sz, t, p, R, vv, rfl, ht, hp, lR, lv, bv, bR, k⟩ := h
    refine ⟨_, (pss_cons (ps_set (i := 3) scLed.nd rfl (Or.inl rfl) (pe_lst pa_nil))
      (pss_cons (ps_for PassesOwn.never rfl (pi_tup (pv 1)) (pg_name (i := 4) scLed.nd rfl (Or.inl rfl)) (pss_cons (ps_set (i := 5) scLed.nd rfl (Or.inl rfl) pe_int)
      (pss_cons (ps_for PassesOwn.never rfl (G.pi_enumT (by rfl) T.enum (pa_cons (pv 2) pa_nil)) (by exact pg_tup rfl (pgs_cons (pg_name (i := 6) scLed.nd rfl (Or.inl rfl)) (pgs_cons (pg_name (i := 7) scLed.nd rfl (Or.inl rfl)) pgs_nil))) (g := gTup K 2 (gCons (gName 6) (gCons (gName 7) gNil))) (pss_one (ps_set (i := 5) scLed.nd rfl (Or.inl rfl) (pe_op op_xor (pv 5) (pe_op op_mul (pv 7) (pe_op op_and (pe_op op_shr (pv 4) (pv 6)) pe_int))))))
      (pss_one (ps_expr (pe_bm PySem.F.plainAttrs_list PySem.F.slot_list_append PySem.F.type_list_append mt_append (pv 3) (pa_cons (pv 5) pa_nil)))))))
      (pss_one (ps_ret (pe_callTy call_tuple_of (by rfl) T.tuple (by decide +kernel) (pa_cons (pv 3) pa_nil)))))), ?_⟩
    refine ⟨Nat.zero_le _, fun l hl => ?_⟩
    have sm0 : Same H (upd H l (.lst [])) := keep_new (Same.refl H) hl
    refine ⟨_, rfl, t, rfl, ⟨_, SqT.of (sm0 _ _ ht)⟩, ?_⟩
    refine for_tup (K := K) (a := t) (xs := nv R) (fun i σ H' => ∃ (t4 t5 t6 t7 : Option V), σ = [some (.int sz), some (.ref t), some (.ref p), some (.ref l), t4, t5, t6, t7] ∧ Same H H' ∧ H' l = some (.lst (nv ((R.take i).map (comb vv)))))
      ⟨none, none, none, none, rfl, sm0, upd_same⟩ (fun i σ H' _ ⟨_, _, _, _, _, sm, _⟩ => SqT.of (sm _ _ ht)) ?_ ?_
    · rintro i x σ H1 hx ⟨t4, t5, t6, t7, rfl, sm1, hl1⟩
      obtain ⟨r, er, rfl, hi⟩ := nv_at hx
      have hr65 := bR r (List.mem_of_getElem? er)
      refine ⟨_, rfl, p, _, rfl, SqT.of (sm1 _ _ hp), ?_⟩
      refine for_it (G.walk_enumT (K := K) (a := p) (xs := nv vv)) (fun j σ H' => ∃ (t6 t7 : Option V), σ = [some (.int sz), some (.ref t), some (.ref p), some (.ref l), some (.int (r : Int)), some (.int ((comb (vv.take j) r : Nat) : Int)), t6, t7] ∧ Same H H' ∧ H' l = some (.lst (nv ((R.take i).map (comb vv)))))
        ⟨_, _, rfl, sm1, hl1⟩ (fun j σ H' _ ⟨_, _, _, sm, _⟩ => SqT.of (sm _ _ hp)) ?_ ?_
      · rintro j x σ H2 H3 hj ⟨t6, t7, rfl, sm2, hl2⟩ ⟨Tp, x1, x2, rfl, hT, rfl, e1, e2⟩
        cases e1
        obtain ⟨m, em, rfl, hjl⟩ := nv_at e2
        have hm := bv m (List.mem_of_getElem? em)
        refine ⟨Tp, _, rfl, SqT.of upd_same, rfl, _, _, rfl, _, _, rfl, rfl, ?_⟩
        refine ⟨_, rfl, _, rfl, _, rfl, _, rfl, _, _, rfl, rfl, by omega, _, _, rfl, rfl, _, _, rfl, rfl, .inl ⟨by omega, by omega⟩, _, _, rfl, rfl, ?_⟩
        have sm3 : Same H (upd H2 Tp (.tup [.int (j : Int), .int (m : Int)])) := keep_new sm2 hT
        refine ⟨some (.int (j : Int)), some (.int (m : Int)), ?_, sm3, new_at hl2 hT⟩
        have ev : Builtin.bitXor ((comb (vv.take j) r : Nat) : Int) ((m : Int) * Builtin.bitAnd ((r : Int) / 2 ^ ((j : Int)).toNat) 1) = ((comb (vv.take (j + 1)) r : Nat) : Int) := by
          rw [PyProof.Rows.bitAnd_m1, Int.toNat_natCast, ← pow_cast, comb_next vv j r m em]
          have e9 : (m : Int) * ((r : Int) / ((2 ^ j : Nat) : Int) % 2) = ((m * (r / 2 ^ j % 2) : Nat) : Int) := by
            rw [Int.natCast_mul, Int.natCast_emod, Int.natCast_ediv]
            rfl
          rw [e9, Bits.bitXor_pp (Int.natCast_nonneg _) (Int.natCast_nonneg _)]
          rfl
        exact congrArg (fun z : Int => [some (V.int sz), some (V.ref t), some (V.ref p), some (V.ref l), some (V.int (r : Int)), some (V.int z), some (V.int (j : Int)), some (V.int (m : Int))]) ev
      · rintro σ H2 ⟨t6, t7, rfl, sm2, hl2⟩
        rw [nv_len, List.take_length]
        refine ⟨_, rfl, .inl ⟨rfl, _, SqL.of hl2⟩, _, rfl, l, _, _, rfl, rfl, hl2, ?_, ?_⟩
        · rw [nv_len, List.length_map, List.length_take, sizeLine_eq]
          omega
        refine ⟨_, _, _, _, rfl, fun c u e => by rw [upd_ne (ne_of_none e hl)]; exact sm2 c u e, ?_⟩
        rw [upd_same, List.take_add_one, er, List.map_append, ← nv_cat]
        rfl
    · rintro σ H1 ⟨t4, t5, t6, t7, rfl, sm1, hl1⟩
      rw [nv_len, List.take_length] at hl1
      refine ⟨_, rfl, l, _, rfl, .inl ⟨SqL.of hl1, fun q hq => ?_⟩⟩
      exact k q _ (keep_new sm1 hq) upd_same
/-! ### _law_pair -/
def spPair : Sp := fun vs H Q _ => ∃ (b : Addr) (n sz : Int) (o : HO), vs = [.ref b, .int sz] ∧ H b = some o ∧ BoxO n o ∧ n ≤ 700000 ∧ 1 ≤ sz ∧ sz ≤ 8 ∧
  ∀ (t p q : Addr) (vv os : List Nat) (H' : Hp) (o' : HO), Sam b H H' → H' b = some o' → BoxO (n + 100) o' → H' t = some (.tup [.ref p, .ref q]) → p ≠ b → q ≠ b → H' p = some (.tup (nv vv)) → H' q = some (.tup (nv os)) → 1 ≤ vv.length → vv.length ≤ 6 → 1 ≤ os.length → os.length ≤ 12 → (∀ v ∈ vv, v < 2 ^ sz.toNat) → (∀ v ∈ os, v < 2 ^ sz.toNat) → Q (.ref t) H'
theorem scPair : FnScope ["_law_box_here", "_law_size", "_law_plan_here", "_law_sums", "_law_way", "_law_target", "_law_turn"] ["_law_box_here", "_law_size"] (defScope sPair) := ⟨rfl, rfl, rfl, by decide +kernel, rfl, by decide +kernel, by decide +kernel⟩
theorem ok_pair {f f1 f2 f3 f4 f5 : Addr} {fd fd1 fd2 fd3 fd4 fd5 : FuncData} (A0 : At K mg "_law_pair" sPair ["_law_box_here", "_law_size"] f fd) (A1 : At K mg "_law_take" sTake ["_law_box_here", "_law_many"] f1 fd1) (A2 : At K mg "_law_of" sOf ["_law_box_here", "_law_some"] f2 fd2)
    (AL : At K mg "_law_lot" sLot ["_law_box_here", "_law_size", "_law_most"] f3 fd3) (AA : At K mg "_law_all_of" sAllOf ["_law_lot_here"] f4 fd4) (APl : At K mg "_law_plan" sPlan ["_law_box_here", "_law_size", "_law_many"] f5 fd5) (T : Txt K mg) : FnOk P w K mg base CX0 5 f fd ["_law_box_here", "_law_size"] spPair := by
  have G1 : FnOk P w K mg base CX0 1 f1 fd1 ["_law_box_here", "_law_many"] spTake := ok_take A1
  have G2 : FnOk P w K mg base CX0 2 f2 fd2 ["_law_box_here", "_law_some"] spOf := ok_of A2 A1 T
  have GPl : FnOk P w K mg base CX0 4 f5 fd5 ["_law_box_here", "_law_size", "_law_many"] spLot := ok_plan APl A1 A2 AL T
  have GA : FnOk P w K mg base CX0 1 f4 fd4 ["_law_lot_here"] (spAllOf K) := ok_allOf AA T
  refine A0.fn.ok scPair (fun vs H Q E h => ?_) (fun cdv A outer s H vs Q E hr h => ?_)
  · obtain ⟨b, n, sz, o, rfl, _⟩ := h
    rfl
  · obtain ⟨b, n, sz, o, rfl, hb, B, hn, s1, s2, k⟩ := h
    refine ⟨_, (pss_cons (ps_set (i := 2) scPair.nd rfl (Or.inl rfl) (pe_op op_catN (pe_call GPl hr (by rfl) APl.mg APl.fn.kp APl.bi .nil pass0 (pa_cons (pv 0) (pa_cons (pv 1) (pa_cons pe_int pa_nil)))) (pe_tup (pa_cons (pe_call G1 (hr.mono (by decide)) (by rfl) A1.mg A1.fn.kp A1.bi .nil pass0 (pa_cons (pv 0) (pa_cons (pe_op op_shl pe_int (pv 1)) pa_nil))) pa_nil))))
      (pss_cons (ps_asg (g := gTup K 2 (gCons (gName 3) (gCons (gName 4) gNil))) (pe_tup (pa_cons (pe_call GA (hr.mono (by decide)) (by rfl) AA.mg AA.fn.kp AA.bi .nil pass0 (pa_cons (pv 2) pa_nil)) (pa_cons (pe_call G1 (hr.mono (by decide)) (by rfl) A1.mg A1.fn.kp A1.bi .nil pass0 (pa_cons (pv 0) (pa_cons pe_int pa_nil))) pa_nil))) (by exact pg_tup rfl (pgs_cons (pg_name (i := 3) scPair.nd rfl (Or.inr rfl)) (pgs_cons (pg_name (i := 4) scPair.nd rfl (Or.inl rfl)) pgs_nil))))
      (pss_cons (ps_if (pt_cmpR op_eq (pv 4) pe_int (nomark _)) (pss_one (ps_ret (pe_tup (pa_cons (pv 2) (pa_cons (pe_op op_catN (pe_call GPl hr (by rfl) APl.mg APl.fn.kp APl.bi .nil pass0 (pa_cons (pv 0) (pa_cons (pv 1) (pa_cons pe_int pa_nil)))) (pe_tup (pa_cons (pe_call G1 (hr.mono (by decide)) (by rfl) A1.mg A1.fn.kp A1.bi .nil pass0 (pa_cons (pv 0) (pa_cons (pe_op op_shl pe_int (pv 1)) pa_nil))) pa_nil))) pa_nil))))) pss_nil)
      (pss_cons (ps_set (i := 5) scPair.nd rfl (Or.inl rfl) (pe_callTy call_tuple_of (by rfl) T.tuple (by decide +kernel) (pa_cons (pe_lc (own := [("_law_turn", 6)]) (g := gName 6) (tt := tYes) rfl scPair.nd (pi_range1 (by rfl) T.range (pa_cons (pe_op op_add pe_int (pe_call G1 (hr.mono (by decide)) (by rfl) A1.mg A1.fn.kp A1.bi .nil pass0 (pa_cons (pv 0) (pa_cons pe_int pa_nil)))) pa_nil)) (blkOk_by (N := ["_law_box_here", "_law_size", "_law_plan_here", "_law_sums", "_law_way", "_law_target", "_law_turn"]) (sc := defScope sPair) (by decide +kernel)) (fun _ _ _ _ _ => pg_name (i := 6) scPair.nd rfl (Or.inl rfl)) (fun _ _ _ _ _ => pts_nil) (fun _ _ _ _ _ => (pe_call G2 (hr.mono (by decide)) (by rfl) A2.mg A2.fn.kp A2.bi .nil pass0 (pa_cons (pv 0) (pa_cons (pv 3) pa_nil))))) pa_nil)))
      (pss_one (ps_ret (pe_tup (pa_cons (pv 2) (pa_cons (pe_ifExp (pt_cmpR op_eq (pv 4) pe_int (nomark _)) (pv 5) (pe_op op_catN (pv 5) (G.pe_revT (pv 2)))) pa_nil))))))))), ?_⟩
    obtain ⟨p2a, p2b⟩ := pw_le s1 (by omega)
    have big : ∀ {x : Int}, x ≤ 70000 → x < 2 ^ 1000 := fun h => Int.lt_of_le_of_lt h (by decide +kernel)
    have e1 : (1 : Int) * 2 ^ sz.toNat = 2 ^ sz.toNat := Int.one_mul _
    have toSam : ∀ {X Y : Hp}, Same X Y → Sam b X Y := fun h c u _ e => h c u e
    have lstne : ∀ {X : Hp} {o : HO} {m : Int} {r : Addr} {xs : List V}, X b = some o → BoxO m o → X r = some (.tup xs) → r ≠ b := fun hx hB hr e => by
      obtain ⟨_, _, _, e9, _⟩ := hB
      rw [e, hx, e9] at hr
      cases hr
    -- a map of one mask or more, twice
    refine ⟨_, rfl, _, rfl, b, _, sz, 5, o, rfl, hb, B, by omega, s1, by omega, by decide, by decide, fun p0 ns H1 o1 hp0 sm1 hb1 B1 hp1 hin hl => ?_⟩
    obtain ⟨ww, eww, lww, hww⟩ := nv_of hin
    rw [eww] at hp1
    refine ⟨_, rfl, _, rfl, _, _, rfl, rfl, ⟨by omega, by omega, by decide⟩, b, _, _, o1, rfl, hb1, B1, by omega, by omega, big (by omega), fun x o2 x0 x1 B2 => ?_⟩
    obtain ⟨x, rfl⟩ := Int.eq_ofNat_of_zero_le x0
    have n0b := lstne hb1 B1 hp1
    refine ⟨by show 1 ≤ sizeLine; decide, fun q1 hq1 => ?_⟩
    refine ⟨p0, q1, ww, [x], rfl, rfl, new_at ((upd_ne n0b).trans hp1) hq1, upd_same, by rw [List.length_singleton]; omega, fun p H2 sm2 hp2 => ?_⟩
    have hx : x < 2 ^ sz.toNat := by
      rw [e1, ← pow_cast] at x1
      exact Int.ofNat_lt.mp x1
    have smA : Sam b H H2 := ((sm1.trans (Sam.upd (o := o2))).new (o := .tup (nv [x])) hq1).trans (toSam sm2)
    have hb2 := sm2 _ _ (new_at (upd_same (H := H1) (a := b) (o := o2)) hq1)
    have hvv : ∀ v ∈ ww ++ [x], v < 2 ^ sz.toNat := fun v hv => (List.mem_append.mp hv).elim (hww v) (fun h => by rw [List.mem_singleton.mp h]; exact hx)
    have lvv : (ww ++ [x]).length = ww.length + 1 := List.length_append
    generalize (ww ++ [x]) = vv at hp2 hvv lvv
    have npb := lstne hb2 B2 hp2
    have lv6 : vv.length ≤ 6 := by omega
    -- all sums
    refine ⟨_, rfl, p, vv, rfl, hp2, by omega, fun z Z H3 hz0 sm3 hz3 aZ lZ => ?_⟩
    have hb3 := sm3 _ _ hb2
    have hp3 := sm3 _ _ hp2
    have nzb : z ≠ b := (ne_of_none hb2 hz0).symm
    have lZ64 : Z.length ≤ 64 := by
      rw [GF.all_len aZ]
      have h1 := red0_le vv
      have e : ∀ j : Nat, j ≤ 6 → 2 ^ j ≤ 64 := by decide
      exact e _ (by omega)
    have Zpos : 0 < Z.length := List.length_pos_of_mem ((aZ.iff 0).mpr (GF.ins_0 vv))
    refine ⟨_, rfl, b, _, 3, _, rfl, hb3, B2, by omega, by decide, big (by decide), fun way o3 w0 w1 B3 => ?_⟩
    refine ⟨by show 2 ≤ sizeLine; decide, fun tq htq => ?_⟩
    refine ⟨tq, _, rfl, SqT.of upd_same, rfl, _, _, rfl, _, _, rfl, rfl, ?_⟩
    have smB : Sam b H (upd (upd H3 b o3) tq (.tup [.ref z, .int way])) := ((smA.trans (toSam sm3)).trans (Sam.upd (o := o3))).new htq
    have hb4 := new_at (u := .tup [.ref z, .int way]) (upd_same (H := H3) (a := b) (o := o3)) htq
    have hp4 := new_at (u := .tup [.ref z, .int way]) ((upd_ne (H := H3) (o := o3) npb).trans hp3) htq
    have hz4 := new_at (u := .tup [.ref z, .int way]) ((upd_ne (H := H3) (o := o3) nzb).trans hz3) htq
    generalize (upd (upd H3 b o3) tq (.tup [.ref z, .int way])) = H4 at smB hb4 hp4 hz4 ⊢
    refine ⟨_, rfl, rfl, _, rfl, ?_⟩
    by_cases hw : decide (V.int way = V.int 0) = true
    · refine iteTb hw ?_
      refine ⟨_, rfl, _, rfl, _, rfl, b, _, sz, 5, _, rfl, hb4, B3, by omega, s1, by omega, by decide, by decide, fun p5 ms H5 o5 hp50 sm5 hb5 B5 hp5 hin5 hl5 => ?_⟩
      obtain ⟨uu, euu, luu, huu⟩ := nv_of hin5
      rw [euu] at hp5
      have n5b := lstne hb5 B5 hp5
      refine ⟨_, rfl, _, rfl, _, _, rfl, rfl, ⟨by omega, by omega, by decide⟩, b, _, _, _, rfl, hb5, B5, by omega, by omega, big (by omega), fun y o6 y0 y1 B6 => ?_⟩
      obtain ⟨y, rfl⟩ := Int.eq_ofNat_of_zero_le y0
      have hy : y < 2 ^ sz.toNat := by
        rw [e1, ← pow_cast] at y1
        exact Int.ofNat_lt.mp y1
      refine ⟨by show 1 ≤ sizeLine; decide, fun q6 hq6 => ?_⟩
      refine ⟨p5, q6, uu, [y], rfl, rfl, new_at ((upd_ne n5b).trans hp5) hq6, upd_same, by rw [List.length_singleton]; omega, fun q H7 sm7 hq7 => ?_⟩
      have smC : Sam b H4 H7 := ((sm5.trans (Sam.upd (o := o6))).new (o := .tup (nv [y])) hq6).trans (toSam sm7)
      have hb7 := sm7 _ _ (new_at (upd_same (H := H5) (a := b) (o := o6)) hq6)
      have hp7 := smC _ _ npb hp4
      have nqb := lstne hb7 B6 hq7
      refine ⟨by show 2 ≤ sizeLine; decide, fun t ht => ?_⟩
      refine k t p q vv (uu ++ [y]) _ o6 ((smB.trans smC).new ht) (at_new hb7 ht) (B6.mono (by omega)) upd_same npb nqb (at_new hp7 ht) (at_new hq7 ht) (by omega) lv6 (by rw [List.length_append, List.length_singleton]; omega) (by rw [List.length_append, List.length_singleton]; omega) hvv fun v hv => (List.mem_append.mp hv).elim (huu v) (fun h => by rw [List.mem_singleton.mp h]; exact hy)
    refine iteFb (Bool.eq_false_iff.mpr hw) ?_
    refine ⟨_, rfl, b, _, 5, _, rfl, hb4, B3, by omega, by decide, big (by decide), fun v o4 v0 v1 B4 => ?_⟩
    refine ⟨_, _, rfl, rfl, ?_⟩
    refine ⟨_, rfl, by show _ ≤ (1 : Int) + v; omega, by show (1 : Int) + v < _; omega, fun D hD => ?_⟩
    have nDb : D ≠ b := (ne_of_none (a := b) (H := upd H4 b o4) upd_same hD).symm
    have smD : Sam b H (upd H4 b o4) := smB.trans (Sam.upd (o := o4))
    have hz5 := (upd_ne (H := H4) (o := o4) nzb).trans hz4
    have hp5 := (upd_ne (H := H4) (o := o4) npb).trans hp4
    have hb5 : (upd H4 b o4) b = some o4 := upd_same
    generalize (upd H4 b o4) = H5 at smD hz5 hp5 hb5 hD ⊢
    have nzD := ne_of_none hz5 hD
    refine G.w_range (fun i H' => ∃ (o' : HO) (ds : List Nat), (∀ c u, c ≠ b → c ≠ D → H5 c = some u → H' c = some u) ∧ H' b = some o' ∧ BoxO (n + 50 + (i : Int)) o' ∧ H' D = some (.lst (nv ds)) ∧ ds.length = i ∧ ∀ d ∈ ds, d < 2 ^ sz.toNat)
      ⟨o4, [], fun c u _ n2 e => by rw [upd_ne n2]; exact e, at_new hb5 hD, B4.mono (by omega), upd_same, rfl, fun x hx => by cases hx⟩ ?_ ?_
    · rintro i H6 hi ⟨o', ds, s6, hb6, B6, hd, hl, hds⟩
      have hi5 : i < 5 := by
        have : i < ((1 : Int) + v).toNat := hi
        omega
      refine ⟨rfl, yes (iteT ?_)⟩
      refine ⟨_, rfl, _, rfl, b, z, _, o', nv Z, rfl, hb6, B6, by omega, s6 _ _ nzb nzD hz5, nzb, by rw [nv_len]; exact Zpos, by rw [nv_len]; omega, fun j y o7 hj B7 => ?_⟩
      obtain ⟨d, ed, rfl, _⟩ := nv_at hj
      have hd1 := GF.ins_lt hvv ((aZ.iff d).mp (List.mem_of_getElem? ed))
      refine ⟨_, (upd_ne nDb).trans hd, by rw [nv_len, hl, sizeLine_eq]; omega, o7, ds ++ [d], ?_, ?_, B7.mono (by omega), ?_, ?_, ?_⟩
      · intro c u n1 n2 e
        rw [upd_ne n2, upd_ne n1]
        exact s6 c u n1 n2 e
      · rw [upd_ne nDb.symm]
        exact upd_same
      · rw [upd_same, ← nv_cat]
        rfl
      · rw [List.length_append, hl]
        rfl
      · intro d' hd'
        rcases List.mem_append.mp hd' with h | h
        · exact hds d' h
        · rw [List.mem_singleton.mp h]
          exact hd1
    rintro H6 ⟨o', ds, s6, hb6, B6, hd, hl, hds⟩
    have hl' : ds.length = ((1 : Int) + v).toNat := hl
    have B6 : BoxO (n + 60) o' := B6.mono (by
      show n + 50 + ((((1 : Int) + v).toNat : Nat) : Int) ≤ n + 60
      omega)
    refine ⟨D, _, rfl, .inl ⟨SqL.of hd, fun q hq => ?_⟩⟩
    have sm6 : Sam b H H6 := fun c u n1 e => s6 c u n1 (ne_of_none (smD c u n1 e) hD) (smD c u n1 e)
    have hp6 := s6 _ _ npb (ne_of_none hp5 hD) hp5
    have sm7 : Sam b H (upd H6 q (.tup (nv ds))) := sm6.new hq
    have hb7 := at_new (u := .tup (nv ds)) hb6 hq
    have hp7 := at_new (u := .tup (nv ds)) hp6 hq
    have hq7 : (upd H6 q (.tup (nv ds))) q = some (.tup (nv ds)) := upd_same
    have nqb := lstne hb7 B6 hq7
    generalize (upd H6 q (.tup (nv ds))) = H7 at sm7 hb7 hp7 hq7 ⊢
    refine ⟨_, rfl, ?_⟩
    refine ⟨_, rfl, rfl, _, rfl, ?_⟩
    by_cases hw1 : decide (V.int way = V.int 1) = true
    · refine iteTb hw1 ?_
      refine ⟨_, rfl, by show 2 ≤ sizeLine; decide, fun t ht => ?_⟩
      exact k t p q vv ds _ o' (sm7.new ht) (at_new hb7 ht) (B6.mono (by omega)) upd_same npb nqb (at_new hp7 ht) (at_new hq7 ht) (by omega) lv6 (by omega) (by omega) hvv hds
    · refine iteFb (Bool.eq_false_iff.mpr hw1) ?_
      refine ⟨_, rfl, _, rfl, p, _, rfl, SqT.of hp7, fun r hr' => ?_⟩
      have er : (nv vv).reverse = nv vv.reverse := by unfold nv; rw [List.map_reverse]
      rw [er]
      refine ⟨q, r, ds, vv.reverse, rfl, rfl, at_new hq7 hr', upd_same, by rw [List.length_reverse]; omega, fun q8 H8 sm8 hq8 => ?_⟩
      have hb8 := sm8 _ _ (at_new (u := .tup (nv vv.reverse)) hb7 hr')
      have hp8 := sm8 _ _ (at_new (u := .tup (nv vv.reverse)) hp7 hr')
      have n8b := lstne hb8 B6 hq8
      refine ⟨by show 2 ≤ sizeLine; decide, fun t ht => ?_⟩
      refine k t p q8 vv (ds ++ vv.reverse) _ o' (((sm7.new hr').trans (toSam sm8)).new ht) (at_new hb8 ht) (B6.mono (by omega)) upd_same npb n8b (at_new hp8 ht) (at_new hq8 ht) (by omega) lv6 (by rw [List.length_append]; omega) (by rw [List.length_append, List.length_reverse]; omega) hvv fun v hv => (List.mem_append.mp hv).elim (hds v) (fun h => hvv v (List.mem_reverse.mp h))
end
end X1
set_option Elab.async false
set_option maxRecDepth 100000
set_option maxHeartbeats 8000000
namespace X1
open PySem L2
open GF (pc par pc_0 pc_eq par_lt InS Can Red Els All Part Orth bk comb comp InvM Zer Indep)
/-! ### lists that are the same -/
theorem eqv_same (ns : List Int) : PyData.eqv (.list (ns.map PyData.int)) (.list (ns.map PyData.int)) = true := PySem.SeqAt.eqv_refl _ (by
  show PyData.canLayAll0 (ns.map PyData.int) = true
  exact canLay_ints ns)
theorem eqv_sameT (ns : List Int) : PyData.eqv (.tuple (ns.map PyData.int)) (.tuple (ns.map PyData.int)) = true := PySem.SeqAt.eqv_refl _ (by
  show PyData.canLayAll0 (ns.map PyData.int) = true
  exact canLay_ints ns)
theorem shaped_tup (ns : List Int) : SeqAt.shaped (.tuple (ns.map PyData.int)) = true := by
  unfold SeqAt.shaped
  show (PyData.canLayAll0 (ns.map PyData.int) && decide (PyData.depthAll (ns.map PyData.int) + 1 ≤ 64)) = true
  rw [canLay_ints, depth_ints]
  rfl
theorem any_mem (b : Nat) : ∀ l : List Nat, l.any (· == b) = decide (b ∈ l)
  | [] => rfl
  | a :: l => by
    rw [List.any_cons, any_mem b l]
    by_cases h : a = b
    · subst h
      simp
    · have h' : ¬ b = a := fun e => h e.symm
      simp [h, h']
/-- what a recoding is: a map, or None -/
def RecV (H : Hp) (vv os : List Nat) (x : V) : Prop := (x = .non ∧ ¬ ∀ o ∈ os, InS vv o) ∨ ∃ (t : Addr) (R : List Nat), x = .ref t ∧ H t = some (.tup (nv R)) ∧ Made vv os R ∧ ∀ o ∈ os, InS vv o
theorem RecV.same {H H' : Hp} {vv os : List Nat} {x : V} (h : RecV H vv os x) (s : Same H H') : RecV H' vv os x := by
  rcases h with h | ⟨t, R, h1, h2, h3⟩
  · exact .inl h
  · exact .inr ⟨t, R, h1, s _ _ h2, h3⟩
theorem RecV.non {H : Hp} {vv os : List Nat} {x : V} (h : RecV H vv os x) : x = .non ↔ ¬ ∀ o ∈ os, InS vv o := by
  rcases h with ⟨h1, h2⟩ | ⟨t, R, h1, _, _, h2⟩
  · exact ⟨fun _ => h2, fun _ => h1⟩
  · exact ⟨fun e => (by rw [h1] at e; cases e), fun e => absurd h2 e⟩
theorem RecV.is {H : Hp} {vv os : List Nat} {x : V} (h : RecV H vv os x) {c : Prop} [Decidable c] (e : (∀ o ∈ os, InS vv o) ↔ c) : (!decide (x = .non)) = decide c := by
  have h1 := h.non
  by_cases hc : c
  · rw [decide_eq_true hc, decide_eq_false fun z => h1.mp z (e.mpr hc)]
    rfl
  · rw [decide_eq_false hc, decide_eq_true (h1.mpr fun z => hc (e.mp z))]
    rfl
theorem all_mem (Z Y : List Nat) : (Z.map fun s => decide (s ∈ Y)).all id = decide (∀ x ∈ Z, x ∈ Y) := by
  rw [Bool.eq_iff_iff, List.all_map, List.all_eq_true, decide_eq_true_iff]
  exact ⟨fun h x hx => of_decide_eq_true (h x hx), fun h x hx => decide_eq_true (h x hx)⟩
theorem pows_next (i : Nat) : nv ((List.range (i + 1)).map (2 ^ ·)) = nv ((List.range i).map (2 ^ ·)) ++ [V.int ((2 ^ i : Nat) : Int)] := by
  rw [List.range_succ, List.map_append, ← nv_cat]
  rfl
section
variable {P : Program} {w : World} {K : PySem.W.Frag} {mg : Str → Option Value} {base : Heap}
/-! ### _law_right -/
def spRight : Sp := fun vs H Q _ => ∃ (b : Addr) (o : HO), vs = [.ref b] ∧ H b = some o ∧ BoxO 0 o ∧ ∀ H', Sam b H H' → Q (.bl true) H'
theorem scRight : FnScope ["_law_box_here", "_law_turn", "_law_size", "_law_plan_here", "_law_target", "_law_there", "_law_back", "_law_zeros", "_law_rest", "_law_spot", "_law_gaps_here", "_law_same", "_law_third", "_law_both", "_law_free", "_law_single", "_law_at"] ["_law_box_here"] (defScope sRight) := ⟨rfl, rfl, rfl, by decide +kernel, rfl, by decide +kernel, by decide +kernel⟩
theorem ok_right {f f1 f2 f3 f4 f5 f6 f7 f8 f9 fa fb fc fe fg : Addr} {fd fd1 fd2 fd3 fd4 fd5 fd6 fd7 fd8 fd9 fda fdb fdc fde fdg : FuncData} (A0 : At K mg "_law_right" sRight ["_law_box_here"] f fd) (A1 : At K mg "_law_take" sTake ["_law_box_here", "_law_many"] f1 fd1)
    (A2 : At K mg "_law_of" sOf ["_law_box_here", "_law_some"] f2 fd2)
    (AL : At K mg "_law_lot" sLot ["_law_box_here", "_law_size", "_law_most"] f3 fd3)
    (AA : At K mg "_law_all_of" sAllOf ["_law_lot_here"] f4 fd4)
    (APl : At K mg "_law_plan" sPlan ["_law_box_here", "_law_size", "_law_many"] f5 fd5)
    (AGa : At K mg "_law_gaps" sGaps ["_law_box_here", "_law_size", "_law_most"] f6 fd6)
    (ALd : At K mg "_law_led" sLed ["_law_size", "_law_recoded", "_law_plan_here"] f7 fd7)
    (APa : At K mg "_law_pair" sPair ["_law_box_here", "_law_size"] f8 fd8)
    (AB : At K mg "bank" sBank ["width", "masks", "address"] f9 fd9)
    (AK : At K mg "kernel" sKernel ["width", "masks"] fa fda)
    (AR : At K mg "recoding" sRecg ["width", "masks", "others"] fb fdb)
    (AC : At K mg "completed" sComp ["width", "masks"] fc fdc)
    (AI : At K mg "inverse" sInv ["width", "masks"] fe fde)
    (AH : At K mg "hidden" sHidden ["width", "masks", "differences"] fg fdg)
    (GB : FnOk P w K mg base CX0 6 f9 fd9 ["width", "masks", "address"] (spBank K))
    (GK : FnOk P w K mg base CX0 6 fa fda ["width", "masks"] (spKernel K))
    (GR : FnOk P w K mg base CX0 6 fb fdb ["width", "masks", "others"] (spRecg K))
    (GC : FnOk P w K mg base CX0 6 fc fdc ["width", "masks"] (spComp K))
    (GI : FnOk P w K mg base CX0 6 fe fde ["width", "masks"] (VN.spInv K))
    (GH : FnOk P w K mg base CX0 7 fg fdg ["width", "masks", "differences"] (spHidden K)) (T : Txt K mg) : G.FnG P w K mg base 8 f fd ["_law_box_here"] spRight := by
  have G1 : FnOk P w K mg base CX0 1 f1 fd1 ["_law_box_here", "_law_many"] spTake := ok_take A1
  have GA : FnOk P w K mg base CX0 1 f4 fd4 ["_law_lot_here"] (spAllOf K) := ok_allOf AA T
  have GGa : FnOk P w K mg base CX0 4 f6 fd6 ["_law_box_here", "_law_size", "_law_most"] spGaps := ok_gaps AGa A1 A2 AL AA T
  have GLd : FnOk P w K mg base CX0 1 f7 fd7 ["_law_size", "_law_recoded", "_law_plan_here"] spLed := ok_led ALd T
  have GPa : FnOk P w K mg base CX0 5 f8 fd8 ["_law_box_here", "_law_size"] spPair := ok_pair APa A1 A2 AL AA APl T
  refine G.okG A0.fn scRight (fun vs H Q E h => ?_) (fun cdv A outer s H vs Q E hga hr h => ?_)
  · obtain ⟨b, o, rfl, _⟩ := h
    rfl
  · obtain ⟨b, o, rfl, hb, B, k⟩ := h
    refine ⟨_, (pss_cons (ps_for PassesOwn.never rfl (pi_range1 (by rfl) T.range (pa_cons pe_int pa_nil)) (pg_name (i := 1) scRight.nd rfl (Or.inl rfl)) (pss_cons (ps_set (i := 2) scRight.nd rfl (Or.inl rfl) (pe_op op_add pe_int (pe_call G1 (hr.mono (by decide)) (by rfl) A1.mg A1.fn.kp A1.bi .nil pass0 (pa_cons (pv 0) (pa_cons pe_int pa_nil)))))
      (pss_cons (ps_asg (g := gTup K 2 (gCons (gName 3) (gCons (gName 4) gNil))) (pe_call GPa (hr.mono (by decide)) (by rfl) APa.mg APa.fn.kp APa.bi .nil pass0 (pa_cons (pv 0) (pa_cons (pv 2) pa_nil))) (by exact pg_tup rfl (pgs_cons (pg_name (i := 3) scRight.nd rfl (Or.inl rfl)) (pgs_cons (pg_name (i := 4) scRight.nd rfl (Or.inl rfl)) pgs_nil))))
      (pss_cons (ps_par (i := 5) (j := 6) (by rfl) scRight.nd rfl rfl (by decide) rfl rfl (pa_cons (pe_call GR (hr.mono (by decide)) (by rfl) AR.mg AR.fn.kp AR.bi .nil pass0 (pa_cons (pv 2) (pa_cons (pv 3) (pa_cons (pv 4) pa_nil)))) (pa_cons (pe_call GR (hr.mono (by decide)) (by rfl) AR.mg AR.fn.kp AR.bi .nil pass0 (pa_cons (pv 2) (pa_cons (pv 4) (pa_cons (pv 3) pa_nil)))) pa_nil)) (by rfl))
      (pss_cons (ps_asg (g := gTup K 2 (gCons (gName 7) (gCons (gName 8) gNil))) (pe_tup (pa_cons (pe_call GA (hr.mono (by decide)) (by rfl) AA.mg AA.fn.kp AA.bi .nil pass0 (pa_cons (pe_call GK (hr.mono (by decide)) (by rfl) AK.mg AK.fn.kp AK.bi .nil pass0 (pa_cons (pv 2) (pa_cons (pv 3) pa_nil))) pa_nil)) (pa_cons (pe_call GA (hr.mono (by decide)) (by rfl) AA.mg AA.fn.kp AA.bi .nil pass0 (pa_cons (pe_call GK (hr.mono (by decide)) (by rfl) AK.mg AK.fn.kp AK.bi .nil pass0 (pa_cons (pv 2) (pa_cons (pv 4) pa_nil))) pa_nil)) pa_nil))) (by exact pg_tup rfl (pgs_cons (pg_name (i := 7) scRight.nd rfl (Or.inl rfl)) (pgs_cons (pg_name (i := 8) scRight.nd rfl (Or.inr rfl)) pgs_nil))))
      (pss_cons (ps_if (pt_cmpR op_ne (pe_cmpR op_notN (pv 5) pe_non (nomark _)) (pe_callB (cr_all rfl) (by rfl) T.all (by decide +kernel) (pa_cons (pe_lc (own := [("_law_spot", 9)]) (g := gName 9) (tt := tYes) (te := (tOp (rIn K false) (tVar 9) (tVar 8))) rfl scRight.nd (pi_list (pv 7)) (blkOk_by (N := ["_law_box_here", "_law_turn", "_law_size", "_law_plan_here", "_law_target", "_law_there", "_law_back", "_law_zeros", "_law_rest", "_law_spot", "_law_gaps_here", "_law_same", "_law_third", "_law_both", "_law_free", "_law_single", "_law_at"]) (sc := defScope sRight) (by decide +kernel)) (fun _ _ _ _ _ => pg_name (i := 9) scRight.nd rfl (Or.inl rfl)) (fun _ _ _ _ _ => pts_nil) (fun _ _ _ _ _ => by exact (pe_cmpR op_in_seq (pv 9) (pv 8) (by rfl)))) pa_nil)) (nomark _)) (pss_one (ps_ret pe_bl)) pss_nil)
      (pss_cons (ps_if (pt_cmpR op_ne (pe_and (pe_cmpR op_notN (pv 5) pe_non (nomark _)) (pe_one (pe_cmpR op_notN (pv 6) pe_non (nomark _)))) (pe_cmpR (op_eqD hr.units) (pv 7) (pv 8) (nomark _)) (nomark _)) (pss_one (ps_ret pe_bl)) pss_nil)
      (pss_cons (ps_set (i := 10) scRight.nd rfl (Or.inl rfl) (pe_call GGa (hr.mono (by decide)) (by rfl) AGa.mg AGa.fn.kp AGa.bi .nil pass0 (pa_cons (pv 0) (pa_cons (pv 2) (pa_cons pe_int pa_nil)))))
      (pss_cons (ps_set (i := 11) scRight.nd rfl (Or.inl rfl) (pe_cmpR (op_eqD hr.units) (pe_call GH hr (by rfl) AH.mg AH.fn.kp AH.bi .nil pass0 (pa_cons (pv 2) (pa_cons (pv 3) (pa_cons (pv 10) pa_nil)))) (pe_call GH hr (by rfl) AH.mg AH.fn.kp AH.bi .nil pass0 (pa_cons (pv 2) (pa_cons (pv 4) (pa_cons (pv 10) pa_nil)))) (nomark _)))
      (pss_cons (ps_if (PW.pt (pw_and (pt_cmpR (op_eqD hr.units) (pv 7) (pv 8) (nomark _)) (pw_and1 (pt_not (pt_val (pv 11)))))) (pss_one (ps_ret pe_bl)) pss_nil)
      (pss_cons (ps_if (pt_cmpR op_notN (pv 5) pe_non (nomark _)) (pss_cons (ps_if (pt_cmpR (op_neD hr.units) (pe_call GLd (hr.mono (by decide)) (by rfl) ALd.mg ALd.fn.kp ALd.bi .nil pass0 (pa_cons (pv 2) (pa_cons (pv 5) (pa_cons (pv 3) pa_nil)))) (pv 4) (nomark _)) (pss_one (ps_ret pe_bl)) pss_nil)
      (pss_cons (ps_set (i := 12) scRight.nd rfl (Or.inl rfl) (pe_call GR (hr.mono (by decide)) (by rfl) AR.mg AR.fn.kp AR.bi .nil pass0 (pa_cons (pv 2) (pa_cons (pv 4) (pa_cons (pe_slice sl_T (pv 4) po_none (po_some pe_int)) pa_nil)))))
      (pss_cons (ps_set (i := 13) scRight.nd rfl (Or.inl rfl) (pe_call GLd (hr.mono (by decide)) (by rfl) ALd.mg ALd.fn.kp ALd.bi .nil pass0 (pa_cons (pe_callB call_len_seq (by rfl) T.len PySem.boot_len (pa_cons (pv 3) pa_nil)) (pa_cons (pv 12) (pa_cons (pv 5) pa_nil)))))
      (pss_one (ps_for PassesOwn.never rfl (pi_list (pe_lc (own := [("_law_at", 16)]) (g := gName 16) (tt := tYes) rfl scRight.nd (pi_range1 (by rfl) T.range (pa_cons (pv 2) pa_nil)) (blkOk_by (N := ["_law_box_here", "_law_turn", "_law_size", "_law_plan_here", "_law_target", "_law_there", "_law_back", "_law_zeros", "_law_rest", "_law_spot", "_law_gaps_here", "_law_same", "_law_third", "_law_both", "_law_free", "_law_single", "_law_at"]) (sc := defScope sRight) (by decide +kernel)) (fun _ _ _ _ _ => pg_name (i := 16) scRight.nd rfl (Or.inl rfl)) (fun _ _ _ _ _ => pts_nil) (fun _ _ _ _ _ => (pe_op op_shl pe_int (pv 16))))) (pg_name (i := 9) scRight.nd rfl (Or.inl rfl)) (pss_one (ps_if (pt_cmpR op_ne (pe_call GB (hr.mono (by decide)) (by rfl) AB.mg AB.fn.kp AB.bi .nil pass0 (pa_cons (pe_callB call_len_seq (by rfl) T.len PySem.boot_len (pa_cons (pv 3) pa_nil)) (pa_cons (pv 13) (pa_cons (pe_call GB (hr.mono (by decide)) (by rfl) AB.mg AB.fn.kp AB.bi .nil pass0 (pa_cons (pv 2) (pa_cons (pv 3) (pa_cons (pv 9) pa_nil)))) pa_nil)))) (pe_call GB (hr.mono (by decide)) (by rfl) AB.mg AB.fn.kp AB.bi .nil pass0 (pa_cons (pv 2) (pa_cons (pe_slice sl_T (pv 4) po_none (po_some pe_int)) (pa_cons (pv 9) pa_nil)))) (nomark _)) (pss_one (ps_ret pe_bl)) pss_nil))))))) pss_nil)
      (pss_cons (ps_set (i := 14) scRight.nd rfl (Or.inl rfl) (pe_call GC (hr.mono (by decide)) (by rfl) AC.mg AC.fn.kp AC.bi .nil pass0 (pa_cons (pv 2) (pa_cons (pe_call GK (hr.mono (by decide)) (by rfl) AK.mg AK.fn.kp AK.bi .nil pass0 (pa_cons (pv 2) (pa_cons (pv 3) pa_nil))) pa_nil))))
      (pss_cons (ps_set (i := 15) scRight.nd rfl (Or.inl rfl) (pe_callTy call_tuple_of (by rfl) T.tuple (by decide +kernel) (pa_cons (pe_lc (own := [("_law_at", 16)]) (g := gName 16) (tt := tYes) rfl scRight.nd (pi_range1 (by rfl) T.range (pa_cons (pv 2) pa_nil)) (blkOk_by (N := ["_law_box_here", "_law_turn", "_law_size", "_law_plan_here", "_law_target", "_law_there", "_law_back", "_law_zeros", "_law_rest", "_law_spot", "_law_gaps_here", "_law_same", "_law_third", "_law_both", "_law_free", "_law_single", "_law_at"]) (sc := defScope sRight) (by decide +kernel)) (fun _ _ _ _ _ => pg_name (i := 16) scRight.nd rfl (Or.inl rfl)) (fun _ _ _ _ _ => pts_nil) (fun _ _ _ _ _ => (pe_op op_shl pe_int (pv 16)))) pa_nil)))
      (pss_one (ps_if (PW.pt (pw_or (pt_cmpR (op_neD hr.units) (pe_call GR (hr.mono (by decide)) (by rfl) AR.mg AR.fn.kp AR.bi .nil pass0 (pa_cons (pv 2) (pa_cons (pv 14) (pa_cons (pv 15) pa_nil)))) (pe_call GI (hr.mono (by decide)) (by rfl) AI.mg AI.fn.kp AI.bi .nil pass0 (pa_cons (pv 2) (pa_cons (pv 14) pa_nil))) (nomark _)) (pw_or1 (pt_cmpR (op_neD hr.units) (pe_call GLd (hr.mono (by decide)) (by rfl) ALd.mg ALd.fn.kp ALd.bi .nil pass0 (pa_cons (pv 2) (pa_cons (pe_call GI (hr.mono (by decide)) (by rfl) AI.mg AI.fn.kp AI.bi .nil pass0 (pa_cons (pv 2) (pa_cons (pv 14) pa_nil))) (pa_cons (pv 14) pa_nil)))) (pv 15) (nomark _))))) (pss_one (ps_ret pe_bl)) pss_nil)))))))))))))))
      (pss_one (ps_ret pe_bl))), ?_⟩
    have big : ∀ {x : Int}, x ≤ 70000 → x < 2 ^ 1000 := fun h => Int.lt_of_le_of_lt h (by decide +kernel)
    have toSam : ∀ {X Y : Hp}, Same X Y → Sam b X Y := fun h c u _ e => h c u e
    refine ⟨_, rfl, by decide, by decide, for_range (lo := 0) (n := 15) (fun i σ H' => ∃ (o1 : HO) (t1 t2 t3 t4 t5 t6 t7 t8 t9 t10 t11 t12 t13 t14 t15 : Option V), σ = [some (.ref b), t1, t2, t3, t4, t5, t6, t7, t8, t9, t10, t11, t12, t13, t14, t15, none] ∧ Sam b H H' ∧ H' b = some o1 ∧ BoxO (3000 * (i : Int)) o1)
      ⟨o, none, none, none, none, none, none, none, none, none, none, none, none, none, none, none, rfl, Sam.refl b H, hb, by simpa using B⟩ ?_ ?_⟩
    · rintro i σ H1 hi ⟨o1, t1, t2, t3, t4, t5, t6, t7, t8, t9, t10, t11, t12, t13, t14, t15, rfl, sm1, hb1, B1⟩
      -- the width
      refine ⟨_, rfl, b, _, 6, o1, rfl, hb1, B1, by omega, by decide, big (by decide), fun v o2 v0 v1 B2 => ?_⟩
      obtain ⟨wd, hwd⟩ : ∃ wd : Nat, 1 + v = (wd : Int) := ⟨(1 + v).toNat, by omega⟩
      refine ⟨_, _, rfl, rfl, ?_⟩
      have w0 : 1 ≤ 1 + v := by omega
      have w1 : 1 ≤ wd := by omega
      have w6 : wd ≤ 6 := by omega
      have w16 : wd ≤ 16 := by omega
      have ewd : (1 + v).toNat = wd := by omega
      have p64 : 2 ^ wd ≤ 64 := by
        have e : ∀ j : Nat, j < 7 → 2 ^ j ≤ 64 := by decide
        exact e wd (by omega)
      -- the maps
      refine ⟨_, rfl, _, rfl, b, _, 1 + v, o2, rfl, upd_same, B2, by omega, w0, by omega, fun t p q vv os H2 o3 sm2 hb2 B3 ht2 npb nqb hp2 hq2 lv1 lv6 lo1 lo12 hvv hos => ?_⟩
      rw [ewd] at hvv hos
      refine ⟨t, _, rfl, SqT.of ht2, rfl, _, _, rfl, _, _, rfl, rfl, ?_⟩
      have smA : Sam b H H2 := (sm1.trans (Sam.upd (o := o2))).trans sm2
      have eq2 : ∀ {u : Addr}, [V.int (1 + v), V.ref u] ++ [] = [V.int (wd : Int), V.ref u] := by
        intro u
        rw [hwd]
        rfl
      have eq3 : ∀ {u u' : Addr}, [V.int (1 + v), V.ref u, V.ref u'] ++ [] = [V.int (wd : Int), V.ref u, V.ref u'] := by
        intro u u'
        rw [hwd]
        rfl
      have eqB : ∀ {a : Nat} {u : Addr}, [V.int (1 + v), V.ref u, V.int (a : Int)] ++ [] = [V.int (wd : Int), V.ref u, V.int (a : Int)] := by
        intro a u
        rw [hwd]
        rfl
      -- there and back
      refine seqTail (fun σ' H' => ∃ (x y : V), σ' = [some (.ref b), some (.int (0 + (i : Int))), some (.int (1 + v)), some (.ref p), some (.ref q), some x, some y, t7, t8, t9, t10, t11, t12, t13, t14, t15, none] ∧ Same H2 H' ∧ RecV H' vv os x ∧ RecV H' os vv y) ?tl1 fun tail => ?mn1
      case mn1 =>
        refine ⟨_, rfl, _, rfl, _, rfl, wd, p, q, vv, os, eq3, w1, w16, hp2, hq2, lv1, by omega, by omega, hvv, hos, fun c R ta Ha mR sma hta => ?_, fun c Ha sma => ?_⟩
        · refine ⟨_, rfl, _, rfl, _, rfl, wd, q, p, os, vv, eq3, w1, w16, sma _ _ hq2, sma _ _ hp2, lo1, by omega, by omega, hos, hvv, fun c' R' tb Hb mR' smb htb => ?_, fun c' Hb smb => ?_⟩
          · exact ⟨_, _, rfl, tail _ _ ⟨.ref ta, .ref tb, rfl, sma.trans smb, .inr ⟨ta, R, rfl, smb _ _ hta, mR, c⟩, .inr ⟨tb, R', rfl, htb, mR', c'⟩⟩⟩
          · exact ⟨_, _, rfl, tail _ _ ⟨.ref ta, .non, rfl, sma.trans smb, .inr ⟨ta, R, rfl, smb _ _ hta, mR, c⟩, .inl ⟨rfl, c'⟩⟩⟩
        · refine ⟨_, rfl, _, rfl, _, rfl, wd, q, p, os, vv, eq3, w1, w16, sma _ _ hq2, sma _ _ hp2, lo1, by omega, by omega, hos, hvv, fun c' R' tb Hb mR' smb htb => ?_, fun c' Hb smb => ?_⟩
          · exact ⟨_, _, rfl, tail _ _ ⟨.non, .ref tb, rfl, sma.trans smb, .inl ⟨rfl, c⟩, .inr ⟨tb, R', rfl, htb, mR', c'⟩⟩⟩
          · exact ⟨_, _, rfl, tail _ _ ⟨.non, .non, rfl, sma.trans smb, .inl ⟨rfl, c⟩, .inl ⟨rfl, c'⟩⟩⟩
      case tl1 =>
      rintro σ' H3 ⟨x, y, rfl, sm3, hx, hy⟩
      -- the addresses with bank 0
      refine ⟨_, rfl, _, rfl, wd, p, vv, eq2, w1, w16, sm3 _ _ hp2, by omega, hvv, fun qa A H4 sm4 hqa CA RA sA lA => ?_⟩
      have lA9 := GF.ker_len RA sA hvv
      refine ⟨qa, A, rfl, hqa, by omega, fun z Z H5 hz0 sm5 hz5 aZ lZ => ?_⟩
      have Zr : Zer wd vv Z := GF.zer_of sA aZ
      have sm35 := (sm3.trans sm4).trans sm5
      refine ⟨_, rfl, _, rfl, wd, q, os, eq2, w1, w16, sm35 _ _ hq2, by omega, hos, fun qb A2 H6 sm6 hqb CA2 RA2 sA2 lA2 => ?_⟩
      have lA29 := GF.ker_len RA2 sA2 hos
      refine ⟨qb, A2, rfl, hqb, by omega, fun yy Y H7 hy0 sm7 hy7 aY lY => ?_⟩
      have Yr : Zer wd os Y := GF.zer_of sA2 aY
      have sm37 := (sm35.trans sm6).trans sm7
      refine ⟨by show 2 ≤ sizeLine; decide, fun tq htq => ?_⟩
      refine ⟨tq, _, rfl, SqT.of upd_same, rfl, _, _, rfl, _, _, rfl, rfl, ?_⟩
      have sm38 : Same H2 (upd H7 tq (.tup [.ref z, .ref yy])) := keep_new sm37 htq
      have nzb : z ≠ b := (ne_of_none (sm4 _ _ (sm3 _ _ hb2)) hz0).symm
      have nyb : yy ≠ b := (ne_of_none (sm6 _ _ (sm35 _ _ hb2)) hy0).symm
      have hz8 := new_at (u := .tup [.ref z, .ref yy]) (sm7 _ _ (sm6 _ _ hz5)) htq
      have hy8 := new_at (u := .tup [.ref z, .ref yy]) hy7 htq
      have hx8 : RecV (upd H7 tq (.tup [.ref z, .ref yy])) vv os x := hx.same (keep_new (((sm4.trans sm5).trans sm6).trans sm7) htq)
      have hyy8 : RecV (upd H7 tq (.tup [.ref z, .ref yy])) os vv y := hy.same (keep_new (((sm4.trans sm5).trans sm6).trans sm7) htq)
      generalize (upd H7 tq (.tup [.ref z, .ref yy])) = H8 at sm38 hz8 hy8 hx8 hyy8 ⊢
      have hp8 := sm38 _ _ hp2
      have hq8 := sm38 _ _ hq2
      have hb8 := sm38 _ _ hb2
      have sm8 : Sam b H H8 := smA.trans (toSam sm38)
      clear hz5 sm7 sm6 sm5 sm4 sm35 sm37 hx hy hy7
      have lZ64 : Z.length ≤ 64 := asc_le Zr.srt (fun x hx => Nat.lt_of_lt_of_le ((Zr.iff x).mp hx).1 p64)
      have e12 := span_zer hvv hos sA Zr Yr
      have e21 := span_zer hos hvv sA2 Yr Zr
      -- there is a recoding
      refine ⟨_, rfl, rfl, ?_⟩
      refine ⟨_, rfl, z, rfl, ⟨_, SqL.of hz8⟩, fun D hD => ?_⟩
      have nzD := ne_of_none hz8 hD
      have nyD := ne_of_none hy8 hD
      refine G.w_list (xs := nv Z) (fun i H' => (∀ c u, c ≠ D → H8 c = some u → H' c = some u) ∧ H' D = some (.lst (((Z.take i).map fun s => decide (s ∈ Y)).map V.bl))) ⟨fun c u n e => by rw [upd_ne n]; exact e, upd_same⟩ (fun i H' _ ⟨s1, _⟩ => SqL.of (s1 _ _ nzD hz8)) ?_ ?_
      · rintro i' xv H9 hxv ⟨s1, hd⟩
        obtain ⟨a', ea, rfl, hi'⟩ := nv_at hxv
        refine ⟨rfl, yes (iteT ?_)⟩
        refine ⟨_, rfl, _, rfl, yy, nv Y, rfl, .inl (SqL.of (s1 _ _ nyD hy8)), rfl, flat_nv Y, _, hd, ?_, fun c u n e => by rw [upd_ne n]; exact s1 c u n e, ?_⟩
        · rw [List.length_map, List.length_map, List.length_take, sizeLine_eq]
          omega
        · rw [upd_same, List.take_add_one, ea, List.map_append, List.map_append]
          show some (HO.lst (_ ++ [V.bl (inV (V.int (a' : Int)) (nv Y))])) = _
          rw [in_nv, any_mem]
          rfl
      rintro H9 ⟨s1, hd⟩
      rw [nv_len, List.take_length] at hd
      have sm89 : Same H8 H9 := fun c u e => s1 c u (ne_of_none e hD) e
      refine ⟨D, _, rfl, SqL.of hd, ?_⟩
      rw [all_mem]
      refine ⟨rfl, _, rfl, iteFb ?_ ?_⟩
      · show (!decide (V.bl (!decide (x = .non)) = V.bl (decide (∀ x ∈ Z, x ∈ Y)))) = false
        rw [hx8.is e12, decide_eq_true rfl]
        rfl
      -- both ways
      have hz9 := sm89 _ _ hz8
      have hy9 := sm89 _ _ hy8
      have dpZ : ∀ {X : Hp} {r : Addr} {L : List Nat}, X r = some (.lst (nv L)) → Dp K X (.ref r) (.list ((L.map fun n : Nat => (n : Int)).map PyData.int)) := fun {X r L} h => .lst (SqL.of (by rw [← nv_ints]; exact h)) (dpAll_ints _)
      have dpT : ∀ {X : Hp} {r : Addr} {L : List Nat}, X r = some (.tup (nv L)) → Dp K X (.ref r) (.tuple ((L.map fun n : Nat => (n : Int)).map PyData.int)) := fun {X r L} h => .tup (SqT.of (by rw [← nv_ints]; exact h)) (dpAll_ints _)
      have e3 : ((!decide (x = .non)) && (!decide (y = .non))) = decide (Z = Y) := by
        rw [hx8.is e12, hyy8.is e21, Bool.eq_iff_iff, Bool.and_eq_true, decide_eq_true_iff, decide_eq_true_iff, decide_eq_true_iff]
        exact zer_same Zr Yr
      refine seqTail (fun σ' H' => σ' = [some (.ref b), some (.int (0 + (i : Int))), some (.int (1 + v)), some (.ref p), some (.ref q), some x, some y, some (.ref z), some (.ref yy), t9, t10, t11, t12, t13, t14, t15, none] ∧ Same H9 H') ?tl2 fun tail => ?mn2
      case mn2 =>
        refine ⟨_, rfl, rfl, _, rfl, ?_⟩
        by_cases cx : (!decide (x = .non)) = true
        · refine iteTb cx ?_
          refine ⟨_, rfl, rfl, ?_⟩
          refine ⟨_, rfl, _, rfl, .list _, .list _, dpZ hz9, dpZ hy9, shaped_ints _, shaped_ints _, rfl, _, rfl, iteFb ?_ ?_⟩
          · show (!decide (V.bl (!decide (y = .non)) = V.bl (PyData.eqv _ _))) = false
            rw [cx, Bool.true_and] at e3
            rw [eqv_dec, ← e3, decide_eq_true rfl]
            rfl
          exact tail _ _ ⟨rfl, Same.refl H9⟩
        · refine iteFb (Bool.eq_false_iff.mpr cx) ?_
          refine ⟨_, rfl, _, rfl, .list _, .list _, dpZ hz9, dpZ hy9, shaped_ints _, shaped_ints _, rfl, _, rfl, iteFb ?_ ?_⟩
          · show (!decide (V.bl false = V.bl (PyData.eqv _ _))) = false
            rw [Bool.eq_false_iff.mpr cx, Bool.false_and] at e3
            rw [eqv_dec, ← e3, decide_eq_true rfl]
            rfl
          exact tail _ _ ⟨rfl, Same.refl H9⟩
      case tl2 =>
      rintro σ' H10 ⟨rfl, sm910⟩
      have sm810 := sm89.trans sm910
      -- differences
      refine ⟨_, rfl, _, rfl, b, _, 1 + v, 20, _, rfl, sm810 _ _ hb8, B3, by omega, w0, by omega, by decide, by decide, fun g gs H11 o4 hg0 sm11 hb11 B4 hg11 hDif lg => ?_⟩
      rw [ewd] at hDif
      have smL : ∀ {c : Addr} {u : HO}, c ≠ b → H8 c = some u → H11 c = some u := fun n e => sm11 _ _ n (sm810 _ _ e)
      have hp11 := smL npb hp8
      have hq11 := smL nqb hq8
      have hz11 := smL nzb hz8
      have hy11 := smL nyb hy8
      have hx11 : RecV H11 vv os x := by
        rcases hx8 with h | ⟨ta, R, e, h1, h2⟩
        · exact .inl h
        · refine .inr ⟨ta, R, e, smL (fun e9 => ?_) h1, h2⟩
          obtain ⟨_, _, _, e8, _⟩ := B3
          rw [e9, hb8, e8] at h1
          cases h1
      have lg2 : gs.length ≤ 2 ^ wd := asc_le hDif.asc hDif.lt
      refine ⟨_, rfl, _, rfl, _, rfl, wd, p, g, vv, gs, eq3, w1, w16, hp11, by omega, hvv, hg11, hDif, by omega, lg2, fun ga H12 sm12 hga' => ?_⟩
      refine ⟨_, rfl, _, rfl, _, rfl, wd, q, g, os, gs, eq3, w1, w16, sm12 _ _ hq11, by omega, hos, sm12 _ _ hg11, hDif, by omega, lg2, fun gb H13 sm13 hgb => ?_⟩
      refine ⟨.tuple _, .tuple _, dpT (sm13 _ _ hga'), dpT hgb, shaped_tup _, shaped_tup _, ?_⟩
      have sm1113 := sm12.trans sm13
      refine seqTail (fun σ' H' => σ' = [some (.ref b), some (.int (0 + (i : Int))), some (.int (1 + v)), some (.ref p), some (.ref q), some x, some y, some (.ref z), some (.ref yy), t9, some (.ref g), some (.bl (PyData.eqv (.tuple (((hid vv gs).map fun n : Nat => (n : Int)).map PyData.int)) (.tuple (((hid os gs).map fun n : Nat => (n : Int)).map PyData.int)))), t12, t13, t14, t15, none] ∧ H' = H13) ?tl3 fun tail => ?mn3
      case mn3 =>
        refine ⟨_, rfl, _, rfl, .list _, .list _, dpZ (sm1113 _ _ hz11), dpZ (sm1113 _ _ hy11), shaped_ints _, shaped_ints _, _, rfl, ?_⟩
        by_cases ez : Z = Y
        · refine iteTb (by rw [eqv_dec]; exact decide_eq_true ez) ?_
          refine ⟨_, rfl, _, rfl, iteFb ?_ ?_⟩
          · have eh : hid vv gs = hid os gs := by
              unfold hid
              rw [Zr.hid hDif.lt, Yr.hid hDif.lt, ez]
            rw [eh, eqv_sameT]
            rfl
          exact tail _ _ ⟨rfl, rfl⟩
        · refine iteFb (by rw [eqv_dec]; exact decide_eq_false ez) ?_
          exact tail _ _ ⟨rfl, rfl⟩
      case tl3 =>
      rintro σ' H14 ⟨rfl, rfl⟩
      generalize (V.bl (PyData.eqv (.tuple (((hid vv gs).map fun n : Nat => (n : Int)).map PyData.int)) (.tuple (((hid os gs).map fun n : Nat => (n : Int)).map PyData.int)))) = bv
      have hp14 := sm1113 _ _ hp11
      have hq14 := sm1113 _ _ hq11
      have hx14 := hx11.same sm1113
      have hb14 := sm1113 _ _ hb11
      have smM : Sam b H H14 := ((sm8.trans (toSam sm810)).trans sm11).trans (toSam sm1113)
      clear hx8 hx11 hyy8 hp11 hq11 hp8 hq8
      have bvv : ∀ m ∈ vv, m < 65536 := fun m hm => p16 w16 (hvv m hm)
      refine seqTail1 (fun σ' H' => ∃ (s9 s12 s13 : Option V), σ' = [some (.ref b), some (.int (0 + (i : Int))), some (.int (1 + v)), some (.ref p), some (.ref q), some x, some y, some (.ref z), some (.ref yy), s9, some (.ref g), some bv, s12, s13, t14, t15, none] ∧ Same H14 H') ?tl4 fun tail => ?mn4
      case mn4 =>
        refine ⟨_, rfl, rfl, _, rfl, ?_⟩
        rcases hx14 with ⟨rfl, _⟩ | ⟨ta, R, rfl, hta, mR, cR⟩
        · exact iteFb rfl (tail _ _ ⟨_, _, _, rfl, Same.refl _⟩)
        refine iteTb rfl ?_
        have lR : R.length = os.length := mR.1
        have bR : ∀ r ∈ R, r < 65536 := fun r hr' => Nat.lt_of_lt_of_le (made_lt mR r hr') (by
          have e : ∀ j : Nat, j ≤ 6 → 2 ^ j ≤ 65536 := by decide
          exact e _ lv6)
        refine ⟨_, rfl, _, rfl, _, rfl, 1 + v, ta, p, R, vv, rfl, hta, hp14, by omega, by omega, bvv, bR, fun qL H15 sm15 hqL => ?_⟩
        rw [made_map mR] at hqL
        refine ⟨_, rfl, .tuple _, .tuple _, dpT hqL, dpT (sm15 _ _ hq14), shaped_tup _, shaped_tup _, _, rfl, ?_⟩
        refine iteFb (by rw [eqv_sameT]; rfl) ?_
        -- the third
        refine ⟨_, rfl, _, rfl, _, rfl, _, rfl, q, nv os, rfl, sm15 _ _ hq14, fun r1 H16 sm16 hr1 => ?_⟩
        rw [cut_one] at hr1
        have sm1416 := sm15.trans sm16
        have ho1 : ∀ m ∈ os.take 1, m < 2 ^ wd := fun m hm => hos m (List.mem_of_mem_take hm)
        have lo1' : (os.take 1).length ≤ 1 := by rw [List.length_take]; omega
        refine ⟨wd, q, r1, os, os.take 1, eq3, w1, w16, sm1416 _ _ hq14, hr1, lo1, by omega, by omega, hos, ho1, fun _ T3 t3 H17 mT sm17 ht3 => ?_, fun c9 _ _ => absurd (fun m hm => GF.ins_mem (List.mem_of_mem_take hm)) c9⟩
        have sm1417 := sm1416.trans sm17
        have bT : ∀ r ∈ T3, r < 65536 := fun r hr' => Nat.lt_of_lt_of_le (made_lt mT r hr') (by
          have e : ∀ j : Nat, j ≤ 12 → 2 ^ j ≤ 65536 := by decide
          exact e _ lo12)
        refine ⟨_, rfl, p, _, rfl, .inr (SqT.of (sm1417 _ _ hp14)), _, rfl, _, rfl, _, t3, ta, T3, R, rfl, ht3, sm1417 _ _ hta, by rw [mT.1]; omega, by omega, bR, bT, fun qd H18 sm18 hqd => ?_⟩
        have sm1418 := sm1417.trans sm18
        have mB := made_both mR mT
        -- each bit
        refine ⟨_, rfl, _, rfl, by omega, by omega, fun D2 hD2 => ?_⟩
        refine G.w_range (fun i H' => (∀ c u, c ≠ D2 → H18 c = some u → H' c = some u) ∧ H' D2 = some (.lst (nv ((List.range i).map (2 ^ ·))))) ⟨fun c u n e => by rw [upd_ne n]; exact e, upd_same⟩ ?_ ?_
        · rintro j H19 hj ⟨s1, hd2⟩
          have hj6 : j < wd := by
            have : j < (1 + v).toNat := hj
            omega
          refine ⟨rfl, yes (iteT ?_)⟩
          refine ⟨_, rfl, _, _, rfl, rfl, ⟨by omega, by omega, by decide⟩, _, hd2, ?_, fun c u n e => by rw [upd_ne n]; exact s1 c u n e, ?_⟩
          · rw [nv_len, List.length_map, List.length_range, sizeLine_eq]
            omega
          · rw [upd_same, pows_next]
            show some (HO.lst (_ ++ [V.int (1 * 2 ^ (0 + (j : Int)).toNat)])) = _
            rw [Int.zero_add, Int.one_mul, Int.toNat_natCast, ← pow_cast]
        rintro H19 ⟨s1, hd2⟩
        have hd2 : H19 D2 = some (.lst (nv ((List.range wd).map (2 ^ ·)))) := by
          rw [hd2]
          show some (HO.lst (nv ((List.range (1 + v).toNat).map (2 ^ ·)))) = _
          rw [ewd]
        have sm1419 : Same H14 H19 := fun c u e => s1 c u (ne_of_none (sm1418 _ _ e) hD2) (sm1418 _ _ e)
        have hqd19 := s1 _ _ (ne_of_none hqd hD2) hqd
        refine ⟨D2, rfl, ⟨_, SqL.of hd2⟩, ?_⟩
        refine for_list (K := K) (a := D2) (xs := nv ((List.range wd).map (2 ^ ·))) (fun j σ H' => ∃ s9 : Option V, σ = [some (.ref b), some (.int (0 + (i : Int))), some (.int (1 + v)), some (.ref p), some (.ref q), some (.ref ta), some y, some (.ref z), some (.ref yy), s9, some (.ref g), some bv, some (.ref t3), some (.ref qd), t14, t15, none] ∧ Same H19 H') ⟨_, rfl, Same.refl _⟩ (fun j σ H' _ ⟨_, _, sm⟩ => SqL.of (sm _ _ hd2)) ?_ ?_
        · rintro j u σ H20 hju ⟨s9, rfl, sm20⟩
          obtain ⟨m, em, rfl, hj⟩ := nv_at hju
          have hm : m < 2 ^ wd := by
            obtain ⟨j', hj', rfl⟩ := List.mem_map.mp (List.mem_of_getElem? em)
            exact Nat.pow_lt_pow_right (by decide) (List.mem_range.mp hj')
          have sm1420 := sm1419.trans sm20
          refine ⟨_, rfl, p, _, rfl, .inr (SqT.of (sm1420 _ _ hp14)), _, rfl, _, rfl, _, rfl, _, rfl, wd, p, vv, m, eqB, w1, w16, sm1420 _ _ hp14, by omega, hvv, hm, fun H21 sm21 => ?_⟩
          have sm1421 := sm1420.trans sm21
          refine ⟨vv.length, qd, T3.map (comb R), bk vv m, (by rw [nv_len]; rfl), lv1, by omega, sm21 _ _ (sm20 _ _ hqd19), by rw [List.length_map, mT.1]; omega, made_lt mB, GF.bk_lt vv m, fun H22 sm22 => ?_⟩
          have sm1422 := sm1421.trans sm22
          refine ⟨_, rfl, _, rfl, _, rfl, q, nv os, rfl, sm1422 _ _ hq14, fun r2 H23 sm23 hr2 => ?_⟩
          rw [cut_one] at hr2
          refine ⟨_, rfl, wd, r2, os.take 1, m, eqB, w1, w16, hr2, by omega, ho1, hm, fun H24 sm24 => ?_⟩
          refine ⟨rfl, _, rfl, iteFb ?_ ?_⟩
          · show (!decide (V.int ((bk (T3.map (comb R)) (bk vv m) : Nat) : Int) = V.int ((bk (os.take 1) m : Nat) : Int))) = false
            rw [made_bk mB, decide_eq_true rfl]
            rfl
          exact ⟨_, rfl, ((sm20.trans sm21).trans sm22).trans (sm23.trans sm24)⟩
        · rintro σ H20 ⟨s9, rfl, sm20⟩
          exact tail _ _ ⟨_, _, _, rfl, sm1419.trans sm20⟩
      case tl4 =>
      rintro σ' H15 ⟨s9, s12, s13, rfl, sm15⟩
      have smN : Sam b H H15 := smM.trans (toSam sm15)
      have hb15 := sm15 _ _ hb14
      have hp15 := sm15 _ _ hp14
      clear hp14 hq14 hx14 hb14 sm15 smM
      -- completed
      refine ⟨_, rfl, _, rfl, _, rfl, wd, p, vv, eq2, w1, w16, hp15, by omega, hvv, fun a3 A3 H16 sm16 ha3 CA3 RA3 sA3 lA3 => ?_⟩
      have hA3 : ∀ m ∈ A3, m < 2 ^ wd := fun m hm => ((sA3 m).mp (GF.ins_mem hm)).1
      have iA3 : Indep A3 := GF.red_indep RA3
      refine ⟨wd, a3, A3, eq2, w1, w16, ha3, lA3, hA3, iA3, fun f3 H17 sm17 hf3 => ?_⟩
      have lF := GF.comp_len iA3 hA3
      have iF := (GF.comp_is iA3 wd).ind
      have hF := GF.comp_lt iA3 hA3
      generalize comp A3 wd = F at hf3 lF iF hF
      have bF : ∀ m ∈ F, m < 65536 := fun m hm => p16 w16 (hF m hm)
      have sm1517 := sm16.trans sm17
      refine ⟨_, rfl, _, rfl, by omega, by omega, fun D3 hD3 => ?_⟩
      refine G.w_range (fun i H' => (∀ c u, c ≠ D3 → H17 c = some u → H' c = some u) ∧ H' D3 = some (.lst (nv ((List.range i).map (2 ^ ·))))) ⟨fun c u n e => by rw [upd_ne n]; exact e, upd_same⟩ ?_ ?_
      · rintro j H18 hj ⟨s1, hd3⟩
        have hj6 : j < wd := by
          have : j < (1 + v).toNat := hj
          omega
        refine ⟨rfl, yes (iteT ?_)⟩
        refine ⟨_, rfl, _, _, rfl, rfl, ⟨by omega, by omega, by decide⟩, _, hd3, ?_, fun c u n e => by rw [upd_ne n]; exact s1 c u n e, ?_⟩
        · rw [nv_len, List.length_map, List.length_range, sizeLine_eq]
          omega
        · rw [upd_same, pows_next]
          show some (HO.lst (_ ++ [V.int (1 * 2 ^ (0 + (j : Int)).toNat)])) = _
          rw [Int.zero_add, Int.one_mul, Int.toNat_natCast, ← pow_cast]
      rintro H18 ⟨s1, hd3⟩
      have hd3 : H18 D3 = some (.lst (nv ((List.range wd).map (2 ^ ·)))) := by
        rw [hd3]
        show some (HO.lst (nv ((List.range (1 + v).toNat).map (2 ^ ·)))) = _
        rw [ewd]
      have sm1718 : Same H17 H18 := fun c u e => s1 c u (ne_of_none e hD3) e
      refine ⟨D3, _, rfl, .inl ⟨SqL.of hd3, fun g3 hg3 => ?_⟩⟩
      have sm1719 : Same H17 (upd H18 g3 (.tup (nv ((List.range wd).map (2 ^ ·))))) := keep_new sm1718 hg3
      have hg19 : (upd H18 g3 (.tup (nv ((List.range wd).map (2 ^ ·))))) g3 = some (.tup (nv ((List.range wd).map (2 ^ ·)))) := upd_same
      generalize (upd H18 g3 (.tup (nv ((List.range wd).map (2 ^ ·))))) = H19 at sm1719 hg19 ⊢
      have hf19 := sm1719 _ _ hf3
      have lP : ((List.range wd).map (2 ^ ·)).length = wd := by rw [List.length_map, List.length_range]
      have hP : ∀ m ∈ (List.range wd).map (2 ^ ·), m < 2 ^ wd := fun m hm => by
        obtain ⟨j', hj', rfl⟩ := List.mem_map.mp hm
        exact Nat.pow_lt_pow_right (by decide) (List.mem_range.mp hj')
      -- the inverse, twice
      refine ⟨_, rfl, _, rfl, _, rfl, wd, f3, g3, F, (List.range wd).map (2 ^ ·), eq3, w1, w16, hf19, hg19, by omega, by omega, by omega, hF, hP, fun _ R1 q1 H20 mR1 sm20 hq1 => ?_, fun c9 _ _ => absurd (fun m hm => (GF.full_span iF lF hF m).mpr (hP m hm)) c9⟩
      refine ⟨_, rfl, _, rfl, wd, f3, F, eq2, w1, w16, sm20 _ _ hf19, by omega, hF, ⟨lF, iF⟩, fun R2 q2 H21 I2 sm21 hq2 => ?_⟩
      have eR : R1 = R2 := GF.inv_uniq iF lF hF (made_inv lF mR1) I2
      subst eR
      refine ⟨.tuple _, .tuple _, dpT (sm21 _ _ hq1), dpT hq2, shaped_tup _, shaped_tup _, _, rfl, iteFb (by rw [eqv_sameT]; rfl) ?_⟩
      have sm1921 := sm20.trans sm21
      refine ⟨_, rfl, _, rfl, _, rfl, wd, f3, F, eq2, w1, w16, sm1921 _ _ hf19, by omega, hF, ⟨lF, iF⟩, fun R3 q3 H22 I3 sm22 hq3 => ?_⟩
      have sm1922 := sm1921.trans sm22
      refine ⟨_, rfl, 1 + v, q3, f3, R3, F, rfl, hq3, sm1922 _ _ hf19, by rw [I3.len]; omega, by omega, bF, fun r hr' => by
        obtain ⟨j, hj⟩ := List.getElem?_of_mem hr'
        exact p16 w16 (I3.at_ j r hj).1, fun q4 H23 sm23 hq4 => ?_⟩
      rw [inv_map I3] at hq4
      have sm1923 := sm1922.trans sm23
      refine ⟨_, rfl, .tuple _, .tuple _, dpT hq4, dpT (sm1923 _ _ hg19), shaped_tup _, shaped_tup _, _, rfl, ?_⟩
      refine iteFb (by rw [eqv_sameT]; rfl) ?_
      have sm1523 := (sm1517.trans sm1719).trans sm1923
      exact ⟨o4, _, _, _, _, _, _, _, _, _, _, _, _, _, _, _, rfl, smN.trans (toSam sm1523), sm1523 _ _ hb15, B4.mono (by omega)⟩
    · rintro σ H1 ⟨o1, t1, t2, t3, t4, t5, t6, t7, t8, t9, t10, t11, t12, t13, t14, t15, rfl, sm, hb1, B1⟩
      exact k H1 sm
end
end X1
set_option Elab.async false
set_option maxRecDepth 100000
set_option maxHeartbeats 4000000
namespace X1
open PySem L2
section
variable {P : Program} {w : World} {K : PySem.W.Frag} {mg : Str → Option Value} {base : Heap}
def spLaw (K : PySem.W.Frag) : Sp := fun vs H Q _ => ∃ (a : Addr) (ns : List Int), vs = [.ref a] ∧ SqL K H a (ns.map V.int) ∧ ns.length ≤ 63 ∧ ∀ H', Q (.bl true) H'
theorem scLaw : FnScope ["_law_script", "_law_k"] ["_law_script"] (defScope sLaw) := ⟨rfl, rfl, rfl, by decide +kernel, rfl, by decide +kernel, by decide +kernel⟩
theorem ok_law {f fR fB : Addr} {fd fdR fdB : FuncData} (A0 : Fun K "law" "law" sLaw f fd) (AR : At K mg "_law_right" sRight ["_law_box_here"] fR fdR) (AB : At K mg "_law_box" sBox ["_law_script", "_law_k"] fB fdB)
    (GR : G.FnG P w K mg base 8 fR fdR ["_law_box_here"] spRight) (T : Txt K mg) : G.FnG P w K mg base 9 f fd ["_law_script"] (spLaw K) := by
  have GB : FnOk P w K mg base CX0 1 fB fdB ["_law_script", "_law_k"] (spBox K) := ok_box AB T
  refine G.okG A0 scLaw (fun vs H Q E h => ?_) (fun cdv A outer s H vs Q E hga hr h => ?_)
  · obtain ⟨a, ns, rfl, _⟩ := h
    rfl
  · obtain ⟨a, ns, rfl, hS, hl, k⟩ := h
    have hr1 : Room 1 _ := hr.mono (by decide)
    have hgu : (A.deeper (PyProof.Rows.envOfC "law" (defScope sLaw) s.heap.objs.size f cdv)).guards = some [] := hga
    refine ⟨_, pss_one (ps_ret (pe_callB (cr_all rfl) (by rfl) T.all (by decide +kernel) (pa_cons (pe_lc (own := [("_law_k", 1)]) (g := gName 1) (tt := tYes) rfl scLaw.nd (pi_range1 (by rfl) T.range (pa_cons (pe_callB (call_max2 rfl) (by rfl) T.max (by decide +kernel) (pa_cons pe_int (pa_cons (pe_callB (call_min2 rfl) (by rfl) T.min (by decide +kernel) (pa_cons (pe_callB call_len_seq (by rfl) T.len PySem.boot_len (pa_cons (pv 0) pa_nil)) (pa_cons pe_int pa_nil))) pa_nil))) pa_nil)) (blkOk_by (N := ["_law_script", "_law_k"]) (sc := defScope sLaw) (by decide +kernel)) (fun _ _ _ _ _ => pg_name (i := 1) scLaw.nd rfl (Or.inl rfl)) (fun _ _ _ _ _ => pts_nil) (fun _ _ _ _ _ => G.pe_callG GR hgu hr (by rfl) AR.mg AR.fn.kp AR.bi .nil (pa_cons (pe_call GB hr1 (by rfl) AB.mg AB.fn.kp AB.bi .nil pass0 (pa_cons (pv 0) (pa_cons (pv 1) pa_nil))) pa_nil))) pa_nil))), ?_⟩
    refine ⟨_, rfl, a, _, rfl, .inl hS, _, _, rfl, _, _, rfl, ?_⟩
    rw [List.length_map]
    refine ⟨_, rfl, ?_, ?_, ?_⟩
    · show -(2 ^ 62) ≤ (if (if (3 : Int) < (ns.length : Int) then (3 : Int) else (ns.length : Int)) > 1 then (if (3 : Int) < (ns.length : Int) then (3 : Int) else (ns.length : Int)) else 1)
      omega
    · show (if (if (3 : Int) < (ns.length : Int) then (3 : Int) else (ns.length : Int)) > 1 then (if (3 : Int) < (ns.length : Int) then (3 : Int) else (ns.length : Int)) else 1) < 2 ^ 62
      omega
    intro D hD
    refine lc_range (lo := 0) (fun i H' => Same H H' ∧ H' D = some (.lst ((List.replicate i true).map V.bl))) ⟨fun c o e => by rw [upd_ne (ne_of_none e hD)]; exact e, upd_same⟩ ?_ ?_
    · rintro i H1 hi ⟨s1, hd⟩
      have hi3 : i < 3 := by
        have hi' : i < ((if (if (3 : Int) < (ns.length : Int) then (3 : Int) else (ns.length : Int)) > 1 then (if (3 : Int) < (ns.length : Int) then (3 : Int) else (ns.length : Int)) else 1)).toNat := hi
        omega
      refine ⟨rfl, yes (iteT ?_)⟩
      refine ⟨_, rfl, _, rfl, a, ns, i, by rw [Int.zero_add]; rfl, s1.seq hS, by omega, fun b o hb B => ?_⟩
      have nDb : D ≠ b := ne_of_none hd hb
      refine ⟨b, o, rfl, upd_same, B, fun H2 s2 => ?_⟩
      have hD2 : H2 D = some (.lst ((List.replicate i true).map V.bl)) := s2 D _ nDb ((upd_ne nDb).trans hd)
      refine ⟨_, hD2, ?_, fun c u e => ?_, ?_⟩
      · rw [List.length_map, List.length_replicate]
        exact Nat.lt_trans hi3 (by decide)
      · have ncD : c ≠ D := ne_of_none e hD
        have e1 := s1 c u e
        have ncb : c ≠ b := ne_of_none e1 hb
        rw [upd_ne ncD]
        exact s2 c u ncb ((upd_ne ncb).trans e1)
      · rw [upd_same, List.replicate_succ', List.map_append]
        rfl
    · rintro H1 ⟨s1, hd⟩
      refine ⟨D, _, rfl, SqL.of hd, ?_⟩
      rw [show ∀ j : Nat, (List.replicate j true).all id = true from fun j => by simp]
      exact k H1
end
/-! ### what the top has written, the head -/
theorem all_mk {l : PySem.W.OpenLaw} {w : World} {K : PySem.W.Frag} {h : Heap} {mg : Str → Option Value} {fa fin fiw f0 f1 f2 f3 f4 f5 f6 f7 f8 f9 f10 f11 f12 f13 f14 f15 f16 f17 f18 f19 f20 f21 f22 f23 f24 f25 f26 f27 f28 f29 f30 f31 f32 f33 f34 f35 : Addr} (X : K.In h) (Gn : h.Ns mainGlobals mg) (hfa : mg "law" = some (.ref fa))
    {od0 an0 od1 an1 od2 an2 od3 an3 od4 an4 od5 an5 od6 an6 od7 an7 od8 an8 od9 an9 od10 an10 od11 an11 od12 an12 od13 an13 od14 an14 od15 an15 od16 an16 od17 an17 od18 an18 od19 an19 od20 an20 od21 an21 od22 an22 od23 an23 od24 an24 od25 an25 od26 an26 od27 an27 od28 an28 od29 an29 od30 an30 od31 an31 od32 an32 od33 an33 od34 an34 od35 an35 : Option Addr} {sl0 sl1 sl2 sl3 sl4 sl5 sl6 sl7 sl8 sl9 sl10 sl11 sl12 sl13 sl14 sl15 sl16 sl17 sl18 sl19 sl20 sl21 sl22 sl23 sl24 sl25 sl26 sl27 sl28 sl29 sl30 sl31 sl32 sl33 sl34 sl35 : Array (Option Value)} {oc0 kV0 dc0 pm0 cd0 ct0 oc1 kV1 dc1 pm1 cd1 ct1 oc2 kV2 dc2 pm2 cd2 ct2 oc3 kV3 dc3 pm3 cd3 ct3 oc4 kV4 dc4 pm4 cd4 ct4 oc5 kV5 dc5 pm5 cd5 ct5 oc6 kV6 dc6 pm6 cd6 ct6 oc7 kV7 dc7 pm7 cd7 ct7 oc8 kV8 dc8 pm8 cd8 ct8 oc9 kV9 dc9 pm9 cd9 ct9 oc10 kV10 dc10 pm10 cd10 ct10 oc11 kV11 dc11 pm11 cd11 ct11 oc12 kV12 dc12 pm12 cd12 ct12 oc13 kV13 dc13 pm13 cd13 ct13 oc14 kV14 dc14 pm14 cd14 ct14 oc15 kV15 dc15 pm15 cd15 ct15 oc16 kV16 dc16 pm16 cd16 ct16 oc17 kV17 dc17 pm17 cd17 ct17 oc18 kV18 dc18 pm18 cd18 ct18 oc19 kV19 dc19 pm19 cd19 ct19 oc20 kV20 dc20 pm20 cd20 ct20 oc21 kV21 dc21 pm21 cd21 ct21 oc22 kV22 dc22 pm22 cd22 ct22 oc23 kV23 dc23 pm23 cd23 ct23 oc24 kV24 dc24 pm24 cd24 ct24 oc25 kV25 dc25 pm25 cd25 ct25 oc26 kV26 dc26 pm26 cd26 ct26 oc27 kV27 dc27 pm27 cd27 ct27 oc28 kV28 dc28 pm28 cd28 ct28 oc29 kV29 dc29 pm29 cd29 ct29 oc30 kV30 dc30 pm30 cd30 ct30 oc31 kV31 dc31 pm31 cd31 ct31 oc32 kV32 dc32 pm32 cd32 ct32 oc33 kV33 dc33 pm33 cd33 ct33 oc34 kV34 dc34 pm34 cd34 ct34 oc35 kV35 dc35 pm35 cd35 ct35 : Value} {tk0 tk1 : Tok}
    {odin anin : Option Addr} {slin : Array (Option Value)} {ocin kVin dcin pmin cdin ctin : Value}
    (ain : PySem.W.nsIn K mainGlobals "independent" = some (some (.ref fin))) (lin : K.lookup fin = some ⟨ocin, odin, .func (PySem.W.fnOf "independent" "independent" (defArgs sIndepN) (defBody sIndepN) (defScope sIndepN) .none kVin dcin pmin anin cdin ctin), slin⟩) (cin : PySem.W.codeIn K cdin "independent" = true) (kin : PySem.W.keepIn K (.ref fin) = true)
    {odiw aniw : Option Addr} {sliw : Array (Option Value)} {ociw kViw dciw pmiw cdiw ctiw : Value}
    (aiw : PySem.W.nsIn K mainGlobals "is_width" = some (some (.ref fiw))) (liw : K.lookup fiw = some ⟨ociw, odiw, .func (PySem.W.fnOf "is_width" "is_width" (defArgs sIsWidth) (defBody sIsWidth) (defScope sIsWidth) .none kViw dciw pmiw aniw cdiw ctiw), sliw⟩) (ciw : PySem.W.codeIn K cdiw "is_width" = true) (kiw : PySem.W.keepIn K (.ref fiw) = true)
    (a0 : PySem.W.nsIn K mainGlobals "is_int" = some (some (.ref f0))) (l0 : K.lookup f0 = some ⟨oc0, od0, .func (PySem.W.fnOf "is_int" "is_int" (defArgs sIsInt) (defBody sIsInt) (defScope sIsInt) .none kV0 dc0 pm0 an0 cd0 ct0), sl0⟩) (c0 : PySem.W.codeIn K cd0 "is_int" = true) (k0 : PySem.W.keepIn K (.ref f0) = true)
    (a1 : PySem.W.nsIn K mainGlobals "is_address" = some (some (.ref f1))) (l1 : K.lookup f1 = some ⟨oc1, od1, .func (PySem.W.fnOf "is_address" "is_address" (defArgs sIsAddr) (defBody sIsAddr) (defScope sIsAddr) .none kV1 dc1 pm1 an1 cd1 ct1), sl1⟩) (c1 : PySem.W.codeIn K cd1 "is_address" = true) (k1 : PySem.W.keepIn K (.ref f1) = true)
    (a2 : PySem.W.nsIn K mainGlobals "are_addresses" = some (some (.ref f2))) (l2 : K.lookup f2 = some ⟨oc2, od2, .func (PySem.W.fnOf "are_addresses" "are_addresses" (defArgs sAreAddrs) (defBody sAreAddrs) (defScope sAreAddrs) .none kV2 dc2 pm2 an2 cd2 ct2), sl2⟩) (c2 : PySem.W.codeIn K cd2 "are_addresses" = true) (k2 : PySem.W.keepIn K (.ref f2) = true)
    (a3 : PySem.W.nsIn K mainGlobals "are_masks" = some (some (.ref f3))) (l3 : K.lookup f3 = some ⟨oc3, od3, .func (PySem.W.fnOf "are_masks" "are_masks" (defArgs sAreMasks) (defBody sAreMasks) (defScope sAreMasks) .none kV3 dc3 pm3 an3 cd3 ct3), sl3⟩) (c3 : PySem.W.codeIn K cd3 "are_masks" = true) (k3 : PySem.W.keepIn K (.ref f3) = true)
    (a4 : PySem.W.nsIn K mainGlobals "are_ascending" = some (some (.ref f4))) (l4 : K.lookup f4 = some ⟨oc4, od4, .func (PySem.W.fnOf "are_ascending" "are_ascending" (defArgs sAsc) (defBody sAsc) (defScope sAsc) .none kV4 dc4 pm4 an4 cd4 ct4), sl4⟩) (c4 : PySem.W.codeIn K cd4 "are_ascending" = true) (k4 : PySem.W.keepIn K (.ref f4) = true)
    (a5 : PySem.W.nsIn K mainGlobals "are_differences_of" = some (some (.ref f5))) (l5 : K.lookup f5 = some ⟨oc5, od5, .func (PySem.W.fnOf "are_differences_of" "are_differences_of" (defArgs sAreDiffs) (defBody sAreDiffs) (defScope sAreDiffs) .none kV5 dc5 pm5 an5 cd5 ct5), sl5⟩) (c5 : PySem.W.codeIn K cd5 "are_differences_of" = true) (k5 : PySem.W.keepIn K (.ref f5) = true)
    (a6 : PySem.W.nsIn K mainGlobals "check_width" = some (some (.ref f6))) (l6 : K.lookup f6 = some ⟨oc6, od6, .func (PySem.W.fnOf "check_width" "check_width" (defArgs sCkWidth) (defBody sCkWidth) (defScope sCkWidth) .none kV6 dc6 pm6 an6 cd6 ct6), sl6⟩) (c6 : PySem.W.codeIn K cd6 "check_width" = true) (k6 : PySem.W.keepIn K (.ref f6) = true)
    (a7 : PySem.W.nsIn K mainGlobals "check_map" = some (some (.ref f7))) (l7 : K.lookup f7 = some ⟨oc7, od7, .func (PySem.W.fnOf "check_map" "check_map" (defArgs sCkMap) (defBody sCkMap) (defScope sCkMap) .none kV7 dc7 pm7 an7 cd7 ct7), sl7⟩) (c7 : PySem.W.codeIn K cd7 "check_map" = true) (k7 : PySem.W.keepIn K (.ref f7) = true)
    (a8 : PySem.W.nsIn K mainGlobals "check_address" = some (some (.ref f8))) (l8 : K.lookup f8 = some ⟨oc8, od8, .func (PySem.W.fnOf "check_address" "check_address" (defArgs sCkAddr) (defBody sCkAddr) (defScope sCkAddr) .none kV8 dc8 pm8 an8 cd8 ct8), sl8⟩) (c8 : PySem.W.codeIn K cd8 "check_address" = true) (k8 : PySem.W.keepIn K (.ref f8) = true)
    (a9 : PySem.W.nsIn K mainGlobals "check_differences" = some (some (.ref f9))) (l9 : K.lookup f9 = some ⟨oc9, od9, .func (PySem.W.fnOf "check_differences" "check_differences" (defArgs sCkDiffs) (defBody sCkDiffs) (defScope sCkDiffs) .none kV9 dc9 pm9 an9 cd9 ct9), sl9⟩) (c9 : PySem.W.codeIn K cd9 "check_differences" = true) (k9 : PySem.W.keepIn K (.ref f9) = true)
    (a10 : PySem.W.nsIn K mainGlobals "parity" = some (some (.ref f10))) (l10 : K.lookup f10 = some ⟨oc10, od10, .func (PySem.W.fnOf "parity" "parity" (defArgs sParity) (defBody sParity) (defScope sParity) .none kV10 dc10 pm10 an10 cd10 ct10), sl10⟩) (c10 : PySem.W.codeIn K cd10 "parity" = true) (k10 : PySem.W.keepIn K (.ref f10) = true)
    (a11 : PySem.W.nsIn K mainGlobals "remainder" = some (some (.ref f11))) (l11 : K.lookup f11 = some ⟨oc11, od11, .func (PySem.W.fnOf "remainder" "remainder" (defArgs sRem) (defBody sRem) (defScope sRem) .none kV11 dc11 pm11 an11 cd11 ct11), sl11⟩) (c11 : PySem.W.codeIn K cd11 "remainder" = true) (k11 : PySem.W.keepIn K (.ref f11) = true)
    (a12 : PySem.W.nsIn K mainGlobals "reduced" = some (some (.ref f12))) (l12 : K.lookup f12 = some ⟨oc12, od12, .func (PySem.W.fnOf "reduced" "reduced" (defArgs sRed) (defBody sRed) (defScope sRed) .none kV12 dc12 pm12 an12 cd12 ct12), sl12⟩) (c12 : PySem.W.codeIn K cd12 "reduced" = true) (k12 : PySem.W.keepIn K (.ref f12) = true)
    (a13 : PySem.W.nsIn K mainGlobals "highest_bit" = some (some (.ref f13))) (l13 : K.lookup f13 = some ⟨oc13, od13, .func (PySem.W.fnOf "highest_bit" "highest_bit" (defArgs sHb) (defBody sHb) (defScope sHb) .none kV13 dc13 pm13 an13 cd13 ct13), sl13⟩) (c13 : PySem.W.codeIn K cd13 "highest_bit" = true) (k13 : PySem.W.keepIn K (.ref f13) = true)
    (a14 : PySem.W.nsIn K mainGlobals "powers" = some (some (.ref f14))) (l14 : K.lookup f14 = some ⟨oc14, od14, .func (PySem.W.fnOf "powers" "powers" (defArgs sPowers) (defBody sPowers) (defScope sPowers) .none kV14 dc14 pm14 an14 cd14 ct14), sl14⟩) (c14 : PySem.W.codeIn K cd14 "powers" = true) (k14 : PySem.W.keepIn K (.ref f14) = true)
    (a15 : PySem.W.nsIn K mainGlobals "orthogonal" = some (some (.ref f15))) (l15 : K.lookup f15 = some ⟨oc15, od15, .func (PySem.W.fnOf "orthogonal" "orthogonal" (defArgs sOrth) (defBody sOrth) (defScope sOrth) .none kV15 dc15 pm15 an15 cd15 ct15), sl15⟩) (c15 : PySem.W.codeIn K cd15 "orthogonal" = true) (k15 : PySem.W.keepIn K (.ref f15) = true)
    (a16 : PySem.W.nsIn K mainGlobals "bank_of" = some (some (.ref f16))) (l16 : K.lookup f16 = some ⟨oc16, od16, .func (PySem.W.fnOf "bank_of" "bank_of" (defArgs sBankOf) (defBody sBankOf) (defScope sBankOf) .none kV16 dc16 pm16 an16 cd16 ct16), sl16⟩) (c16 : PySem.W.codeIn K cd16 "bank_of" = true) (k16 : PySem.W.keepIn K (.ref f16) = true)
    (a17 : PySem.W.nsIn K mainGlobals "are_independent" = some (some (.ref f17))) (l17 : K.lookup f17 = some ⟨oc17, od17, .func (PySem.W.fnOf "are_independent" "are_independent" (defArgs sInd) (defBody sInd) (defScope sInd) .none kV17 dc17 pm17 an17 cd17 ct17), sl17⟩) (c17 : PySem.W.codeIn K cd17 "are_independent" = true) (k17 : PySem.W.keepIn K (.ref f17) = true)
    (a18 : PySem.W.nsIn K mainGlobals "recoded" = some (some (.ref f18))) (l18 : K.lookup f18 = some ⟨oc18, od18, .func (PySem.W.fnOf "recoded" "recoded" (defArgs sRec) (defBody sRec) (defScope sRec) .none kV18 dc18 pm18 an18 cd18 ct18), sl18⟩) (c18 : PySem.W.codeIn K cd18 "recoded" = true) (k18 : PySem.W.keepIn K (.ref f18) = true)
    (a19 : PySem.W.nsIn K mainGlobals "bank" = some (some (.ref f19))) (l19 : K.lookup f19 = some ⟨oc19, od19, .func (PySem.W.fnOf "bank" "bank" (defArgs sBank) (defBody sBank) (defScope sBank) .none kV19 dc19 pm19 an19 cd19 ct19), sl19⟩) (c19 : PySem.W.codeIn K cd19 "bank" = true) (k19 : PySem.W.keepIn K (.ref f19) = true)
    (a20 : PySem.W.nsIn K mainGlobals "kernel" = some (some (.ref f20))) (l20 : K.lookup f20 = some ⟨oc20, od20, .func (PySem.W.fnOf "kernel" "kernel" (defArgs sKernel) (defBody sKernel) (defScope sKernel) .none kV20 dc20 pm20 an20 cd20 ct20), sl20⟩) (c20 : PySem.W.codeIn K cd20 "kernel" = true) (k20 : PySem.W.keepIn K (.ref f20) = true)
    (a21 : PySem.W.nsIn K mainGlobals "recoding" = some (some (.ref f21))) (l21 : K.lookup f21 = some ⟨oc21, od21, .func (PySem.W.fnOf "recoding" "recoding" (defArgs sRecg) (defBody sRecg) (defScope sRecg) .none kV21 dc21 pm21 an21 cd21 ct21), sl21⟩) (c21 : PySem.W.codeIn K cd21 "recoding" = true) (k21 : PySem.W.keepIn K (.ref f21) = true)
    (a22 : PySem.W.nsIn K mainGlobals "completed" = some (some (.ref f22))) (l22 : K.lookup f22 = some ⟨oc22, od22, .func (PySem.W.fnOf "completed" "completed" (defArgs sComp) (defBody sComp) (defScope sComp) .none kV22 dc22 pm22 an22 cd22 ct22), sl22⟩) (c22 : PySem.W.codeIn K cd22 "completed" = true) (k22 : PySem.W.keepIn K (.ref f22) = true)
    (a23 : PySem.W.nsIn K mainGlobals "inverse" = some (some (.ref f23))) (l23 : K.lookup f23 = some ⟨oc23, od23, .func (PySem.W.fnOf "inverse" "inverse" (defArgs sInv) (defBody sInv) (defScope sInv) .none kV23 dc23 pm23 an23 cd23 ct23), sl23⟩) (c23 : PySem.W.codeIn K cd23 "inverse" = true) (k23 : PySem.W.keepIn K (.ref f23) = true)
    (a24 : PySem.W.nsIn K mainGlobals "hidden" = some (some (.ref f24))) (l24 : K.lookup f24 = some ⟨oc24, od24, .func (PySem.W.fnOf "hidden" "hidden" (defArgs sHidden) (defBody sHidden) (defScope sHidden) .none kV24 dc24 pm24 an24 cd24 ct24), sl24⟩) (c24 : PySem.W.codeIn K cd24 "hidden" = true) (k24 : PySem.W.keepIn K (.ref f24) = true)
    (a25 : PySem.W.nsIn K mainGlobals "_law_box" = some (some (.ref f25))) (l25 : K.lookup f25 = some ⟨oc25, od25, .func (PySem.W.fnOf "_law_box" "_law_box" (defArgs sBox) (defBody sBox) (defScope sBox) .none kV25 dc25 pm25 an25 cd25 ct25), sl25⟩) (c25 : PySem.W.codeIn K cd25 "_law_box" = true) (k25 : PySem.W.keepIn K (.ref f25) = true)
    (a26 : PySem.W.nsIn K mainGlobals "_law_take" = some (some (.ref f26))) (l26 : K.lookup f26 = some ⟨oc26, od26, .func (PySem.W.fnOf "_law_take" "_law_take" (defArgs sTake) (defBody sTake) (defScope sTake) .none kV26 dc26 pm26 an26 cd26 ct26), sl26⟩) (c26 : PySem.W.codeIn K cd26 "_law_take" = true) (k26 : PySem.W.keepIn K (.ref f26) = true)
    (a27 : PySem.W.nsIn K mainGlobals "_law_of" = some (some (.ref f27))) (l27 : K.lookup f27 = some ⟨oc27, od27, .func (PySem.W.fnOf "_law_of" "_law_of" (defArgs sOf) (defBody sOf) (defScope sOf) .none kV27 dc27 pm27 an27 cd27 ct27), sl27⟩) (c27 : PySem.W.codeIn K cd27 "_law_of" = true) (k27 : PySem.W.keepIn K (.ref f27) = true)
    (a28 : PySem.W.nsIn K mainGlobals "_law_all_of" = some (some (.ref f28))) (l28 : K.lookup f28 = some ⟨oc28, od28, .func (PySem.W.fnOf "_law_all_of" "_law_all_of" (defArgs sAllOf) (defBody sAllOf) (defScope sAllOf) .none kV28 dc28 pm28 an28 cd28 ct28), sl28⟩) (c28 : PySem.W.codeIn K cd28 "_law_all_of" = true) (k28 : PySem.W.keepIn K (.ref f28) = true)
    (a29 : PySem.W.nsIn K mainGlobals "_law_lot" = some (some (.ref f29))) (l29 : K.lookup f29 = some ⟨oc29, od29, .func (PySem.W.fnOf "_law_lot" "_law_lot" (defArgs sLot) (defBody sLot) (defScope sLot) .none kV29 dc29 pm29 an29 cd29 ct29), sl29⟩) (c29 : PySem.W.codeIn K cd29 "_law_lot" = true) (k29 : PySem.W.keepIn K (.ref f29) = true)
    (a30 : PySem.W.nsIn K mainGlobals "_law_plan" = some (some (.ref f30))) (l30 : K.lookup f30 = some ⟨oc30, od30, .func (PySem.W.fnOf "_law_plan" "_law_plan" (defArgs sPlan) (defBody sPlan) (defScope sPlan) .none kV30 dc30 pm30 an30 cd30 ct30), sl30⟩) (c30 : PySem.W.codeIn K cd30 "_law_plan" = true) (k30 : PySem.W.keepIn K (.ref f30) = true)
    (a31 : PySem.W.nsIn K mainGlobals "_law_gaps" = some (some (.ref f31))) (l31 : K.lookup f31 = some ⟨oc31, od31, .func (PySem.W.fnOf "_law_gaps" "_law_gaps" (defArgs sGaps) (defBody sGaps) (defScope sGaps) .none kV31 dc31 pm31 an31 cd31 ct31), sl31⟩) (c31 : PySem.W.codeIn K cd31 "_law_gaps" = true) (k31 : PySem.W.keepIn K (.ref f31) = true)
    (a32 : PySem.W.nsIn K mainGlobals "_law_led" = some (some (.ref f32))) (l32 : K.lookup f32 = some ⟨oc32, od32, .func (PySem.W.fnOf "_law_led" "_law_led" (defArgs sLed) (defBody sLed) (defScope sLed) .none kV32 dc32 pm32 an32 cd32 ct32), sl32⟩) (c32 : PySem.W.codeIn K cd32 "_law_led" = true) (k32 : PySem.W.keepIn K (.ref f32) = true)
    (a33 : PySem.W.nsIn K mainGlobals "_law_pair" = some (some (.ref f33))) (l33 : K.lookup f33 = some ⟨oc33, od33, .func (PySem.W.fnOf "_law_pair" "_law_pair" (defArgs sPair) (defBody sPair) (defScope sPair) .none kV33 dc33 pm33 an33 cd33 ct33), sl33⟩) (c33 : PySem.W.codeIn K cd33 "_law_pair" = true) (k33 : PySem.W.keepIn K (.ref f33) = true)
    (a34 : PySem.W.nsIn K mainGlobals "_law_right" = some (some (.ref f34))) (l34 : K.lookup f34 = some ⟨oc34, od34, .func (PySem.W.fnOf "_law_right" "_law_right" (defArgs sRight) (defBody sRight) (defScope sRight) .none kV34 dc34 pm34 an34 cd34 ct34), sl34⟩) (c34 : PySem.W.codeIn K cd34 "_law_right" = true) (k34 : PySem.W.keepIn K (.ref f34) = true)
    (a35 : PySem.W.nsIn K mainGlobals "law" = some (some (.ref f35))) (l35 : K.lookup f35 = some ⟨oc35, od35, .func (PySem.W.fnOf "law" "law" (defArgs sLaw) (defBody sLaw) (defScope sLaw) .none kV35 dc35 pm35 an35 cd35 ct35), sl35⟩) (c35 : PySem.W.codeIn K cd35 "law" = true) (k35 : PySem.W.keepIn K (.ref f35) = true)
    (z0 : PySem.W.nsIn K mainGlobals "isinstance" = some none)
    (z1 : PySem.W.nsIn K mainGlobals "int" = some none)
    (z2 : PySem.W.nsIn K mainGlobals "bool" = some none)
    (z3 : PySem.W.nsIn K mainGlobals "tuple" = some none)
    (z4 : PySem.W.nsIn K mainGlobals "len" = some none)
    (z5 : PySem.W.nsIn K mainGlobals "all" = some none)
    (z6 : PySem.W.nsIn K mainGlobals "any" = some none)
    (z7 : PySem.W.nsIn K mainGlobals "sum" = some none)
    (z8 : PySem.W.nsIn K mainGlobals "enumerate" = some none)
    (z9 : PySem.W.nsIn K mainGlobals "zip" = some none)
    (z10 : PySem.W.nsIn K mainGlobals "sorted" = some none)
    (z11 : PySem.W.nsIn K mainGlobals "abs" = some none)
    (z12 : PySem.W.nsIn K mainGlobals "range" = some none)
    (z13 : PySem.W.nsIn K mainGlobals "repr" = some none)
    (z14 : PySem.W.nsIn K mainGlobals "max" = some none)
    (z15 : PySem.W.nsIn K mainGlobals "min" = some none)
    (z16 : PySem.W.nsIn K mainGlobals "dict" = some none)
    (z17 : PySem.W.nsIn K mainGlobals "set" = some none)
    (z18 : PySem.W.nsIn K mainGlobals "list" = some none)
    (m0 : PySem.W.nsIn K mainGlobals "MOST_WIDTH" = some (some (.int 16 tk0)))
    (m1 : PySem.W.nsIn K mainGlobals "MOST_MASKS" = some (some (.int 16 tk1))) :
    ∃ fd : FuncData, (∀ (s : Shared) (v : Value), BindsTo s fd ⟨[v], []⟩ [("_law_script", v)]) ∧ ∀ base : Heap, K.In base → base.Ns mainGlobals mg → G.FnG l.prog w K mg base 9 fa fd ["_law_script"] (spLaw K) := by
  have e := hfa.symm.trans (PySem.W.mg_of X Gn a35)
  cases e
  have Fiw := fun_mk (st := sIsWidth) liw ciw kiw
  have Aiw : At K mg "is_width" sIsWidth ["value"] fiw _ := ⟨Fiw, PySem.W.mg_of X Gn aiw, Fiw.binds (ps := ["value"]) fun _ _ _ _ _ _ us hl => match us, hl with | [_], _ => rfl⟩
  have Fin_ := fun_mk (st := sIndepN) lin cin kin
  have Ain : At K mg "independent" sIndepN ["known", "vectors"] fin _ := ⟨Fin_, PySem.W.mg_of X Gn ain, Fin_.binds (ps := ["known", "vectors"]) fun _ _ _ _ _ _ us hl => match us, hl with | [_, _], _ => rfl⟩
  have T : Txt K mg := ⟨⟨_, _, Ain⟩, ⟨_, _, Aiw⟩, PySem.W.mg_none_of X Gn z0, PySem.W.mg_none_of X Gn z1, PySem.W.mg_none_of X Gn z2, PySem.W.mg_none_of X Gn z3, PySem.W.mg_none_of X Gn z4, PySem.W.mg_none_of X Gn z5, PySem.W.mg_none_of X Gn z6, PySem.W.mg_none_of X Gn z7, PySem.W.mg_none_of X Gn z8, PySem.W.mg_none_of X Gn z9, PySem.W.mg_none_of X Gn z10, PySem.W.mg_none_of X Gn z11, PySem.W.mg_none_of X Gn z12, PySem.W.mg_none_of X Gn z13, PySem.W.mg_none_of X Gn z14, PySem.W.mg_none_of X Gn z15, PySem.W.mg_none_of X Gn z16, PySem.W.mg_none_of X Gn z17, PySem.W.mg_none_of X Gn z18, ⟨_, PySem.W.mg_of X Gn m0⟩, ⟨_, PySem.W.mg_of X Gn m1⟩⟩
  have F0 := fun_mk (st := sIsInt) l0 c0 k0
  have A0 : At K mg "is_int" sIsInt ["value"] f0 _ := ⟨F0, PySem.W.mg_of X Gn a0, F0.binds (ps := ["value"]) fun _ _ _ _ _ _ us hl => match us, hl with | [_], _ => rfl⟩
  have F1 := fun_mk (st := sIsAddr) l1 c1 k1
  have A1 : At K mg "is_address" sIsAddr ["width", "value"] f1 _ := ⟨F1, PySem.W.mg_of X Gn a1, F1.binds (ps := ["width", "value"]) fun _ _ _ _ _ _ us hl => match us, hl with | [_, _], _ => rfl⟩
  have F2 := fun_mk (st := sAreAddrs) l2 c2 k2
  have A2 : At K mg "are_addresses" sAreAddrs ["width", "value", "most"] f2 _ := ⟨F2, PySem.W.mg_of X Gn a2, F2.binds (ps := ["width", "value", "most"]) fun _ _ _ _ _ _ us hl => match us, hl with | [_, _, _], _ => rfl⟩
  have F3 := fun_mk (st := sAreMasks) l3 c3 k3
  have A3 : At K mg "are_masks" sAreMasks ["width", "value"] f3 _ := ⟨F3, PySem.W.mg_of X Gn a3, F3.binds (ps := ["width", "value"]) fun _ _ _ _ _ _ us hl => match us, hl with | [_, _], _ => rfl⟩
  have F4 := fun_mk (st := sAsc) l4 c4 k4
  have A4 : At K mg "are_ascending" sAsc ["width", "value", "most"] f4 _ := ⟨F4, PySem.W.mg_of X Gn a4, F4.binds (ps := ["width", "value", "most"]) fun _ _ _ _ _ _ us hl => match us, hl with | [_, _, _], _ => rfl⟩
  have F5 := fun_mk (st := sAreDiffs) l5 c5 k5
  have A5 : At K mg "are_differences_of" sAreDiffs ["width", "value"] f5 _ := ⟨F5, PySem.W.mg_of X Gn a5, F5.binds (ps := ["width", "value"]) fun _ _ _ _ _ _ us hl => match us, hl with | [_, _], _ => rfl⟩
  have F6 := fun_mk (st := sCkWidth) l6 c6 k6
  have A6 : At K mg "check_width" sCkWidth ["width"] f6 _ := ⟨F6, PySem.W.mg_of X Gn a6, F6.binds (ps := ["width"]) fun _ _ _ _ _ _ us hl => match us, hl with | [_], _ => rfl⟩
  have F7 := fun_mk (st := sCkMap) l7 c7 k7
  have A7 : At K mg "check_map" sCkMap ["width", "masks"] f7 _ := ⟨F7, PySem.W.mg_of X Gn a7, F7.binds (ps := ["width", "masks"]) fun _ _ _ _ _ _ us hl => match us, hl with | [_, _], _ => rfl⟩
  have F8 := fun_mk (st := sCkAddr) l8 c8 k8
  have A8 : At K mg "check_address" sCkAddr ["width", "address"] f8 _ := ⟨F8, PySem.W.mg_of X Gn a8, F8.binds (ps := ["width", "address"]) fun _ _ _ _ _ _ us hl => match us, hl with | [_, _], _ => rfl⟩
  have F9 := fun_mk (st := sCkDiffs) l9 c9 k9
  have A9 : At K mg "check_differences" sCkDiffs ["width", "differences"] f9 _ := ⟨F9, PySem.W.mg_of X Gn a9, F9.binds (ps := ["width", "differences"]) fun _ _ _ _ _ _ us hl => match us, hl with | [_, _], _ => rfl⟩
  have F10 := fun_mk (st := sParity) l10 c10 k10
  have A10 : At K mg "parity" sParity ["number"] f10 _ := ⟨F10, PySem.W.mg_of X Gn a10, F10.binds (ps := ["number"]) fun _ _ _ _ _ _ us hl => match us, hl with | [_], _ => rfl⟩
  have F11 := fun_mk (st := sRem) l11 c11 k11
  have A11 : At K mg "remainder" sRem ["rows", "vector"] f11 _ := ⟨F11, PySem.W.mg_of X Gn a11, F11.binds (ps := ["rows", "vector"]) fun _ _ _ _ _ _ us hl => match us, hl with | [_, _], _ => rfl⟩
  have F12 := fun_mk (st := sRed) l12 c12 k12
  have A12 : At K mg "reduced" sRed ["vectors"] f12 _ := ⟨F12, PySem.W.mg_of X Gn a12, F12.binds (ps := ["vectors"]) fun _ _ _ _ _ _ us hl => match us, hl with | [_], _ => rfl⟩
  have F13 := fun_mk (st := sHb) l13 c13 k13
  have A13 : At K mg "highest_bit" sHb ["number"] f13 _ := ⟨F13, PySem.W.mg_of X Gn a13, F13.binds (ps := ["number"]) fun _ _ _ _ _ _ us hl => match us, hl with | [_], _ => rfl⟩
  have F14 := fun_mk (st := sPowers) l14 c14 k14
  have A14 : At K mg "powers" sPowers ["width"] f14 _ := ⟨F14, PySem.W.mg_of X Gn a14, F14.binds (ps := ["width"]) fun _ _ _ _ _ _ us hl => match us, hl with | [_], _ => rfl⟩
  have F15 := fun_mk (st := sOrth) l15 c15 k15
  have A15 : At K mg "orthogonal" sOrth ["width", "vectors"] f15 _ := ⟨F15, PySem.W.mg_of X Gn a15, F15.binds (ps := ["width", "vectors"]) fun _ _ _ _ _ _ us hl => match us, hl with | [_, _], _ => rfl⟩
  have F16 := fun_mk (st := sBankOf) l16 c16 k16
  have A16 : At K mg "bank_of" sBankOf ["masks", "address"] f16 _ := ⟨F16, PySem.W.mg_of X Gn a16, F16.binds (ps := ["masks", "address"]) fun _ _ _ _ _ _ us hl => match us, hl with | [_, _], _ => rfl⟩
  have F17 := fun_mk (st := sInd) l17 c17 k17
  have A17 : At K mg "are_independent" sInd ["masks"] f17 _ := ⟨F17, PySem.W.mg_of X Gn a17, F17.binds (ps := ["masks"]) fun _ _ _ _ _ _ us hl => match us, hl with | [_], _ => rfl⟩
  have F18 := fun_mk (st := sRec) l18 c18 k18
  have A18 : At K mg "recoded" sRec ["masks", "others"] f18 _ := ⟨F18, PySem.W.mg_of X Gn a18, F18.binds (ps := ["masks", "others"]) fun _ _ _ _ _ _ us hl => match us, hl with | [_, _], _ => rfl⟩
  have F19 := fun_mk (st := sBank) l19 c19 k19
  have A19 : At K mg "bank" sBank ["width", "masks", "address"] f19 _ := ⟨F19, PySem.W.mg_of X Gn a19, F19.binds (ps := ["width", "masks", "address"]) fun _ _ _ _ _ _ us hl => match us, hl with | [_, _, _], _ => rfl⟩
  have F20 := fun_mk (st := sKernel) l20 c20 k20
  have A20 : At K mg "kernel" sKernel ["width", "masks"] f20 _ := ⟨F20, PySem.W.mg_of X Gn a20, F20.binds (ps := ["width", "masks"]) fun _ _ _ _ _ _ us hl => match us, hl with | [_, _], _ => rfl⟩
  have F21 := fun_mk (st := sRecg) l21 c21 k21
  have A21 : At K mg "recoding" sRecg ["width", "masks", "others"] f21 _ := ⟨F21, PySem.W.mg_of X Gn a21, F21.binds (ps := ["width", "masks", "others"]) fun _ _ _ _ _ _ us hl => match us, hl with | [_, _, _], _ => rfl⟩
  have F22 := fun_mk (st := sComp) l22 c22 k22
  have A22 : At K mg "completed" sComp ["width", "masks"] f22 _ := ⟨F22, PySem.W.mg_of X Gn a22, F22.binds (ps := ["width", "masks"]) fun _ _ _ _ _ _ us hl => match us, hl with | [_, _], _ => rfl⟩
  have F23 := fun_mk (st := sInv) l23 c23 k23
  have A23 : At K mg "inverse" sInv ["width", "masks"] f23 _ := ⟨F23, PySem.W.mg_of X Gn a23, F23.binds (ps := ["width", "masks"]) fun _ _ _ _ _ _ us hl => match us, hl with | [_, _], _ => rfl⟩
  have F24 := fun_mk (st := sHidden) l24 c24 k24
  have A24 : At K mg "hidden" sHidden ["width", "masks", "differences"] f24 _ := ⟨F24, PySem.W.mg_of X Gn a24, F24.binds (ps := ["width", "masks", "differences"]) fun _ _ _ _ _ _ us hl => match us, hl with | [_, _, _], _ => rfl⟩
  have F25 := fun_mk (st := sBox) l25 c25 k25
  have A25 : At K mg "_law_box" sBox ["_law_script", "_law_k"] f25 _ := ⟨F25, PySem.W.mg_of X Gn a25, F25.binds (ps := ["_law_script", "_law_k"]) fun _ _ _ _ _ _ us hl => match us, hl with | [_, _], _ => rfl⟩
  have F26 := fun_mk (st := sTake) l26 c26 k26
  have A26 : At K mg "_law_take" sTake ["_law_box_here", "_law_many"] f26 _ := ⟨F26, PySem.W.mg_of X Gn a26, F26.binds (ps := ["_law_box_here", "_law_many"]) fun _ _ _ _ _ _ us hl => match us, hl with | [_, _], _ => rfl⟩
  have F27 := fun_mk (st := sOf) l27 c27 k27
  have A27 : At K mg "_law_of" sOf ["_law_box_here", "_law_some"] f27 _ := ⟨F27, PySem.W.mg_of X Gn a27, F27.binds (ps := ["_law_box_here", "_law_some"]) fun _ _ _ _ _ _ us hl => match us, hl with | [_, _], _ => rfl⟩
  have F28 := fun_mk (st := sAllOf) l28 c28 k28
  have A28 : At K mg "_law_all_of" sAllOf ["_law_lot_here"] f28 _ := ⟨F28, PySem.W.mg_of X Gn a28, F28.binds (ps := ["_law_lot_here"]) fun _ _ _ _ _ _ us hl => match us, hl with | [_], _ => rfl⟩
  have F29 := fun_mk (st := sLot) l29 c29 k29
  have A29 : At K mg "_law_lot" sLot ["_law_box_here", "_law_size", "_law_most"] f29 _ := ⟨F29, PySem.W.mg_of X Gn a29, F29.binds (ps := ["_law_box_here", "_law_size", "_law_most"]) fun _ _ _ _ _ _ us hl => match us, hl with | [_, _, _], _ => rfl⟩
  have F30 := fun_mk (st := sPlan) l30 c30 k30
  have A30 : At K mg "_law_plan" sPlan ["_law_box_here", "_law_size", "_law_many"] f30 _ := ⟨F30, PySem.W.mg_of X Gn a30, F30.binds (ps := ["_law_box_here", "_law_size", "_law_many"]) fun _ _ _ _ _ _ us hl => match us, hl with | [_, _, _], _ => rfl⟩
  have F31 := fun_mk (st := sGaps) l31 c31 k31
  have A31 : At K mg "_law_gaps" sGaps ["_law_box_here", "_law_size", "_law_most"] f31 _ := ⟨F31, PySem.W.mg_of X Gn a31, F31.binds (ps := ["_law_box_here", "_law_size", "_law_most"]) fun _ _ _ _ _ _ us hl => match us, hl with | [_, _, _], _ => rfl⟩
  have F32 := fun_mk (st := sLed) l32 c32 k32
  have A32 : At K mg "_law_led" sLed ["_law_size", "_law_recoded", "_law_plan_here"] f32 _ := ⟨F32, PySem.W.mg_of X Gn a32, F32.binds (ps := ["_law_size", "_law_recoded", "_law_plan_here"]) fun _ _ _ _ _ _ us hl => match us, hl with | [_, _, _], _ => rfl⟩
  have F33 := fun_mk (st := sPair) l33 c33 k33
  have A33 : At K mg "_law_pair" sPair ["_law_box_here", "_law_size"] f33 _ := ⟨F33, PySem.W.mg_of X Gn a33, F33.binds (ps := ["_law_box_here", "_law_size"]) fun _ _ _ _ _ _ us hl => match us, hl with | [_, _], _ => rfl⟩
  have F34 := fun_mk (st := sRight) l34 c34 k34
  have A34 : At K mg "_law_right" sRight ["_law_box_here"] f34 _ := ⟨F34, PySem.W.mg_of X Gn a34, F34.binds (ps := ["_law_box_here"]) fun _ _ _ _ _ _ us hl => match us, hl with | [_], _ => rfl⟩
  have F35 := fun_mk (st := sLaw) l35 c35 k35
  refine ⟨PySem.W.fnOf "law" "law" (defArgs sLaw) (defBody sLaw) (defScope sLaw) .none kV35 dc35 pm35 an35 cd35 ct35, fun s v => .of_eq rfl, fun base _ _ => ?_⟩
  have GB := ok_bank (P := l.prog) (w := w) (base := base) A19 A0 A1 A2 A3 A6 A7 A8 A10 A16 T
  have GK := ok_kernel (P := l.prog) (w := w) (base := base) A20 A0 A1 A2 A3 A6 A7 A11 A12 A13 A14 A15 T
  have GR := ok_recg (P := l.prog) (w := w) (base := base) A21 A0 A1 A2 A3 A6 A7 A11 A12 A18 T
  have GC := ok_comp (P := l.prog) (w := w) (base := base) A22 A0 A1 A2 A3 A6 A7 A11 A12 A14 A17 T
  have GI := VN.ok_inv (P := l.prog) (w := w) (base := base) A23 A0 A1 A2 A3 A6 A7 A11 A12 A14 A17 A18 T
  have GH := ok_hidden (P := l.prog) (w := w) (base := base) A24 A0 A1 A2 A3 A4 A5 A6 A7 A9 A10 A16 T
  exact ok_law F35 A34 A25 (ok_right A34 A26 A27 A29 A28 A30 A31 A32 A33 A19 A20 A21 A22 A23 A24 GB GK GR GC GI GH T) T
theorem walk {l : PySem.W.OpenLaw} {q : Program} {loose : List Str} {XP : (Str → Option Value) → Heap → Prop} {YP : World → Heap → Prop} {d : DefRec} {K : Params → PySem.W.Frag} (hn : l.most = some 63) (hdf : d.params.defaults = [])
    (hY : ∀ (w : World) (h : Heap), YP w h → (K w.params).In h)
    (F : ∀ (w : World) (mg : Str → Option Value) (fa : Addr) (h : Heap), (K w.params).In h → h.Ns mainGlobals mg → mg d.name = some (.ref fa) →
      ∃ fd : FuncData, (∀ (s : Shared) (u : Value), BindsTo s fd ⟨[u], []⟩ [("_law_script", u)]) ∧ ∀ base : Heap, (K w.params).In base → base.Ns mainGlobals mg → G.FnG l.prog w (K w.params) mg base 9 fa fd ["_law_script"] (spLaw (K w.params))) :
    PySem.W.WalkO q loose XP YP l.row.toRowW d [] (fun f vs => PySem.call f vs) :=
  G.walk_G (n := 63) (k := 9) (x := "_law_script") (sp := spLaw) hn (by decide) hdf ⟨rfl, by decide, by decide⟩ hY F (fun _ _ a ns hl hS => ⟨a, ns, rfl, hS, hl, fun _ => rfl⟩)
end X1
open PySem PySem.W PyProof.Rows
set_option maxRecDepth 100000 in
set_option maxHeartbeats 0 in
theorem PySem.Challenge.cw_xorbanks_k79_whole_recodings_and_kernels_holds : PySem.Challenge.rw_xorbanks_k79_whole_recodings_and_kernels.Holds := by
  w_on; o_law; k_head; (case hw => w_witness2)
  k_fill
  refine X1.walk (l := PySem.Challenge.rw_xorbanks_k79_whole_recodings_and_kernels) rfl rfl (fun w h Y => PySem.W.kIn_of Y) ?F
  case F =>
    intro w mg fa h KX G hmg
    refine' X1.all_mk KX G hmg ?ain ?lin ?cin ?kin ?aiw ?liw ?ciw ?kiw ?a0 ?l0 ?c0 ?k0 ?a1 ?l1 ?c1 ?k1 ?a2 ?l2 ?c2 ?k2 ?a3 ?l3 ?c3 ?k3 ?a4 ?l4 ?c4 ?k4 ?a5 ?l5 ?c5 ?k5 ?a6 ?l6 ?c6 ?k6 ?a7 ?l7 ?c7 ?k7 ?a8 ?l8 ?c8 ?k8 ?a9 ?l9 ?c9 ?k9 ?a10 ?l10 ?c10 ?k10 ?a11 ?l11 ?c11 ?k11 ?a12 ?l12 ?c12 ?k12 ?a13 ?l13 ?c13 ?k13 ?a14 ?l14 ?c14 ?k14 ?a15 ?l15 ?c15 ?k15 ?a16 ?l16 ?c16 ?k16 ?a17 ?l17 ?c17 ?k17 ?a18 ?l18 ?c18 ?k18 ?a19 ?l19 ?c19 ?k19 ?a20 ?l20 ?c20 ?k20 ?a21 ?l21 ?c21 ?k21 ?a22 ?l22 ?c22 ?k22 ?a23 ?l23 ?c23 ?k23 ?a24 ?l24 ?c24 ?k24 ?a25 ?l25 ?c25 ?k25 ?a26 ?l26 ?c26 ?k26 ?a27 ?l27 ?c27 ?k27 ?a28 ?l28 ?c28 ?k28 ?a29 ?l29 ?c29 ?k29 ?a30 ?l30 ?c30 ?k30 ?a31 ?l31 ?c31 ?k31 ?a32 ?l32 ?c32 ?k32 ?a33 ?l33 ?c33 ?k33 ?a34 ?l34 ?c34 ?k34 ?a35 ?l35 ?c35 ?k35 ?z0 ?z1 ?z2 ?z3 ?z4 ?z5 ?z6 ?z7 ?z8 ?z9 ?z10 ?z11 ?z12 ?z13 ?z14 ?z15 ?z16 ?z17 ?z18 ?m0 ?m1
    (case ain => k_is)
    (case lin => k_is)
    (case cin => k_is)
    (case kin => k_is)
    (case aiw => k_is)
    (case liw => k_is)
    (case ciw => k_is)
    (case kiw => k_is)
    (case a0 => k_is)
    (case l0 => k_is)
    (case c0 => k_is)
    (case k0 => k_is)
    (case a1 => k_is)
    (case l1 => k_is)
    (case c1 => k_is)
    (case k1 => k_is)
    (case a2 => k_is)
    (case l2 => k_is)
    (case c2 => k_is)
    (case k2 => k_is)
    (case a3 => k_is)
    (case l3 => k_is)
    (case c3 => k_is)
    (case k3 => k_is)
    (case a4 => k_is)
    (case l4 => k_is)
    (case c4 => k_is)
    (case k4 => k_is)
    (case a5 => k_is)
    (case l5 => k_is)
    (case c5 => k_is)
    (case k5 => k_is)
    (case a6 => k_is)
    (case l6 => k_is)
    (case c6 => k_is)
    (case k6 => k_is)
    (case a7 => k_is)
    (case l7 => k_is)
    (case c7 => k_is)
    (case k7 => k_is)
    (case a8 => k_is)
    (case l8 => k_is)
    (case c8 => k_is)
    (case k8 => k_is)
    (case a9 => k_is)
    (case l9 => k_is)
    (case c9 => k_is)
    (case k9 => k_is)
    (case a10 => k_is)
    (case l10 => k_is)
    (case c10 => k_is)
    (case k10 => k_is)
    (case a11 => k_is)
    (case l11 => k_is)
    (case c11 => k_is)
    (case k11 => k_is)
    (case a12 => k_is)
    (case l12 => k_is)
    (case c12 => k_is)
    (case k12 => k_is)
    (case a13 => k_is)
    (case l13 => k_is)
    (case c13 => k_is)
    (case k13 => k_is)
    (case a14 => k_is)
    (case l14 => k_is)
    (case c14 => k_is)
    (case k14 => k_is)
    (case a15 => k_is)
    (case l15 => k_is)
    (case c15 => k_is)
    (case k15 => k_is)
    (case a16 => k_is)
    (case l16 => k_is)
    (case c16 => k_is)
    (case k16 => k_is)
    (case a17 => k_is)
    (case l17 => k_is)
    (case c17 => k_is)
    (case k17 => k_is)
    (case a18 => k_is)
    (case l18 => k_is)
    (case c18 => k_is)
    (case k18 => k_is)
    (case a19 => k_is)
    (case l19 => k_is)
    (case c19 => k_is)
    (case k19 => k_is)
    (case a20 => k_is)
    (case l20 => k_is)
    (case c20 => k_is)
    (case k20 => k_is)
    (case a21 => k_is)
    (case l21 => k_is)
    (case c21 => k_is)
    (case k21 => k_is)
    (case a22 => k_is)
    (case l22 => k_is)
    (case c22 => k_is)
    (case k22 => k_is)
    (case a23 => k_is)
    (case l23 => k_is)
    (case c23 => k_is)
    (case k23 => k_is)
    (case a24 => k_is)
    (case l24 => k_is)
    (case c24 => k_is)
    (case k24 => k_is)
    (case a25 => k_is)
    (case l25 => k_is)
    (case c25 => k_is)
    (case k25 => k_is)
    (case a26 => k_is)
    (case l26 => k_is)
    (case c26 => k_is)
    (case k26 => k_is)
    (case a27 => k_is)
    (case l27 => k_is)
    (case c27 => k_is)
    (case k27 => k_is)
    (case a28 => k_is)
    (case l28 => k_is)
    (case c28 => k_is)
    (case k28 => k_is)
    (case a29 => k_is)
    (case l29 => k_is)
    (case c29 => k_is)
    (case k29 => k_is)
    (case a30 => k_is)
    (case l30 => k_is)
    (case c30 => k_is)
    (case k30 => k_is)
    (case a31 => k_is)
    (case l31 => k_is)
    (case c31 => k_is)
    (case k31 => k_is)
    (case a32 => k_is)
    (case l32 => k_is)
    (case c32 => k_is)
    (case k32 => k_is)
    (case a33 => k_is)
    (case l33 => k_is)
    (case c33 => k_is)
    (case k33 => k_is)
    (case a34 => k_is)
    (case l34 => k_is)
    (case c34 => k_is)
    (case k34 => k_is)
    (case a35 => k_is)
    (case l35 => k_is)
    (case c35 => k_is)
    (case k35 => k_is)
    (case z0 => k_is)
    (case z1 => k_is)
    (case z2 => k_is)
    (case z3 => k_is)
    (case z4 => k_is)
    (case z5 => k_is)
    (case z6 => k_is)
    (case z7 => k_is)
    (case z8 => k_is)
    (case z9 => k_is)
    (case z10 => k_is)
    (case z11 => k_is)
    (case z12 => k_is)
    (case z13 => k_is)
    (case z14 => k_is)
    (case z15 => k_is)
    (case z16 => k_is)
    (case z17 => k_is)
    (case z18 => k_is)
    (case m0 => k_is)
    (case m1 => k_is)
